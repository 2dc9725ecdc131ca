/-
  Strings at the limit: what the law TextLimits calls, at its own arguments.
-/
import Derived.Test.YtjpnkffdpcfnjaaDoorSet
import Derived.Test.YtjpnkffdpcfnjaaDoorLim2
import Derived.Test.YtjpnkffdpcfnjaaDoorLimM
import Derived.Test.YtjpnkffdpcfnjaaDoorUnq
import Derived.Deep.OwnRows
set_option linter.unusedVariables false
namespace Go.Proofs.YtjpnkffdpcfnjaaDoor
open Go.RowKit

theorem infoU8' : (Tryd.prog.info? 5).map (fun i => (i.zero, i.size, i.bytes)) = some (some (.int .u8 0), 1, 1) := by kernel_rfl
def zeroO (p : Nat) : Obj := .cells (madeCells #[.int .u8 0] p) 5
theorem make_zeros (p : Nat) (hp : p ≤ 1000000) (w : World) :
    (Instr.makeSlice 40 (.int .i64 (p : Int)) (.int .i64 (p : Int))).run Tryd.prog w = .ok (.slice (some ⟨w.heap.size, 0, none⟩) p p) (w.alloc (zeroO p)) :=
  run_make_row' (P := Tryd.prog) 40 5 (.int .u8 0) 1 Tryd.underlying40 infoU8' rfl .i64 .i64 p (by omega) (by omega) w
theorem bytes_zeros (p : Nat) (w : World) : BytesAt (w.alloc (zeroO p)) (.slice (some ⟨w.heap.size, 0, none⟩) p p) (List.replicate p 0) := by
  refine ⟨some ⟨w.heap.size, 0, none⟩, p, by rw [List.length_replicate], fun c hc => by rw [(List.mem_replicate.1 hc).2]; omega, .inr ⟨w.heap.size, 0, rfl, by simp, fun j hj => ?_⟩⟩
  have hr := World.rowIs_made w (.int .u8 0) p 5
  have hj' : j < p := by simpa using hj
  have := hr.cell hj'
  rw [Nat.zero_add]
  unfold zeroO
  rw [this]
  simp
def zeroS (p : Nat) : ByteArray := ⟨((List.replicate p 0).map UInt8.ofNat).toArray⟩
theorem zeroS_list (p : Nat) : (zeroS p).data.toList = List.replicate p 0 := by simp [zeroS]
theorem zeroS_size (p : Nat) : (zeroS p).size = p := by
  unfold zeroS
  show (List.toArray _).size = _
  simp
theorem zeroS_at (p k : Nat) (h : k < (zeroS p).size) : byteAt (zeroS p) k = 0 := by
  have h1 := (drop_at (s := zeroS p) (a := 0) (l := List.replicate p 0) (by rw [zeroS_list]; rfl) k (by rw [List.length_replicate, ← zeroS_size p]; exact h)).2
  rw [Nat.zero_add] at h1
  rw [h1]
  simp
theorem decs_zeros (p : Nat) : decs (zeroS p) = List.replicate p 0 := by
  unfold decs
  rw [decF_zeros _ (zeroS_at p) _ 0 (by omega), Nat.sub_zero, zeroS_size]

theorem decs_one (c : Nat) (hc : c < 1114112 ∧ (c < 55296 ∨ 57343 < c)) : decs ⟨(enc c).toArray⟩ = [c] := by
  have h := decs_textOf [c] (fun d hd => by rw [List.mem_singleton.1 hd]; exact hc)
  have e : textOf [c] = enc c := by simp [textOf]
  rwa [e] at h
theorem of_one (c : Nat) (hc : c < 1114112 ∧ (c < 55296 ∨ 57343 < c)) (w : World) :
    Calls Tryd.prog 18 #[.string ⟨(enc c).toArray⟩] w fun e w' => e = .returned (.tuple #[strV [c], .int .i64 0]) ∧ Below w.heap.size w w' := by
  have h := Of_ok ⟨(enc c).toArray⟩ w (by have := enc_len c; show (List.toArray _).size ≤ _; rw [List.size_toArray]; omega) (by rw [decs_one c hc]; simp)
  rwa [decs_one c hc] at h
theorem of_many (q : Nat) (hq : q = 65537) (w : World) :
    Calls Tryd.prog 18 #[.string (zeroS q)] w fun e w' => e = .returned (noV 3) ∧ Below w.heap.size w w' :=
  Of_limit (zeroS q) w (by rw [zeroS_size]; omega) (by rw [decs_zeros, List.length_replicate]; omega)

theorem chars_one {c : Nat} (hc : c < 1114112 ∧ (c < 55296 ∨ 57343 < c)) {l : List Nat} (hl : Chars l) : Chars (l ++ [c]) := fun d hd => by
  rcases List.mem_append.1 hd with h | h
  · exact hl d h
  · rw [List.mem_singleton.1 h]; exact hc
theorem sub_all (l : List Nat) : sub l 0 l.length = l := by simp [sub]
theorem sub_end (l : List Nat) : sub l l.length l.length = [] := by simp [sub]
theorem flat_set (l : List Nat) (c : Nat) : ([sub l 0 l.length, [c], sub l l.length l.length]).flatten = l ++ [c] := by rw [sub_all, sub_end]; simp
theorem flat_two (l : List Nat) (c : Nat) : ([l, [c]]).flatten = l ++ [c] := by simp

/-- Set behind the last character. -/
theorem set_end (l : List Nat) (hl : l.length < 65536) (hch : Chars l) (c : Nat) (hc : okc (c : Int) = true) (w : World) :
    Calls Tryd.prog 20 #[strV l, .int .i64 (l.length : Int), .int .i64 c] w fun e w' => e = .returned (.tuple #[strV (l ++ [c]), .int .i64 0]) ∧ Below w.heap.size w w' := by
  have h := set_any l (by omega) hch l.length c l.length (Nat.le_refl _) (.inr ⟨rfl, rfl⟩) hc (by rw [flat_set, List.length_append, List.length_singleton]; omega) w
  rwa [flat_set] at h
theorem set_full (l : List Nat) (hl : l.length = 65536) (hch : Chars l) (c : Nat) (hc : okc (c : Int) = true) (w : World) :
    Calls Tryd.prog 20 #[strV l, .int .i64 (l.length : Int), .int .i64 c] w fun e w' => e = .returned (noV 3) ∧ Below w.heap.size w w' :=
  set_gen l (by omega) hch l.length c l.length (Nat.le_refl _) (.inr ⟨rfl, rfl⟩) hc ⟨#[]⟩ false 3 (fun v W h => join_limit _ (by simp) (fun k hk => by
    have hk3 : k < 3 := hk
    rcases (by omega : k = 0 ∨ k = 1 ∨ k = 2) with rfl | rfl | rfl
    · show (sub l 0 l.length).length ≤ _; rw [sub_all]; omega
    · show ([c] : List Nat).length ≤ _; simp
    · show (sub l l.length l.length).length ≤ _; rw [sub_end]; simp) (by rw [flat_set, List.length_append, List.length_singleton]; omega) v W h (by simp)) w

theorem strsAt_two (W : World) (a b : List Nat) : StrsAt (W.alloc (.cells #[.string (pk a), .bool (wideL a), .string (pk b), .bool (wideL b)] 24)) (.slice (some ⟨W.heap.size, 0, none⟩) 2 2) [a, b] := by
  refine ⟨_, 2, rfl, .inr ⟨W.heap.size, 0, rfl, by simp, fun j hj => ?_⟩⟩
  rw [World.cell?_alloc_at _ _ _ _ rfl, World.cell?_alloc_at _ _ _ _ rfl]
  have hj' : j < 2 := hj
  rcases (by omega : j = 0 ∨ j = 1) with rfl | rfl <;> exact ⟨rfl, rfl⟩
theorem join_two (l : List Nat) (hl : l.length < 65536) (c : Nat) (v : Value) (w : World) (h : StrsAt w v [l, [c]]) :
    Calls Tryd.prog 21 #[v] w fun e w' => e = .returned (.tuple #[strV (l ++ [c]), .int .i64 0]) ∧ Below w.heap.size w w' := by
  have hj := join_ok [l, [c]] (by simp) (by rw [flat_two, List.length_append, List.length_singleton]; omega) v w h (by simp)
  rwa [flat_two] at hj
theorem join_full (l : List Nat) (hl : l.length = 65536) (c : Nat) (v : Value) (w : World) (h : StrsAt w v [l, [c]]) :
    Calls Tryd.prog 21 #[v] w fun e w' => e = .returned (noV 3) ∧ Below w.heap.size w w' :=
  join_limit [l, [c]] (by simp) (fun k hk => by
    have hk2 : k < 2 := hk
    rcases (by omega : k = 0 ∨ k = 1) with rfl | rfl
    · show l.length ≤ _; omega
    · show ([c] : List Nat).length ≤ _; simp) (by rw [flat_two, List.length_append, List.length_singleton]; omega) v w h (by simp)

/-- The literal with one character too many. -/
theorem unq_full (c : Nat) (hc : c < 1114112 ∧ (c < 55296 ∨ 57343 < c)) (e5 : c ≠ 34) (e1 : c ≠ 10) (e6 : c ≠ 92) (m : Nat) (hm : m = 65536) (w : World) (ht : TabU w) :
    Calls Tryd.prog 9 #[.string (((⟨#[34]⟩ : ByteArray) ++ zeroS m) ++ ⟨(enc c).toArray⟩ ++ ⟨#[34]⟩)] w fun e w' => e = .returned (.tuple #[.agg #[.string ⟨#[]⟩, .bool false], .int .i64 ((m + 1 : Nat) : Int), .int .i64 3]) ∧ Below w.heap.size w w' := by
  have hel := enc_len c
  have hl : ((((⟨#[34]⟩ : ByteArray) ++ zeroS m) ++ ⟨(enc c).toArray⟩ ++ ⟨#[34]⟩ : ByteArray)).data.toList = 34 :: (List.replicate m 0 ++ (enc c ++ [34])) := by
    simp only [ByteArray.data_append, Array.toList_append, zeroS_list]
    simp
  have hs : ((((⟨#[34]⟩ : ByteArray) ++ zeroS m) ++ ⟨(enc c).toArray⟩ ++ ⟨#[34]⟩ : ByteArray)).size ≤ 1000000000 := by
    show (((((⟨#[34]⟩ : ByteArray) ++ zeroS m) ++ ⟨(enc c).toArray⟩ ++ ⟨#[34]⟩ : ByteArray)).data).size ≤ _
    rw [← Array.length_toList, hl]
    simp only [List.length_cons, List.length_append, List.length_replicate, List.length_nil]
    omega
  have h := unq_any _ hs w ht
  rw [unqL_limit c hc e5 e1 e6 m hm _ hl] at h
  exact h
end Go.Proofs.YtjpnkffdpcfnjaaDoor
