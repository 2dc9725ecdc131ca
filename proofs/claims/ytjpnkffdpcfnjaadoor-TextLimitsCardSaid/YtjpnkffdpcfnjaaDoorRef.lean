/-
  The reference of layer 1: Is, Encode.
-/
import Derived.Test.YtjpnkffdpcfnjaaDoorOf2
set_option linter.unusedVariables false
namespace Go.Proofs.YtjpnkffdpcfnjaaDoor
open Go.RowKit

set_option maxRecDepth 100000 in
set_option maxHeartbeats 400000 in
theorem is_any (c : Int) (w : World) :
    Calls Tryd.prog 15 #[.int .i64 c] w fun e w' => e = .returned (.bool (okc c)) ∧ w = w' := by
  have hfin : ∀ b : Bool, (b = true ↔ (0 ≤ c ∧ c ≤ 1114111 ∧ (c < 55296 ∨ 57343 < c))) → b = okc c := by
    intro b hb
    unfold okc
    cases b
    · symm; rw [decide_eq_false_iff_not]; intro h; have := hb.2 h; cases this
    · symm; rw [decide_eq_true_eq]; exact hb.1 rfl
  have HF := Lib.hid hfin
  clear hfin
  by_cases h0 : 0 ≤ c
  · by_cases h1 : c ≤ 1114111
    · by_cases h2 : c < 55296
      · have hd : decide (c < 55296) = true := by simpa using h2
        go_enter Tryd.func15, Tryd.ntmps15
        go_wp2
        go_ret
        exact ⟨congrArg (fun b => Ending.returned (.bool b)) (HF.out true (by simp; omega)), rfl⟩
      · have hd : decide (c < 55296) = false := by simpa using h2
        go_enter Tryd.func15, Tryd.ntmps15
        go_wp2
        go_ret
        exact ⟨congrArg (fun b => Ending.returned (.bool b)) (HF.out (decide (57343 < c)) (by simp; omega)), rfl⟩
    · have hd : decide (c ≤ 1114111) = false := by simpa using h1
      go_enter Tryd.func15, Tryd.ntmps15
      go_wp2
      go_ret
      exact ⟨congrArg (fun b => Ending.returned (.bool b)) (HF.out false (by simp; omega)), rfl⟩
  · have hd : decide (0 ≤ c) = false := by simpa using h0
    go_enter Tryd.func15, Tryd.ntmps15
    go_wp2
    go_ret
    exact ⟨congrArg (fun b => Ending.returned (.bool b)) (HF.out false (by simp; omega)), rfl⟩

/-- 'string' of bytes that were just built. -/
theorem convert_new (w : World) (l : List UInt8) :
    (convert 40 9 (.slice (some ⟨w.heap.size, 0, none⟩) l.length l.length)).run Tryd.prog (w.alloc (.cells (Lib.byteCells l).toArray 5)) = .ok (.string ⟨l.toArray⟩) (w.alloc (.cells (Lib.byteCells l).toArray 5)) := by
  refine run_convert_bytes_back _ _ _ _ _ _ l Tryd.underlying40 Tryd.underlying5 Tryd.underlying9 fun j hj => ?_
  rw [show (⟨w.heap.size, 0, none⟩ : Addr).add j = ⟨w.heap.size, j, none⟩ by simp only [Addr.add, Nat.zero_add]; split <;> simp_all, World.cell?_alloc_at _ _ _ _ rfl]
  simp [Lib.byteCells, hj]

theorem convert_cells (w : World) (l : List UInt8) (a : Array Value) (n : Nat) (ha : (Lib.byteCells l).toArray = a) (hn : l.length = n) :
    (convert 40 9 (.slice (some ⟨w.heap.size, 0, none⟩) n n)).run Tryd.prog (w.alloc (.cells a 5)) = .ok (.string ⟨l.toArray⟩) (w.alloc (.cells a 5)) := by
  subst ha hn
  exact convert_new w l

set_option maxRecDepth 100000 in
set_option maxHeartbeats 400000 in
theorem encode_one (c : Nat) (h : c < 128) (w : World) :
    Calls Tryd.prog 19 #[.int .i64 c] w fun e w' => e = .returned (.string ⟨[UInt8.ofNat (c)].toArray⟩) ∧ Below w.heap.size w w' := by
  have hcv := convert_cells w [UInt8.ofNat (c)] #[.int .u8 ((c : Int))] 1 (by simp [Lib.byteCells]; omega) rfl
  generalize [UInt8.ofNat (c)].toArray = r at hcv ⊢
  obtain ⟨z, hz⟩ : ∃ z : Int, z = (c : Int) := ⟨_, rfl⟩
  rw [← hz] at hcv ⊢
  have g0 : 0 ≤ z := by omega
  have g1 : z < 128 := by omega
  clear hz h
  go_enter Tryd.func19, Tryd.ntmps19
  go_wp2
  go_ret
  exact ⟨rfl, (Below.refl _ _).alloc (Nat.le_refl _) _⟩

set_option maxRecDepth 100000 in
set_option maxHeartbeats 400000 in
theorem encode_two (c : Nat) (h0 : 128 ≤ c) (h : c < 2048) (w : World) :
    Calls Tryd.prog 19 #[.int .i64 c] w fun e w' => e = .returned (.string ⟨[UInt8.ofNat (192 + c / 64), UInt8.ofNat (128 + c % 64)].toArray⟩) ∧ Below w.heap.size w w' := by
  have hcv := convert_cells w [UInt8.ofNat (192 + c / 64), UInt8.ofNat (128 + c % 64)] #[.int .u8 (192 + (c : Int) / 64), .int .u8 (128 + (c : Int) % 64)] 2 (by simp [Lib.byteCells]; omega) rfl
  generalize [UInt8.ofNat (192 + c / 64), UInt8.ofNat (128 + c % 64)].toArray = r at hcv ⊢
  obtain ⟨z, hz⟩ : ∃ z : Int, z = (c : Int) := ⟨_, rfl⟩
  rw [← hz] at hcv ⊢
  have g0 : 128 ≤ z := by omega
  have g1 : z < 2048 := by omega
  clear hz h h0
  go_enter Tryd.func19, Tryd.ntmps19
  go_wp2
  go_ret
  exact ⟨rfl, (Below.refl _ _).alloc (Nat.le_refl _) _⟩

set_option maxRecDepth 100000 in
set_option maxHeartbeats 400000 in
theorem encode_three (c : Nat) (h0 : 2048 ≤ c) (h : c < 65536) (w : World) :
    Calls Tryd.prog 19 #[.int .i64 c] w fun e w' => e = .returned (.string ⟨[UInt8.ofNat (224 + c / 4096), UInt8.ofNat (128 + c / 64 % 64), UInt8.ofNat (128 + c % 64)].toArray⟩) ∧ Below w.heap.size w w' := by
  have hcv := convert_cells w [UInt8.ofNat (224 + c / 4096), UInt8.ofNat (128 + c / 64 % 64), UInt8.ofNat (128 + c % 64)] #[.int .u8 (224 + (c : Int) / 4096), .int .u8 (128 + (c : Int) / 64 % 64), .int .u8 (128 + (c : Int) % 64)] 3 (by simp [Lib.byteCells]; omega) rfl
  generalize [UInt8.ofNat (224 + c / 4096), UInt8.ofNat (128 + c / 64 % 64), UInt8.ofNat (128 + c % 64)].toArray = r at hcv ⊢
  obtain ⟨z, hz⟩ : ∃ z : Int, z = (c : Int) := ⟨_, rfl⟩
  rw [← hz] at hcv ⊢
  have g0 : 2048 ≤ z := by omega
  have g1 : z < 65536 := by omega
  clear hz h h0
  go_enter Tryd.func19, Tryd.ntmps19
  go_wp2
  go_ret
  exact ⟨rfl, (Below.refl _ _).alloc (Nat.le_refl _) _⟩

set_option maxRecDepth 100000 in
set_option maxHeartbeats 400000 in
theorem encode_four (c : Nat) (h0 : 65536 ≤ c) (h : c < 1114112) (w : World) :
    Calls Tryd.prog 19 #[.int .i64 c] w fun e w' => e = .returned (.string ⟨[UInt8.ofNat (240 + c / 262144), UInt8.ofNat (128 + c / 4096 % 64), UInt8.ofNat (128 + c / 64 % 64), UInt8.ofNat (128 + c % 64)].toArray⟩) ∧ Below w.heap.size w w' := by
  have hcv := convert_cells w [UInt8.ofNat (240 + c / 262144), UInt8.ofNat (128 + c / 4096 % 64), UInt8.ofNat (128 + c / 64 % 64), UInt8.ofNat (128 + c % 64)] #[.int .u8 (240 + (c : Int) / 262144), .int .u8 (128 + (c : Int) / 4096 % 64), .int .u8 (128 + (c : Int) / 64 % 64), .int .u8 (128 + (c : Int) % 64)] 4 (by simp [Lib.byteCells]; omega) rfl
  generalize [UInt8.ofNat (240 + c / 262144), UInt8.ofNat (128 + c / 4096 % 64), UInt8.ofNat (128 + c / 64 % 64), UInt8.ofNat (128 + c % 64)].toArray = r at hcv ⊢
  obtain ⟨z, hz⟩ : ∃ z : Int, z = (c : Int) := ⟨_, rfl⟩
  rw [← hz] at hcv ⊢
  have g0 : 65536 ≤ z := by omega
  have g1 : z < 1114112 := by omega
  clear hz h h0
  go_enter Tryd.func19, Tryd.ntmps19
  go_wp2
  go_ret
  exact ⟨rfl, (Below.refl _ _).alloc (Nat.le_refl _) _⟩

theorem encode_any (c : Nat) (h : c < 1114112) (w : World) :
    Calls Tryd.prog 19 #[.int .i64 c] w fun e w' => e = .returned (.string ⟨(enc c).toArray⟩) ∧ Below w.heap.size w w' := by
  unfold enc
  by_cases h1 : c < 128
  · rw [if_pos h1]; exact encode_one c h1 w
  by_cases h2 : c < 2048
  · rw [if_neg h1, if_pos h2]; exact encode_two c (by omega) h2 w
  by_cases h3 : c < 65536
  · rw [if_neg h1, if_neg h2, if_pos h3]; exact encode_three c (by omega) h3 w
  · rw [if_neg h1, if_neg h2, if_neg h3]; exact encode_four c (by omega) h w
end Go.Proofs.YtjpnkffdpcfnjaaDoor
