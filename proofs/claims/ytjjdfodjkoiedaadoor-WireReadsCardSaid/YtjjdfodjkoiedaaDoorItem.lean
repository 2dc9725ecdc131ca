/-
  acheronlaw02: items: Few, same, slices.Equal at bools; write and read at nil.
-/
import Derived.Test.YtjjdfodjkoiedaaDoorNil
import Derived.Test.YtjjdfodjkoiedaaDoorRead3
set_option linter.unusedVariables false
namespace Go.Proofs.YtjjdfodjkoiedaaDoor
open Go.RowKit

/-- An item as Go holds it. -/
structure It where
  k : Int
  z : Int
  n : Int
  s : ByteArray
  la : Option Addr
  ll : Nat
  lc : Nat
def It.val (x : It) : Value := .agg #[.int .i64 x.k, .int .i64 x.z, .int .i64 x.n, .string x.s, .slice x.la x.ll x.lc]
def It.bad (x : It) : Bool := decide ((3000 : Int) < (x.s.size : Int)) || decide ((3000 : Int) < (x.ll : Int))

def ItemsAt (w : World) (v : Value) (xs : List It) : Prop :=
  ∃ a cap, v = .slice a xs.length cap ∧ (xs = [] ∨ ∃ b o, a = some ⟨b, o, none⟩ ∧ b < w.heap.size ∧ ∀ j (h : j < xs.length),
    w.cell? ⟨b, o + j * 5, none⟩ = some (.int .i64 xs[j].k) ∧ w.cell? ⟨b, o + j * 5 + 1, none⟩ = some (.int .i64 xs[j].z) ∧ w.cell? ⟨b, o + j * 5 + 1 + 1, none⟩ = some (.int .i64 xs[j].n) ∧
    w.cell? ⟨b, o + j * 5 + 1 + 1 + 1, none⟩ = some (.string xs[j].s) ∧ w.cell? ⟨b, o + j * 5 + 1 + 1 + 1 + 1, none⟩ = some (.slice xs[j].la xs[j].ll xs[j].lc))

theorem ItemsAt.below {w w' : World} {v : Value} {xs : List It} (h : ItemsAt w v xs) (hb : Below w.heap.size w w') : ItemsAt w' v xs := by
  obtain ⟨a, cap, hv, h⟩ := h
  refine ⟨a, cap, hv, ?_⟩
  rcases h with h | ⟨b, o, ha, hlt, hc⟩
  · exact .inl h
  · exact .inr ⟨b, o, ha, Nat.lt_of_lt_of_le hlt hb.size, fun j hj => by
      have := hc j hj
      simpa only [fun i => hb.cell (p := ⟨b, i, none⟩) hlt] using this⟩

set_option maxHeartbeats 400000 in
theorem few1_any (x : It) (w : World) :
    Calls Tryd.prog 34 #[x.val] w fun e w' => e = .returned (.bool x.bad) ∧ Below w.heap.size w w' := by
  obtain ⟨k, z, n, s, la, ll, lc⟩ := x
  unfold It.val It.bad
  simp only
  by_cases h1 : (3000 : Int) < (s.size : Int)
  · rw [decide_eq_true h1]
    go_enter Tryd.func34, Tryd.ntmps34
    go_wp2
    go_ret
    exact ⟨rfl, below_al (Below.refl _ _)⟩
  · rw [decide_eq_false h1, Bool.false_or]
    go_enter Tryd.func34, Tryd.ntmps34
    go_wp2
    go_ret
    exact ⟨rfl, below_al (Below.refl _ _)⟩

set_option maxHeartbeats 1000000 in
set_option maxRecDepth 100000 in
theorem index_any (v : Value) (xs : List It) (hl : xs.length ≤ 1000000000) (w : World) (h : ItemsAt w v xs) :
    Calls Tryd.prog 69 #[v, .func (.func 34) #[] #[]] w fun e w' => ∃ r : Int, e = .returned (.int .i64 r) ∧ decide (0 ≤ r) = xs.any It.bad ∧ Below w.heap.size w w' := by
  obtain ⟨a, cap, rfl, hx⟩ := h
  have HX : Hid (xs = [] ∨ ∃ b o, a = some ⟨b, o, none⟩ ∧ b < w.heap.size ∧ ∀ j (h : j < xs.length),
    w.cell? ⟨b, o + j * 5, none⟩ = some (.int .i64 xs[j].k) ∧ w.cell? ⟨b, o + j * 5 + 1, none⟩ = some (.int .i64 xs[j].z) ∧ w.cell? ⟨b, o + j * 5 + 1 + 1, none⟩ = some (.int .i64 xs[j].n) ∧
    w.cell? ⟨b, o + j * 5 + 1 + 1 + 1, none⟩ = some (.string xs[j].s) ∧ w.cell? ⟨b, o + j * 5 + 1 + 1 + 1 + 1, none⟩ = some (.slice xs[j].la xs[j].ll xs[j].lc)) := hx
  clear hx
  go_enter Tryd.func69, Tryd.ntmps69
  go_wp2
  go_loopw [8] (fun i wr => ∃ k : Nat, k ≤ xs.length ∧ i = .int .i64 k ∧ (xs.take k).any It.bad = false ∧ Below w.heap.size w wr) (fun i _ => xs.length - (intOf i).toNat)
  case atStart => exact ⟨0, Nat.zero_le _, rfl, rfl, Below.refl _ _⟩
  case round =>
    obtain ⟨k, hk, rfl, hno, hbel⟩ := hrel
    have HNO := Lib.hid hno
    clear hno
    by_cases hlt : k < xs.length
    · have hltI : (k : Int) < (xs.length : Int) := by omega
      rcases HX.out with hnil | ⟨b, o, rfl, hbl, hc⟩
      · rw [hnil] at hlt; exact absurd hlt (Nat.not_lt_zero _)
      obtain ⟨c0, c1, c2, c3, c4⟩ := hc k hlt
      simp only [← fun i => hbel.cell (p := ⟨b, i, none⟩) hbl] at c0 c1 c2 c3 c4
      have hf := fun w => few1_any xs[k] w
      have HTK : Hid ((xs.take (k + 1)).any It.bad = ((xs.take k).any It.bad || xs[k].bad)) := by
        show _ = _
        rw [List.take_succ_eq_append_getElem hlt, List.any_append]; simp
      have HMEM : Hid (xs[k].bad = true → xs.any It.bad = true) := fun h => List.any_eq_true.2 ⟨_, List.getElem_mem hlt, h⟩
      unfold It.val at hf
      generalize xs[k] = x at *
      cases hbd : x.bad
      · rw [hbd] at hf
        have HF := Lib.hid hf
        have HBD := Lib.hid hbd
        clear hc hf hbd
        go_wp2_with fail
        refine (HF.out _).mono ?_
        rintro e w1 ⟨rfl, hb1⟩
        have HB1 := Lib.hid (hbel.trans (hb1.mono hbel.size))
        clear c0 c1 c2 c3 c4 hb1 hbel
        go_wp2
        go_roundw
        case rel => exact ⟨k + 1, by omega, by go_num, by rw [HTK.out, HNO.out, HBD.out]; rfl, HB1.out⟩
        case measure => simp [intOf]; omega
      · rw [hbd] at hf
        have HF := Lib.hid hf
        have HBD := Lib.hid (HMEM.out hbd)
        clear hc hf hbd
        go_wp2_with fail
        refine (HF.out _).mono ?_
        rintro e w1 ⟨rfl, hb1⟩
        have HB1 := Lib.hid (hbel.trans (hb1.mono hbel.size))
        clear c0 c1 c2 c3 c4 hb1 hbel
        go_wp2
        go_ret
        exact ⟨k, rfl, by rw [HBD.out]; exact decide_eq_true (by omega), HB1.out⟩
    · obtain rfl : k = xs.length := by omega
      go_wp2
      go_ret
      exact ⟨-1, rfl, by have := HNO.out; rw [List.take_length] at this; rw [this]; rfl, hbel⟩

set_option maxHeartbeats 1000000 in
theorem contains_any (v : Value) (xs : List It) (hl : xs.length ≤ 1000000000) (w : World) (h : ItemsAt w v xs) :
    Calls Tryd.prog 33 #[v, .func (.func 34) #[] #[]] w fun e w' => e = .returned (.bool (xs.any It.bad)) ∧ Below w.heap.size w w' := by
  have H := Lib.hid (index_any v xs hl w h)
  clear h
  go_enter Tryd.func33, Tryd.ntmps33
  go_wp2_with fail
  refine H.out.mono ?_
  rintro e w1 ⟨r, rfl, hr, hb⟩
  have HR := Lib.hid hr
  clear hr
  go_wp2
  go_ret
  exact ⟨ret_bool HR.out, hb⟩

def fewB (xs : List It) : Bool := decide (xs.length ≤ 30) && !(xs.any It.bad)

set_option maxHeartbeats 1000000 in
theorem few_any (v : Value) (xs : List It) (w : World) (h : ItemsAt w v xs) :
    Calls Tryd.prog 11 #[v] w fun e w' => e = .returned (.bool (fewB xs)) ∧ Below w.heap.size w w' := by
  have hc := fun hl => contains_any v xs hl w h
  obtain ⟨a, cap, rfl, _⟩ := h
  unfold fewB
  by_cases h30 : xs.length ≤ 30
  · rw [decide_eq_true h30, Bool.true_and]
    have H := Lib.hid (hc (by omega))
    have h3 : (xs.length : Int) ≤ 30 := by omega
    clear hc
    go_enter Tryd.func11, Tryd.ntmps11
    go_wp2_with fail
    refine H.out.mono ?_
    rintro e w1 ⟨rfl, hb⟩
    go_wp2
    go_ret
    exact ⟨rfl, hb⟩
  · rw [decide_eq_false h30, Bool.false_and]
    have h3 : ¬ (xs.length : Int) ≤ 30 := by omega
    clear hc
    go_enter Tryd.func11, Tryd.ntmps11
    go_wp2
    go_ret
    exact ⟨rfl, Below.refl _ _⟩

def zeroIt : Value := .agg #[.int .i64 0, .int .i64 0, .int .i64 0, .string ⟨#[]⟩, .slice none 0 0]

set_option maxHeartbeats 1000000 in
set_option maxRecDepth 100000 in
theorem writeNil_any (x : It) (w : World) :
    Calls Tryd.prog 16 #[.pointer none, x.val] w fun e w' => e = .returned (.int .i64 6) ∧ Below w.heap.size w w' := by
  obtain ⟨k, z, n, s, la, ll, lc⟩ := x
  unfold It.val
  simp only
  go_enter Tryd.func16, Tryd.ntmps16
  go_wp2_with (first
    | (go_at_call 40; refine (nLittleW _ _ _).mono ?_; rintro e w1 ⟨rfl, rfl⟩)
    | (go_at_call 31; refine (nSignedW _ _ _).mono ?_; rintro e w1 ⟨rfl, rfl⟩)
    | (go_at_call 27; refine (nNumberW _ _).mono ?_; rintro e w1 ⟨rfl, rfl⟩)
    | (go_at_call 41; refine (nStringW _ _).mono ?_; rintro e w1 ⟨rfl, rfl⟩)
    | (go_at_call 30; refine (nBitsW _ _).mono ?_; rintro e w1 ⟨rfl, rfl⟩)
    | (go_at_call 42; refine (nRawW _ _).mono ?_; rintro e w1 ⟨rfl, rfl⟩))
  all_goals
    go_ret
    exact ⟨rfl, below_al (Below.refl _ _)⟩
end Go.Proofs.YtjjdfodjkoiedaaDoor
