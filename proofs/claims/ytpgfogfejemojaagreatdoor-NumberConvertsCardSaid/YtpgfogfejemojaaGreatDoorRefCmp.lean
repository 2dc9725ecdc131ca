/-
  acheronref04: FitsCompare, Compare.
-/
import Derived.Test.YtpgfogfejemojaaGreatDoorRef1
import Derived.Test.YtpgfogfejemojaaGreatDoorCmpA
set_option linter.unusedVariables false
namespace Go.Proofs.YtpgfogfejemojaaGreatDoor
open Go.RowKit

set_option maxRecDepth 100000 in
theorem refFitsCmp_yes (op : Int) (h : 10 ≤ op) (h2 : op ≤ 15) (w : World) : Calls Tryz.prog 26 #[.int .i64 op] w fun e w' => e = .returned (.bool true) ∧ w = w' := by
  go_enter Tryz.func26, Tryz.ntmps26
  go_wp2
  all_goals first
    | (go_ret; first | exact ⟨rfl, rfl⟩ | (refine ⟨?_, rfl⟩; simp; omega))
    | (exfalso; omega)
set_option maxRecDepth 100000 in
theorem refFitsCmp_no (op : Int) (h : op < 10 ∨ 15 < op) (w : World) : Calls Tryz.prog 26 #[.int .i64 op] w fun e w' => e = .returned (.bool false) ∧ w = w' := by
  rcases h with h | h
  all_goals
    go_enter Tryz.func26, Tryz.ntmps26
    go_wp2
  all_goals first
    | (go_ret; first | exact ⟨rfl, rfl⟩ | (refine ⟨?_, rfl⟩; simp; omega))
    | (exfalso; omega)
theorem refValue_any (n : Int) (w : World) : Calls Tryz.prog 38 #[.int .i64 n] w fun e w' => e = .returned (.float .f64 (bitsN n)) ∧ w = w' := by
  have h1 := run_frombits
  unfold bitsN
  go_enter Tryz.func38, Tryz.ntmps38
  go_wp2
  go_ret
  exact ⟨rfl, rfl⟩
set_option maxRecDepth 100000 in
theorem refCmpI_10 (k a b x y : Int) (k4 : (k == 4) = false)
    (ha : ∀ w, Calls Tryz.prog 17 #[.int .i64 k, .int .i64 a] w fun e w' => e = .returned (.int .i64 x) ∧ w = w')
    (hb : ∀ w, Calls Tryz.prog 17 #[.int .i64 k, .int .i64 b] w fun e w' => e = .returned (.int .i64 y) ∧ w = w') (w : World) :
    Calls Tryz.prog 27 #[.int .i64 k, .int .i64 10, .int .i64 a, .int .i64 b] w fun e w' => e = .returned (.bool (cmpI 10 x y)) ∧ w = w' := by
  have HhA := Lib.hid ha
  have HhB := Lib.hid hb
  clear ha hb
  rcases Int.lt_trichotomy x y with h | h | h
  all_goals
    have HR : Hid _ := Lib.hid (rfl : cmpI 10 x y = cmpI 10 x y)
    obtain ⟨hl, hm⟩ : decide (x < y) = _ ∧ decide (x > y) = _ := ⟨by first | exact decide_eq_true h | exact decide_eq_false (by omega), by first | exact decide_eq_true h | exact decide_eq_false (by omega)⟩
    go_enter Tryz.func27, Tryz.ntmps27
    go_wp2_with fail
    refine (HhA.out _).mono ?_
    rintro e w1 ⟨rfl, rfl⟩
    go_wp2_with fail
    refine (HhB.out _).mono ?_
    rintro e w2 ⟨rfl, rfl⟩
    go_wp2_with fail
    go_ret
    refine ⟨?_, rfl⟩
    simp [cmpI]
    omega
set_option maxRecDepth 100000 in
theorem refCmpI_11 (k a b x y : Int) (k4 : (k == 4) = false)
    (ha : ∀ w, Calls Tryz.prog 17 #[.int .i64 k, .int .i64 a] w fun e w' => e = .returned (.int .i64 x) ∧ w = w')
    (hb : ∀ w, Calls Tryz.prog 17 #[.int .i64 k, .int .i64 b] w fun e w' => e = .returned (.int .i64 y) ∧ w = w') (w : World) :
    Calls Tryz.prog 27 #[.int .i64 k, .int .i64 11, .int .i64 a, .int .i64 b] w fun e w' => e = .returned (.bool (cmpI 11 x y)) ∧ w = w' := by
  have HhA := Lib.hid ha
  have HhB := Lib.hid hb
  clear ha hb
  rcases Int.lt_trichotomy x y with h | h | h
  all_goals
    have HR : Hid _ := Lib.hid (rfl : cmpI 11 x y = cmpI 11 x y)
    obtain ⟨hl, hm⟩ : decide (x < y) = _ ∧ decide (x > y) = _ := ⟨by first | exact decide_eq_true h | exact decide_eq_false (by omega), by first | exact decide_eq_true h | exact decide_eq_false (by omega)⟩
    go_enter Tryz.func27, Tryz.ntmps27
    go_wp2_with fail
    refine (HhA.out _).mono ?_
    rintro e w1 ⟨rfl, rfl⟩
    go_wp2_with fail
    refine (HhB.out _).mono ?_
    rintro e w2 ⟨rfl, rfl⟩
    go_wp2_with fail
    go_ret
    refine ⟨?_, rfl⟩
    simp [cmpI]
    omega
set_option maxRecDepth 100000 in
theorem refCmpI_12 (k a b x y : Int) (k4 : (k == 4) = false)
    (ha : ∀ w, Calls Tryz.prog 17 #[.int .i64 k, .int .i64 a] w fun e w' => e = .returned (.int .i64 x) ∧ w = w')
    (hb : ∀ w, Calls Tryz.prog 17 #[.int .i64 k, .int .i64 b] w fun e w' => e = .returned (.int .i64 y) ∧ w = w') (w : World) :
    Calls Tryz.prog 27 #[.int .i64 k, .int .i64 12, .int .i64 a, .int .i64 b] w fun e w' => e = .returned (.bool (cmpI 12 x y)) ∧ w = w' := by
  have HhA := Lib.hid ha
  have HhB := Lib.hid hb
  clear ha hb
  rcases Int.lt_trichotomy x y with h | h | h
  all_goals
    have HR : Hid _ := Lib.hid (rfl : cmpI 12 x y = cmpI 12 x y)
    obtain ⟨hl, hm⟩ : decide (x < y) = _ ∧ decide (x > y) = _ := ⟨by first | exact decide_eq_true h | exact decide_eq_false (by omega), by first | exact decide_eq_true h | exact decide_eq_false (by omega)⟩
    go_enter Tryz.func27, Tryz.ntmps27
    go_wp2_with fail
    refine (HhA.out _).mono ?_
    rintro e w1 ⟨rfl, rfl⟩
    go_wp2_with fail
    refine (HhB.out _).mono ?_
    rintro e w2 ⟨rfl, rfl⟩
    go_wp2_with fail
    go_ret
    refine ⟨?_, rfl⟩
    simp [cmpI]
    omega
set_option maxRecDepth 100000 in
theorem refCmpI_13 (k a b x y : Int) (k4 : (k == 4) = false)
    (ha : ∀ w, Calls Tryz.prog 17 #[.int .i64 k, .int .i64 a] w fun e w' => e = .returned (.int .i64 x) ∧ w = w')
    (hb : ∀ w, Calls Tryz.prog 17 #[.int .i64 k, .int .i64 b] w fun e w' => e = .returned (.int .i64 y) ∧ w = w') (w : World) :
    Calls Tryz.prog 27 #[.int .i64 k, .int .i64 13, .int .i64 a, .int .i64 b] w fun e w' => e = .returned (.bool (cmpI 13 x y)) ∧ w = w' := by
  have HhA := Lib.hid ha
  have HhB := Lib.hid hb
  clear ha hb
  rcases Int.lt_trichotomy x y with h | h | h
  all_goals
    have HR : Hid _ := Lib.hid (rfl : cmpI 13 x y = cmpI 13 x y)
    obtain ⟨hl, hm⟩ : decide (x < y) = _ ∧ decide (x > y) = _ := ⟨by first | exact decide_eq_true h | exact decide_eq_false (by omega), by first | exact decide_eq_true h | exact decide_eq_false (by omega)⟩
    go_enter Tryz.func27, Tryz.ntmps27
    go_wp2_with fail
    refine (HhA.out _).mono ?_
    rintro e w1 ⟨rfl, rfl⟩
    go_wp2_with fail
    refine (HhB.out _).mono ?_
    rintro e w2 ⟨rfl, rfl⟩
    go_wp2_with fail
    go_ret
    refine ⟨?_, rfl⟩
    simp [cmpI]
    omega
set_option maxRecDepth 100000 in
theorem refCmpI_14 (k a b x y : Int) (k4 : (k == 4) = false)
    (ha : ∀ w, Calls Tryz.prog 17 #[.int .i64 k, .int .i64 a] w fun e w' => e = .returned (.int .i64 x) ∧ w = w')
    (hb : ∀ w, Calls Tryz.prog 17 #[.int .i64 k, .int .i64 b] w fun e w' => e = .returned (.int .i64 y) ∧ w = w') (w : World) :
    Calls Tryz.prog 27 #[.int .i64 k, .int .i64 14, .int .i64 a, .int .i64 b] w fun e w' => e = .returned (.bool (cmpI 14 x y)) ∧ w = w' := by
  have HhA := Lib.hid ha
  have HhB := Lib.hid hb
  clear ha hb
  rcases Int.lt_trichotomy x y with h | h | h
  all_goals
    have HR : Hid _ := Lib.hid (rfl : cmpI 14 x y = cmpI 14 x y)
    obtain ⟨hl, hm⟩ : decide (x < y) = _ ∧ decide (x > y) = _ := ⟨by first | exact decide_eq_true h | exact decide_eq_false (by omega), by first | exact decide_eq_true h | exact decide_eq_false (by omega)⟩
    go_enter Tryz.func27, Tryz.ntmps27
    go_wp2_with fail
    refine (HhA.out _).mono ?_
    rintro e w1 ⟨rfl, rfl⟩
    go_wp2_with fail
    refine (HhB.out _).mono ?_
    rintro e w2 ⟨rfl, rfl⟩
    go_wp2_with fail
    go_ret
    refine ⟨?_, rfl⟩
    simp [cmpI]
    omega
set_option maxRecDepth 100000 in
theorem refCmpI_15 (k a b x y : Int) (k4 : (k == 4) = false)
    (ha : ∀ w, Calls Tryz.prog 17 #[.int .i64 k, .int .i64 a] w fun e w' => e = .returned (.int .i64 x) ∧ w = w')
    (hb : ∀ w, Calls Tryz.prog 17 #[.int .i64 k, .int .i64 b] w fun e w' => e = .returned (.int .i64 y) ∧ w = w') (w : World) :
    Calls Tryz.prog 27 #[.int .i64 k, .int .i64 15, .int .i64 a, .int .i64 b] w fun e w' => e = .returned (.bool (cmpI 15 x y)) ∧ w = w' := by
  have HhA := Lib.hid ha
  have HhB := Lib.hid hb
  clear ha hb
  rcases Int.lt_trichotomy x y with h | h | h
  all_goals
    have HR : Hid _ := Lib.hid (rfl : cmpI 15 x y = cmpI 15 x y)
    obtain ⟨hl, hm⟩ : decide (x < y) = _ ∧ decide (x > y) = _ := ⟨by first | exact decide_eq_true h | exact decide_eq_false (by omega), by first | exact decide_eq_true h | exact decide_eq_false (by omega)⟩
    go_enter Tryz.func27, Tryz.ntmps27
    go_wp2_with fail
    refine (HhA.out _).mono ?_
    rintro e w1 ⟨rfl, rfl⟩
    go_wp2_with fail
    refine (HhB.out _).mono ?_
    rintro e w2 ⟨rfl, rfl⟩
    go_wp2_with fail
    go_ret
    refine ⟨?_, rfl⟩
    simp [cmpI]
    omega
theorem cOrder_swap (d e : Ieee.Datum) : e.order d = (d.order e).map Ordering.swap := by
  cases d with
  | nan s f => cases e <;> simp [Ieee.Datum.order]
  | infinity s => cases e with
    | nan t g => simp [Ieee.Datum.order]
    | infinity t => cases s <;> cases t <;> simp [Ieee.Datum.order] <;> decide
    | number t n j => cases s <;> simp [Ieee.Datum.order]
  | number s m i => cases e with
    | nan t g => simp [Ieee.Datum.order]
    | infinity t => cases t <;> simp [Ieee.Datum.order]
    | number t n j =>
      simp only [Ieee.Datum.order, Option.map_some, Option.some.injEq]
      rw [Int.min_comm j i]
      exact (Int.compare_swap _ _).symm
theorem cOrder_none (d e : Ieee.Datum) : d.order e = none ↔ d.isNaN = true ∨ e.isNaN = true := by
  cases d <;> cases e <;> simp [Ieee.Datum.order, Ieee.Datum.isNaN]
theorem cNanB_read (b : Nat) : nanB b = (FloatKind.f64.format.read b).isNaN := by
  unfold nanB Ieee.Format.order
  cases FloatKind.f64.format.read b <;> simp [Ieee.Datum.order, Ieee.Datum.isNaN]
theorem cOrdN_none (x y : Nat) : ordN x y = none ↔ nanB x = true ∨ nanB y = true := by
  rw [cNanB_read, cNanB_read]; exact cOrder_none _ _
theorem cOrdN_swap (x y : Nat) : ordN y x = (ordN x y).map Ordering.swap := cOrder_swap _ _
theorem cWrR_nan (n : Int) (h0 : -9223372036854775808 ≤ n) (h1 : n ≤ 9223372036854775807) : nanB (bitsN (wrR n)) = decide (wrR n = 9221120237041090561) := by
  have hc : nanB (bitsN 9221120237041090561) = true := by decide +kernel
  rw [wrR_of n h0 h1]
  by_cases h : nanB (bitsN n) = true
  · rw [if_pos h, hc]; rfl
  · rw [if_neg h]
    have hne : n ≠ 9221120237041090561 := by
      intro e; rw [e] at h; exact h hc
    rw [decide_eq_false hne]
    simpa using h

set_option maxRecDepth 100000 in
theorem refCmpR_10_lt (a b : Int) (hA : (wrR a == 9221120237041090561) = false) (hB : (wrR b == 9221120237041090561) = false) (ho : ordN (bitsN (wrR a)) (bitsN (wrR b)) = some .lt)
    (ha : ∀ w, Calls Tryz.prog 17 #[.int .i64 4, .int .i64 a] w fun e w' => e = .returned (.int .i64 (wrR a)) ∧ w = w')
    (hb : ∀ w, Calls Tryz.prog 17 #[.int .i64 4, .int .i64 b] w fun e w' => e = .returned (.int .i64 (wrR b)) ∧ w = w') (w : World) :
    Calls Tryz.prog 27 #[.int .i64 4, .int .i64 10, .int .i64 a, .int .i64 b] w fun e w' => e = .returned (.bool (cmpR 10 (bitsN (wrR a)) (bitsN (wrR b)))) ∧ w = w' := by
  have HhA := Lib.hid ha
  have HhB := Lib.hid hb
  have hv : cmpR 10 (bitsN (wrR a)) (bitsN (wrR b)) = false := by unfold cmpR; rw [ho]; rfl
  have hl : (FloatKind.f64.format.order (bitsN (wrR a)) (bitsN (wrR b)) == some .lt) = true := by show (ordN _ _ == _) = _; rw [ho]; rfl
  have hg : (FloatKind.f64.format.order (bitsN (wrR a)) (bitsN (wrR b)) == some .gt) = false := by show (ordN _ _ == _) = _; rw [ho]; rfl
  rw [hv]
  clear ha hb ho hv
  generalize wrR a = x at *
  generalize wrR b = y at *
  go_enter Tryz.func27, Tryz.ntmps27
  go_wp2_with fail
  refine (HhA.out _).mono ?_
  rintro e w1 ⟨rfl, rfl⟩
  go_wp2_with fail
  refine (HhB.out _).mono ?_
  rintro e w2 ⟨rfl, rfl⟩
  go_wp2_with fail
  refine (refValue_any _ _).mono ?_
  rintro e w3 ⟨rfl, rfl⟩
  go_wp2_with fail
  refine (refValue_any _ _).mono ?_
  rintro e w4 ⟨rfl, rfl⟩
  go_wp2_with fail
  refine (refValue_any _ _).mono ?_
  rintro e w5 ⟨rfl, rfl⟩
  go_wp2_with fail
  refine (refValue_any _ _).mono ?_
  rintro e w6 ⟨rfl, rfl⟩
  go_wp2_with fail
  go_ret
  exact ⟨rfl, rfl⟩
set_option maxRecDepth 100000 in
theorem refCmpR_10_eq (a b : Int) (hA : (wrR a == 9221120237041090561) = false) (hB : (wrR b == 9221120237041090561) = false) (ho : ordN (bitsN (wrR a)) (bitsN (wrR b)) = some .eq)
    (ha : ∀ w, Calls Tryz.prog 17 #[.int .i64 4, .int .i64 a] w fun e w' => e = .returned (.int .i64 (wrR a)) ∧ w = w')
    (hb : ∀ w, Calls Tryz.prog 17 #[.int .i64 4, .int .i64 b] w fun e w' => e = .returned (.int .i64 (wrR b)) ∧ w = w') (w : World) :
    Calls Tryz.prog 27 #[.int .i64 4, .int .i64 10, .int .i64 a, .int .i64 b] w fun e w' => e = .returned (.bool (cmpR 10 (bitsN (wrR a)) (bitsN (wrR b)))) ∧ w = w' := by
  have HhA := Lib.hid ha
  have HhB := Lib.hid hb
  have hv : cmpR 10 (bitsN (wrR a)) (bitsN (wrR b)) = true := by unfold cmpR; rw [ho]; rfl
  have hl : (FloatKind.f64.format.order (bitsN (wrR a)) (bitsN (wrR b)) == some .lt) = false := by show (ordN _ _ == _) = _; rw [ho]; rfl
  have hg : (FloatKind.f64.format.order (bitsN (wrR a)) (bitsN (wrR b)) == some .gt) = false := by show (ordN _ _ == _) = _; rw [ho]; rfl
  rw [hv]
  clear ha hb ho hv
  generalize wrR a = x at *
  generalize wrR b = y at *
  go_enter Tryz.func27, Tryz.ntmps27
  go_wp2_with fail
  refine (HhA.out _).mono ?_
  rintro e w1 ⟨rfl, rfl⟩
  go_wp2_with fail
  refine (HhB.out _).mono ?_
  rintro e w2 ⟨rfl, rfl⟩
  go_wp2_with fail
  refine (refValue_any _ _).mono ?_
  rintro e w3 ⟨rfl, rfl⟩
  go_wp2_with fail
  refine (refValue_any _ _).mono ?_
  rintro e w4 ⟨rfl, rfl⟩
  go_wp2_with fail
  refine (refValue_any _ _).mono ?_
  rintro e w5 ⟨rfl, rfl⟩
  go_wp2_with fail
  refine (refValue_any _ _).mono ?_
  rintro e w6 ⟨rfl, rfl⟩
  go_wp2_with fail
  go_ret
  exact ⟨rfl, rfl⟩
set_option maxRecDepth 100000 in
theorem refCmpR_10_gt (a b : Int) (hA : (wrR a == 9221120237041090561) = false) (hB : (wrR b == 9221120237041090561) = false) (ho : ordN (bitsN (wrR a)) (bitsN (wrR b)) = some .gt)
    (ha : ∀ w, Calls Tryz.prog 17 #[.int .i64 4, .int .i64 a] w fun e w' => e = .returned (.int .i64 (wrR a)) ∧ w = w')
    (hb : ∀ w, Calls Tryz.prog 17 #[.int .i64 4, .int .i64 b] w fun e w' => e = .returned (.int .i64 (wrR b)) ∧ w = w') (w : World) :
    Calls Tryz.prog 27 #[.int .i64 4, .int .i64 10, .int .i64 a, .int .i64 b] w fun e w' => e = .returned (.bool (cmpR 10 (bitsN (wrR a)) (bitsN (wrR b)))) ∧ w = w' := by
  have HhA := Lib.hid ha
  have HhB := Lib.hid hb
  have hv : cmpR 10 (bitsN (wrR a)) (bitsN (wrR b)) = false := by unfold cmpR; rw [ho]; rfl
  have hl : (FloatKind.f64.format.order (bitsN (wrR a)) (bitsN (wrR b)) == some .lt) = false := by show (ordN _ _ == _) = _; rw [ho]; rfl
  have hg : (FloatKind.f64.format.order (bitsN (wrR a)) (bitsN (wrR b)) == some .gt) = true := by show (ordN _ _ == _) = _; rw [ho]; rfl
  rw [hv]
  clear ha hb ho hv
  generalize wrR a = x at *
  generalize wrR b = y at *
  go_enter Tryz.func27, Tryz.ntmps27
  go_wp2_with fail
  refine (HhA.out _).mono ?_
  rintro e w1 ⟨rfl, rfl⟩
  go_wp2_with fail
  refine (HhB.out _).mono ?_
  rintro e w2 ⟨rfl, rfl⟩
  go_wp2_with fail
  refine (refValue_any _ _).mono ?_
  rintro e w3 ⟨rfl, rfl⟩
  go_wp2_with fail
  refine (refValue_any _ _).mono ?_
  rintro e w4 ⟨rfl, rfl⟩
  go_wp2_with fail
  refine (refValue_any _ _).mono ?_
  rintro e w5 ⟨rfl, rfl⟩
  go_wp2_with fail
  refine (refValue_any _ _).mono ?_
  rintro e w6 ⟨rfl, rfl⟩
  go_wp2_with fail
  go_ret
  exact ⟨rfl, rfl⟩
set_option maxRecDepth 100000 in
theorem refCmpR_10_nanA (a b : Int) (hA : (wrR a == 9221120237041090561) = true) 
    (ha : ∀ w, Calls Tryz.prog 17 #[.int .i64 4, .int .i64 a] w fun e w' => e = .returned (.int .i64 (wrR a)) ∧ w = w')
    (hb : ∀ w, Calls Tryz.prog 17 #[.int .i64 4, .int .i64 b] w fun e w' => e = .returned (.int .i64 (wrR b)) ∧ w = w') (w : World) :
    Calls Tryz.prog 27 #[.int .i64 4, .int .i64 10, .int .i64 a, .int .i64 b] w fun e w' => e = .returned (.bool false) ∧ w = w' := by
  have HhA := Lib.hid ha
  have HhB := Lib.hid hb
  clear ha hb
  generalize wrR a = x at *
  generalize wrR b = y at *
  go_enter Tryz.func27, Tryz.ntmps27
  go_wp2_with fail
  refine (HhA.out _).mono ?_
  rintro e w1 ⟨rfl, rfl⟩
  go_wp2_with fail
  refine (HhB.out _).mono ?_
  rintro e w2 ⟨rfl, rfl⟩
  go_wp2_with fail
  go_ret
  exact ⟨rfl, rfl⟩
set_option maxRecDepth 100000 in
theorem refCmpR_10_nanB (a b : Int) (hA : (wrR a == 9221120237041090561) = false) (hB : (wrR b == 9221120237041090561) = true)
    (ha : ∀ w, Calls Tryz.prog 17 #[.int .i64 4, .int .i64 a] w fun e w' => e = .returned (.int .i64 (wrR a)) ∧ w = w')
    (hb : ∀ w, Calls Tryz.prog 17 #[.int .i64 4, .int .i64 b] w fun e w' => e = .returned (.int .i64 (wrR b)) ∧ w = w') (w : World) :
    Calls Tryz.prog 27 #[.int .i64 4, .int .i64 10, .int .i64 a, .int .i64 b] w fun e w' => e = .returned (.bool false) ∧ w = w' := by
  have HhA := Lib.hid ha
  have HhB := Lib.hid hb
  clear ha hb
  generalize wrR a = x at *
  generalize wrR b = y at *
  go_enter Tryz.func27, Tryz.ntmps27
  go_wp2_with fail
  refine (HhA.out _).mono ?_
  rintro e w1 ⟨rfl, rfl⟩
  go_wp2_with fail
  refine (HhB.out _).mono ?_
  rintro e w2 ⟨rfl, rfl⟩
  go_wp2_with fail
  go_ret
  exact ⟨rfl, rfl⟩
set_option maxRecDepth 100000 in
theorem refCmpR_11_lt (a b : Int) (hA : (wrR a == 9221120237041090561) = false) (hB : (wrR b == 9221120237041090561) = false) (ho : ordN (bitsN (wrR a)) (bitsN (wrR b)) = some .lt)
    (ha : ∀ w, Calls Tryz.prog 17 #[.int .i64 4, .int .i64 a] w fun e w' => e = .returned (.int .i64 (wrR a)) ∧ w = w')
    (hb : ∀ w, Calls Tryz.prog 17 #[.int .i64 4, .int .i64 b] w fun e w' => e = .returned (.int .i64 (wrR b)) ∧ w = w') (w : World) :
    Calls Tryz.prog 27 #[.int .i64 4, .int .i64 11, .int .i64 a, .int .i64 b] w fun e w' => e = .returned (.bool (cmpR 11 (bitsN (wrR a)) (bitsN (wrR b)))) ∧ w = w' := by
  have HhA := Lib.hid ha
  have HhB := Lib.hid hb
  have hv : cmpR 11 (bitsN (wrR a)) (bitsN (wrR b)) = true := by unfold cmpR; rw [ho]; rfl
  have hl : (FloatKind.f64.format.order (bitsN (wrR a)) (bitsN (wrR b)) == some .lt) = true := by show (ordN _ _ == _) = _; rw [ho]; rfl
  have hg : (FloatKind.f64.format.order (bitsN (wrR a)) (bitsN (wrR b)) == some .gt) = false := by show (ordN _ _ == _) = _; rw [ho]; rfl
  rw [hv]
  clear ha hb ho hv
  generalize wrR a = x at *
  generalize wrR b = y at *
  go_enter Tryz.func27, Tryz.ntmps27
  go_wp2_with fail
  refine (HhA.out _).mono ?_
  rintro e w1 ⟨rfl, rfl⟩
  go_wp2_with fail
  refine (HhB.out _).mono ?_
  rintro e w2 ⟨rfl, rfl⟩
  go_wp2_with fail
  refine (refValue_any _ _).mono ?_
  rintro e w3 ⟨rfl, rfl⟩
  go_wp2_with fail
  refine (refValue_any _ _).mono ?_
  rintro e w4 ⟨rfl, rfl⟩
  go_wp2_with fail
  refine (refValue_any _ _).mono ?_
  rintro e w5 ⟨rfl, rfl⟩
  go_wp2_with fail
  refine (refValue_any _ _).mono ?_
  rintro e w6 ⟨rfl, rfl⟩
  go_wp2_with fail
  go_ret
  exact ⟨rfl, rfl⟩
set_option maxRecDepth 100000 in
theorem refCmpR_11_eq (a b : Int) (hA : (wrR a == 9221120237041090561) = false) (hB : (wrR b == 9221120237041090561) = false) (ho : ordN (bitsN (wrR a)) (bitsN (wrR b)) = some .eq)
    (ha : ∀ w, Calls Tryz.prog 17 #[.int .i64 4, .int .i64 a] w fun e w' => e = .returned (.int .i64 (wrR a)) ∧ w = w')
    (hb : ∀ w, Calls Tryz.prog 17 #[.int .i64 4, .int .i64 b] w fun e w' => e = .returned (.int .i64 (wrR b)) ∧ w = w') (w : World) :
    Calls Tryz.prog 27 #[.int .i64 4, .int .i64 11, .int .i64 a, .int .i64 b] w fun e w' => e = .returned (.bool (cmpR 11 (bitsN (wrR a)) (bitsN (wrR b)))) ∧ w = w' := by
  have HhA := Lib.hid ha
  have HhB := Lib.hid hb
  have hv : cmpR 11 (bitsN (wrR a)) (bitsN (wrR b)) = false := by unfold cmpR; rw [ho]; rfl
  have hl : (FloatKind.f64.format.order (bitsN (wrR a)) (bitsN (wrR b)) == some .lt) = false := by show (ordN _ _ == _) = _; rw [ho]; rfl
  have hg : (FloatKind.f64.format.order (bitsN (wrR a)) (bitsN (wrR b)) == some .gt) = false := by show (ordN _ _ == _) = _; rw [ho]; rfl
  rw [hv]
  clear ha hb ho hv
  generalize wrR a = x at *
  generalize wrR b = y at *
  go_enter Tryz.func27, Tryz.ntmps27
  go_wp2_with fail
  refine (HhA.out _).mono ?_
  rintro e w1 ⟨rfl, rfl⟩
  go_wp2_with fail
  refine (HhB.out _).mono ?_
  rintro e w2 ⟨rfl, rfl⟩
  go_wp2_with fail
  refine (refValue_any _ _).mono ?_
  rintro e w3 ⟨rfl, rfl⟩
  go_wp2_with fail
  refine (refValue_any _ _).mono ?_
  rintro e w4 ⟨rfl, rfl⟩
  go_wp2_with fail
  refine (refValue_any _ _).mono ?_
  rintro e w5 ⟨rfl, rfl⟩
  go_wp2_with fail
  refine (refValue_any _ _).mono ?_
  rintro e w6 ⟨rfl, rfl⟩
  go_wp2_with fail
  go_ret
  exact ⟨rfl, rfl⟩
set_option maxRecDepth 100000 in
theorem refCmpR_11_gt (a b : Int) (hA : (wrR a == 9221120237041090561) = false) (hB : (wrR b == 9221120237041090561) = false) (ho : ordN (bitsN (wrR a)) (bitsN (wrR b)) = some .gt)
    (ha : ∀ w, Calls Tryz.prog 17 #[.int .i64 4, .int .i64 a] w fun e w' => e = .returned (.int .i64 (wrR a)) ∧ w = w')
    (hb : ∀ w, Calls Tryz.prog 17 #[.int .i64 4, .int .i64 b] w fun e w' => e = .returned (.int .i64 (wrR b)) ∧ w = w') (w : World) :
    Calls Tryz.prog 27 #[.int .i64 4, .int .i64 11, .int .i64 a, .int .i64 b] w fun e w' => e = .returned (.bool (cmpR 11 (bitsN (wrR a)) (bitsN (wrR b)))) ∧ w = w' := by
  have HhA := Lib.hid ha
  have HhB := Lib.hid hb
  have hv : cmpR 11 (bitsN (wrR a)) (bitsN (wrR b)) = true := by unfold cmpR; rw [ho]; rfl
  have hl : (FloatKind.f64.format.order (bitsN (wrR a)) (bitsN (wrR b)) == some .lt) = false := by show (ordN _ _ == _) = _; rw [ho]; rfl
  have hg : (FloatKind.f64.format.order (bitsN (wrR a)) (bitsN (wrR b)) == some .gt) = true := by show (ordN _ _ == _) = _; rw [ho]; rfl
  rw [hv]
  clear ha hb ho hv
  generalize wrR a = x at *
  generalize wrR b = y at *
  go_enter Tryz.func27, Tryz.ntmps27
  go_wp2_with fail
  refine (HhA.out _).mono ?_
  rintro e w1 ⟨rfl, rfl⟩
  go_wp2_with fail
  refine (HhB.out _).mono ?_
  rintro e w2 ⟨rfl, rfl⟩
  go_wp2_with fail
  refine (refValue_any _ _).mono ?_
  rintro e w3 ⟨rfl, rfl⟩
  go_wp2_with fail
  refine (refValue_any _ _).mono ?_
  rintro e w4 ⟨rfl, rfl⟩
  go_wp2_with fail
  refine (refValue_any _ _).mono ?_
  rintro e w5 ⟨rfl, rfl⟩
  go_wp2_with fail
  refine (refValue_any _ _).mono ?_
  rintro e w6 ⟨rfl, rfl⟩
  go_wp2_with fail
  go_ret
  exact ⟨rfl, rfl⟩
set_option maxRecDepth 100000 in
theorem refCmpR_11_nanA (a b : Int) (hA : (wrR a == 9221120237041090561) = true) 
    (ha : ∀ w, Calls Tryz.prog 17 #[.int .i64 4, .int .i64 a] w fun e w' => e = .returned (.int .i64 (wrR a)) ∧ w = w')
    (hb : ∀ w, Calls Tryz.prog 17 #[.int .i64 4, .int .i64 b] w fun e w' => e = .returned (.int .i64 (wrR b)) ∧ w = w') (w : World) :
    Calls Tryz.prog 27 #[.int .i64 4, .int .i64 11, .int .i64 a, .int .i64 b] w fun e w' => e = .returned (.bool true) ∧ w = w' := by
  have HhA := Lib.hid ha
  have HhB := Lib.hid hb
  clear ha hb
  generalize wrR a = x at *
  generalize wrR b = y at *
  go_enter Tryz.func27, Tryz.ntmps27
  go_wp2_with fail
  refine (HhA.out _).mono ?_
  rintro e w1 ⟨rfl, rfl⟩
  go_wp2_with fail
  refine (HhB.out _).mono ?_
  rintro e w2 ⟨rfl, rfl⟩
  go_wp2_with fail
  go_ret
  exact ⟨rfl, rfl⟩
set_option maxRecDepth 100000 in
theorem refCmpR_11_nanB (a b : Int) (hA : (wrR a == 9221120237041090561) = false) (hB : (wrR b == 9221120237041090561) = true)
    (ha : ∀ w, Calls Tryz.prog 17 #[.int .i64 4, .int .i64 a] w fun e w' => e = .returned (.int .i64 (wrR a)) ∧ w = w')
    (hb : ∀ w, Calls Tryz.prog 17 #[.int .i64 4, .int .i64 b] w fun e w' => e = .returned (.int .i64 (wrR b)) ∧ w = w') (w : World) :
    Calls Tryz.prog 27 #[.int .i64 4, .int .i64 11, .int .i64 a, .int .i64 b] w fun e w' => e = .returned (.bool true) ∧ w = w' := by
  have HhA := Lib.hid ha
  have HhB := Lib.hid hb
  clear ha hb
  generalize wrR a = x at *
  generalize wrR b = y at *
  go_enter Tryz.func27, Tryz.ntmps27
  go_wp2_with fail
  refine (HhA.out _).mono ?_
  rintro e w1 ⟨rfl, rfl⟩
  go_wp2_with fail
  refine (HhB.out _).mono ?_
  rintro e w2 ⟨rfl, rfl⟩
  go_wp2_with fail
  go_ret
  exact ⟨rfl, rfl⟩
set_option maxRecDepth 100000 in
theorem refCmpR_12_lt (a b : Int) (hA : (wrR a == 9221120237041090561) = false) (hB : (wrR b == 9221120237041090561) = false) (ho : ordN (bitsN (wrR a)) (bitsN (wrR b)) = some .lt)
    (ha : ∀ w, Calls Tryz.prog 17 #[.int .i64 4, .int .i64 a] w fun e w' => e = .returned (.int .i64 (wrR a)) ∧ w = w')
    (hb : ∀ w, Calls Tryz.prog 17 #[.int .i64 4, .int .i64 b] w fun e w' => e = .returned (.int .i64 (wrR b)) ∧ w = w') (w : World) :
    Calls Tryz.prog 27 #[.int .i64 4, .int .i64 12, .int .i64 a, .int .i64 b] w fun e w' => e = .returned (.bool (cmpR 12 (bitsN (wrR a)) (bitsN (wrR b)))) ∧ w = w' := by
  have HhA := Lib.hid ha
  have HhB := Lib.hid hb
  have hv : cmpR 12 (bitsN (wrR a)) (bitsN (wrR b)) = true := by unfold cmpR; rw [ho]; rfl
  have hl : (FloatKind.f64.format.order (bitsN (wrR a)) (bitsN (wrR b)) == some .lt) = true := by show (ordN _ _ == _) = _; rw [ho]; rfl
  have hg : (FloatKind.f64.format.order (bitsN (wrR a)) (bitsN (wrR b)) == some .gt) = false := by show (ordN _ _ == _) = _; rw [ho]; rfl
  rw [hv]
  clear ha hb ho hv
  generalize wrR a = x at *
  generalize wrR b = y at *
  go_enter Tryz.func27, Tryz.ntmps27
  go_wp2_with fail
  refine (HhA.out _).mono ?_
  rintro e w1 ⟨rfl, rfl⟩
  go_wp2_with fail
  refine (HhB.out _).mono ?_
  rintro e w2 ⟨rfl, rfl⟩
  go_wp2_with fail
  refine (refValue_any _ _).mono ?_
  rintro e w3 ⟨rfl, rfl⟩
  go_wp2_with fail
  refine (refValue_any _ _).mono ?_
  rintro e w4 ⟨rfl, rfl⟩
  go_wp2_with fail
  refine (refValue_any _ _).mono ?_
  rintro e w5 ⟨rfl, rfl⟩
  go_wp2_with fail
  refine (refValue_any _ _).mono ?_
  rintro e w6 ⟨rfl, rfl⟩
  go_wp2_with fail
  go_ret
  exact ⟨rfl, rfl⟩
set_option maxRecDepth 100000 in
theorem refCmpR_12_eq (a b : Int) (hA : (wrR a == 9221120237041090561) = false) (hB : (wrR b == 9221120237041090561) = false) (ho : ordN (bitsN (wrR a)) (bitsN (wrR b)) = some .eq)
    (ha : ∀ w, Calls Tryz.prog 17 #[.int .i64 4, .int .i64 a] w fun e w' => e = .returned (.int .i64 (wrR a)) ∧ w = w')
    (hb : ∀ w, Calls Tryz.prog 17 #[.int .i64 4, .int .i64 b] w fun e w' => e = .returned (.int .i64 (wrR b)) ∧ w = w') (w : World) :
    Calls Tryz.prog 27 #[.int .i64 4, .int .i64 12, .int .i64 a, .int .i64 b] w fun e w' => e = .returned (.bool (cmpR 12 (bitsN (wrR a)) (bitsN (wrR b)))) ∧ w = w' := by
  have HhA := Lib.hid ha
  have HhB := Lib.hid hb
  have hv : cmpR 12 (bitsN (wrR a)) (bitsN (wrR b)) = false := by unfold cmpR; rw [ho]; rfl
  have hl : (FloatKind.f64.format.order (bitsN (wrR a)) (bitsN (wrR b)) == some .lt) = false := by show (ordN _ _ == _) = _; rw [ho]; rfl
  have hg : (FloatKind.f64.format.order (bitsN (wrR a)) (bitsN (wrR b)) == some .gt) = false := by show (ordN _ _ == _) = _; rw [ho]; rfl
  rw [hv]
  clear ha hb ho hv
  generalize wrR a = x at *
  generalize wrR b = y at *
  go_enter Tryz.func27, Tryz.ntmps27
  go_wp2_with fail
  refine (HhA.out _).mono ?_
  rintro e w1 ⟨rfl, rfl⟩
  go_wp2_with fail
  refine (HhB.out _).mono ?_
  rintro e w2 ⟨rfl, rfl⟩
  go_wp2_with fail
  refine (refValue_any _ _).mono ?_
  rintro e w3 ⟨rfl, rfl⟩
  go_wp2_with fail
  refine (refValue_any _ _).mono ?_
  rintro e w4 ⟨rfl, rfl⟩
  go_wp2_with fail
  refine (refValue_any _ _).mono ?_
  rintro e w5 ⟨rfl, rfl⟩
  go_wp2_with fail
  refine (refValue_any _ _).mono ?_
  rintro e w6 ⟨rfl, rfl⟩
  go_wp2_with fail
  go_ret
  exact ⟨rfl, rfl⟩
set_option maxRecDepth 100000 in
theorem refCmpR_12_gt (a b : Int) (hA : (wrR a == 9221120237041090561) = false) (hB : (wrR b == 9221120237041090561) = false) (ho : ordN (bitsN (wrR a)) (bitsN (wrR b)) = some .gt)
    (ha : ∀ w, Calls Tryz.prog 17 #[.int .i64 4, .int .i64 a] w fun e w' => e = .returned (.int .i64 (wrR a)) ∧ w = w')
    (hb : ∀ w, Calls Tryz.prog 17 #[.int .i64 4, .int .i64 b] w fun e w' => e = .returned (.int .i64 (wrR b)) ∧ w = w') (w : World) :
    Calls Tryz.prog 27 #[.int .i64 4, .int .i64 12, .int .i64 a, .int .i64 b] w fun e w' => e = .returned (.bool (cmpR 12 (bitsN (wrR a)) (bitsN (wrR b)))) ∧ w = w' := by
  have HhA := Lib.hid ha
  have HhB := Lib.hid hb
  have hv : cmpR 12 (bitsN (wrR a)) (bitsN (wrR b)) = false := by unfold cmpR; rw [ho]; rfl
  have hl : (FloatKind.f64.format.order (bitsN (wrR a)) (bitsN (wrR b)) == some .lt) = false := by show (ordN _ _ == _) = _; rw [ho]; rfl
  have hg : (FloatKind.f64.format.order (bitsN (wrR a)) (bitsN (wrR b)) == some .gt) = true := by show (ordN _ _ == _) = _; rw [ho]; rfl
  rw [hv]
  clear ha hb ho hv
  generalize wrR a = x at *
  generalize wrR b = y at *
  go_enter Tryz.func27, Tryz.ntmps27
  go_wp2_with fail
  refine (HhA.out _).mono ?_
  rintro e w1 ⟨rfl, rfl⟩
  go_wp2_with fail
  refine (HhB.out _).mono ?_
  rintro e w2 ⟨rfl, rfl⟩
  go_wp2_with fail
  refine (refValue_any _ _).mono ?_
  rintro e w3 ⟨rfl, rfl⟩
  go_wp2_with fail
  refine (refValue_any _ _).mono ?_
  rintro e w4 ⟨rfl, rfl⟩
  go_wp2_with fail
  refine (refValue_any _ _).mono ?_
  rintro e w5 ⟨rfl, rfl⟩
  go_wp2_with fail
  refine (refValue_any _ _).mono ?_
  rintro e w6 ⟨rfl, rfl⟩
  go_wp2_with fail
  go_ret
  exact ⟨rfl, rfl⟩
set_option maxRecDepth 100000 in
theorem refCmpR_12_nanA (a b : Int) (hA : (wrR a == 9221120237041090561) = true) 
    (ha : ∀ w, Calls Tryz.prog 17 #[.int .i64 4, .int .i64 a] w fun e w' => e = .returned (.int .i64 (wrR a)) ∧ w = w')
    (hb : ∀ w, Calls Tryz.prog 17 #[.int .i64 4, .int .i64 b] w fun e w' => e = .returned (.int .i64 (wrR b)) ∧ w = w') (w : World) :
    Calls Tryz.prog 27 #[.int .i64 4, .int .i64 12, .int .i64 a, .int .i64 b] w fun e w' => e = .returned (.bool false) ∧ w = w' := by
  have HhA := Lib.hid ha
  have HhB := Lib.hid hb
  clear ha hb
  generalize wrR a = x at *
  generalize wrR b = y at *
  go_enter Tryz.func27, Tryz.ntmps27
  go_wp2_with fail
  refine (HhA.out _).mono ?_
  rintro e w1 ⟨rfl, rfl⟩
  go_wp2_with fail
  refine (HhB.out _).mono ?_
  rintro e w2 ⟨rfl, rfl⟩
  go_wp2_with fail
  go_ret
  exact ⟨rfl, rfl⟩
set_option maxRecDepth 100000 in
theorem refCmpR_12_nanB (a b : Int) (hA : (wrR a == 9221120237041090561) = false) (hB : (wrR b == 9221120237041090561) = true)
    (ha : ∀ w, Calls Tryz.prog 17 #[.int .i64 4, .int .i64 a] w fun e w' => e = .returned (.int .i64 (wrR a)) ∧ w = w')
    (hb : ∀ w, Calls Tryz.prog 17 #[.int .i64 4, .int .i64 b] w fun e w' => e = .returned (.int .i64 (wrR b)) ∧ w = w') (w : World) :
    Calls Tryz.prog 27 #[.int .i64 4, .int .i64 12, .int .i64 a, .int .i64 b] w fun e w' => e = .returned (.bool false) ∧ w = w' := by
  have HhA := Lib.hid ha
  have HhB := Lib.hid hb
  clear ha hb
  generalize wrR a = x at *
  generalize wrR b = y at *
  go_enter Tryz.func27, Tryz.ntmps27
  go_wp2_with fail
  refine (HhA.out _).mono ?_
  rintro e w1 ⟨rfl, rfl⟩
  go_wp2_with fail
  refine (HhB.out _).mono ?_
  rintro e w2 ⟨rfl, rfl⟩
  go_wp2_with fail
  go_ret
  exact ⟨rfl, rfl⟩
set_option maxRecDepth 100000 in
theorem refCmpR_13_lt (a b : Int) (hA : (wrR a == 9221120237041090561) = false) (hB : (wrR b == 9221120237041090561) = false) (ho : ordN (bitsN (wrR a)) (bitsN (wrR b)) = some .lt)
    (ha : ∀ w, Calls Tryz.prog 17 #[.int .i64 4, .int .i64 a] w fun e w' => e = .returned (.int .i64 (wrR a)) ∧ w = w')
    (hb : ∀ w, Calls Tryz.prog 17 #[.int .i64 4, .int .i64 b] w fun e w' => e = .returned (.int .i64 (wrR b)) ∧ w = w') (w : World) :
    Calls Tryz.prog 27 #[.int .i64 4, .int .i64 13, .int .i64 a, .int .i64 b] w fun e w' => e = .returned (.bool (cmpR 13 (bitsN (wrR a)) (bitsN (wrR b)))) ∧ w = w' := by
  have HhA := Lib.hid ha
  have HhB := Lib.hid hb
  have hv : cmpR 13 (bitsN (wrR a)) (bitsN (wrR b)) = true := by unfold cmpR; rw [ho]; rfl
  have hl : (FloatKind.f64.format.order (bitsN (wrR a)) (bitsN (wrR b)) == some .lt) = true := by show (ordN _ _ == _) = _; rw [ho]; rfl
  have hg : (FloatKind.f64.format.order (bitsN (wrR a)) (bitsN (wrR b)) == some .gt) = false := by show (ordN _ _ == _) = _; rw [ho]; rfl
  rw [hv]
  clear ha hb ho hv
  generalize wrR a = x at *
  generalize wrR b = y at *
  go_enter Tryz.func27, Tryz.ntmps27
  go_wp2_with fail
  refine (HhA.out _).mono ?_
  rintro e w1 ⟨rfl, rfl⟩
  go_wp2_with fail
  refine (HhB.out _).mono ?_
  rintro e w2 ⟨rfl, rfl⟩
  go_wp2_with fail
  refine (refValue_any _ _).mono ?_
  rintro e w3 ⟨rfl, rfl⟩
  go_wp2_with fail
  refine (refValue_any _ _).mono ?_
  rintro e w4 ⟨rfl, rfl⟩
  go_wp2_with fail
  refine (refValue_any _ _).mono ?_
  rintro e w5 ⟨rfl, rfl⟩
  go_wp2_with fail
  refine (refValue_any _ _).mono ?_
  rintro e w6 ⟨rfl, rfl⟩
  go_wp2_with fail
  go_ret
  exact ⟨rfl, rfl⟩
set_option maxRecDepth 100000 in
theorem refCmpR_13_eq (a b : Int) (hA : (wrR a == 9221120237041090561) = false) (hB : (wrR b == 9221120237041090561) = false) (ho : ordN (bitsN (wrR a)) (bitsN (wrR b)) = some .eq)
    (ha : ∀ w, Calls Tryz.prog 17 #[.int .i64 4, .int .i64 a] w fun e w' => e = .returned (.int .i64 (wrR a)) ∧ w = w')
    (hb : ∀ w, Calls Tryz.prog 17 #[.int .i64 4, .int .i64 b] w fun e w' => e = .returned (.int .i64 (wrR b)) ∧ w = w') (w : World) :
    Calls Tryz.prog 27 #[.int .i64 4, .int .i64 13, .int .i64 a, .int .i64 b] w fun e w' => e = .returned (.bool (cmpR 13 (bitsN (wrR a)) (bitsN (wrR b)))) ∧ w = w' := by
  have HhA := Lib.hid ha
  have HhB := Lib.hid hb
  have hv : cmpR 13 (bitsN (wrR a)) (bitsN (wrR b)) = true := by unfold cmpR; rw [ho]; rfl
  have hl : (FloatKind.f64.format.order (bitsN (wrR a)) (bitsN (wrR b)) == some .lt) = false := by show (ordN _ _ == _) = _; rw [ho]; rfl
  have hg : (FloatKind.f64.format.order (bitsN (wrR a)) (bitsN (wrR b)) == some .gt) = false := by show (ordN _ _ == _) = _; rw [ho]; rfl
  rw [hv]
  clear ha hb ho hv
  generalize wrR a = x at *
  generalize wrR b = y at *
  go_enter Tryz.func27, Tryz.ntmps27
  go_wp2_with fail
  refine (HhA.out _).mono ?_
  rintro e w1 ⟨rfl, rfl⟩
  go_wp2_with fail
  refine (HhB.out _).mono ?_
  rintro e w2 ⟨rfl, rfl⟩
  go_wp2_with fail
  refine (refValue_any _ _).mono ?_
  rintro e w3 ⟨rfl, rfl⟩
  go_wp2_with fail
  refine (refValue_any _ _).mono ?_
  rintro e w4 ⟨rfl, rfl⟩
  go_wp2_with fail
  refine (refValue_any _ _).mono ?_
  rintro e w5 ⟨rfl, rfl⟩
  go_wp2_with fail
  refine (refValue_any _ _).mono ?_
  rintro e w6 ⟨rfl, rfl⟩
  go_wp2_with fail
  go_ret
  exact ⟨rfl, rfl⟩
set_option maxRecDepth 100000 in
theorem refCmpR_13_gt (a b : Int) (hA : (wrR a == 9221120237041090561) = false) (hB : (wrR b == 9221120237041090561) = false) (ho : ordN (bitsN (wrR a)) (bitsN (wrR b)) = some .gt)
    (ha : ∀ w, Calls Tryz.prog 17 #[.int .i64 4, .int .i64 a] w fun e w' => e = .returned (.int .i64 (wrR a)) ∧ w = w')
    (hb : ∀ w, Calls Tryz.prog 17 #[.int .i64 4, .int .i64 b] w fun e w' => e = .returned (.int .i64 (wrR b)) ∧ w = w') (w : World) :
    Calls Tryz.prog 27 #[.int .i64 4, .int .i64 13, .int .i64 a, .int .i64 b] w fun e w' => e = .returned (.bool (cmpR 13 (bitsN (wrR a)) (bitsN (wrR b)))) ∧ w = w' := by
  have HhA := Lib.hid ha
  have HhB := Lib.hid hb
  have hv : cmpR 13 (bitsN (wrR a)) (bitsN (wrR b)) = false := by unfold cmpR; rw [ho]; rfl
  have hl : (FloatKind.f64.format.order (bitsN (wrR a)) (bitsN (wrR b)) == some .lt) = false := by show (ordN _ _ == _) = _; rw [ho]; rfl
  have hg : (FloatKind.f64.format.order (bitsN (wrR a)) (bitsN (wrR b)) == some .gt) = true := by show (ordN _ _ == _) = _; rw [ho]; rfl
  rw [hv]
  clear ha hb ho hv
  generalize wrR a = x at *
  generalize wrR b = y at *
  go_enter Tryz.func27, Tryz.ntmps27
  go_wp2_with fail
  refine (HhA.out _).mono ?_
  rintro e w1 ⟨rfl, rfl⟩
  go_wp2_with fail
  refine (HhB.out _).mono ?_
  rintro e w2 ⟨rfl, rfl⟩
  go_wp2_with fail
  refine (refValue_any _ _).mono ?_
  rintro e w3 ⟨rfl, rfl⟩
  go_wp2_with fail
  refine (refValue_any _ _).mono ?_
  rintro e w4 ⟨rfl, rfl⟩
  go_wp2_with fail
  refine (refValue_any _ _).mono ?_
  rintro e w5 ⟨rfl, rfl⟩
  go_wp2_with fail
  refine (refValue_any _ _).mono ?_
  rintro e w6 ⟨rfl, rfl⟩
  go_wp2_with fail
  go_ret
  exact ⟨rfl, rfl⟩
set_option maxRecDepth 100000 in
theorem refCmpR_13_nanA (a b : Int) (hA : (wrR a == 9221120237041090561) = true) 
    (ha : ∀ w, Calls Tryz.prog 17 #[.int .i64 4, .int .i64 a] w fun e w' => e = .returned (.int .i64 (wrR a)) ∧ w = w')
    (hb : ∀ w, Calls Tryz.prog 17 #[.int .i64 4, .int .i64 b] w fun e w' => e = .returned (.int .i64 (wrR b)) ∧ w = w') (w : World) :
    Calls Tryz.prog 27 #[.int .i64 4, .int .i64 13, .int .i64 a, .int .i64 b] w fun e w' => e = .returned (.bool false) ∧ w = w' := by
  have HhA := Lib.hid ha
  have HhB := Lib.hid hb
  clear ha hb
  generalize wrR a = x at *
  generalize wrR b = y at *
  go_enter Tryz.func27, Tryz.ntmps27
  go_wp2_with fail
  refine (HhA.out _).mono ?_
  rintro e w1 ⟨rfl, rfl⟩
  go_wp2_with fail
  refine (HhB.out _).mono ?_
  rintro e w2 ⟨rfl, rfl⟩
  go_wp2_with fail
  go_ret
  exact ⟨rfl, rfl⟩
set_option maxRecDepth 100000 in
theorem refCmpR_13_nanB (a b : Int) (hA : (wrR a == 9221120237041090561) = false) (hB : (wrR b == 9221120237041090561) = true)
    (ha : ∀ w, Calls Tryz.prog 17 #[.int .i64 4, .int .i64 a] w fun e w' => e = .returned (.int .i64 (wrR a)) ∧ w = w')
    (hb : ∀ w, Calls Tryz.prog 17 #[.int .i64 4, .int .i64 b] w fun e w' => e = .returned (.int .i64 (wrR b)) ∧ w = w') (w : World) :
    Calls Tryz.prog 27 #[.int .i64 4, .int .i64 13, .int .i64 a, .int .i64 b] w fun e w' => e = .returned (.bool false) ∧ w = w' := by
  have HhA := Lib.hid ha
  have HhB := Lib.hid hb
  clear ha hb
  generalize wrR a = x at *
  generalize wrR b = y at *
  go_enter Tryz.func27, Tryz.ntmps27
  go_wp2_with fail
  refine (HhA.out _).mono ?_
  rintro e w1 ⟨rfl, rfl⟩
  go_wp2_with fail
  refine (HhB.out _).mono ?_
  rintro e w2 ⟨rfl, rfl⟩
  go_wp2_with fail
  go_ret
  exact ⟨rfl, rfl⟩
set_option maxRecDepth 100000 in
theorem refCmpR_14_lt (a b : Int) (hA : (wrR a == 9221120237041090561) = false) (hB : (wrR b == 9221120237041090561) = false) (ho : ordN (bitsN (wrR a)) (bitsN (wrR b)) = some .lt)
    (ha : ∀ w, Calls Tryz.prog 17 #[.int .i64 4, .int .i64 a] w fun e w' => e = .returned (.int .i64 (wrR a)) ∧ w = w')
    (hb : ∀ w, Calls Tryz.prog 17 #[.int .i64 4, .int .i64 b] w fun e w' => e = .returned (.int .i64 (wrR b)) ∧ w = w') (w : World) :
    Calls Tryz.prog 27 #[.int .i64 4, .int .i64 14, .int .i64 a, .int .i64 b] w fun e w' => e = .returned (.bool (cmpR 14 (bitsN (wrR a)) (bitsN (wrR b)))) ∧ w = w' := by
  have HhA := Lib.hid ha
  have HhB := Lib.hid hb
  have hv : cmpR 14 (bitsN (wrR a)) (bitsN (wrR b)) = false := by unfold cmpR; rw [ho]; rfl
  have hl : (FloatKind.f64.format.order (bitsN (wrR a)) (bitsN (wrR b)) == some .lt) = true := by show (ordN _ _ == _) = _; rw [ho]; rfl
  have hg : (FloatKind.f64.format.order (bitsN (wrR a)) (bitsN (wrR b)) == some .gt) = false := by show (ordN _ _ == _) = _; rw [ho]; rfl
  rw [hv]
  clear ha hb ho hv
  generalize wrR a = x at *
  generalize wrR b = y at *
  go_enter Tryz.func27, Tryz.ntmps27
  go_wp2_with fail
  refine (HhA.out _).mono ?_
  rintro e w1 ⟨rfl, rfl⟩
  go_wp2_with fail
  refine (HhB.out _).mono ?_
  rintro e w2 ⟨rfl, rfl⟩
  go_wp2_with fail
  refine (refValue_any _ _).mono ?_
  rintro e w3 ⟨rfl, rfl⟩
  go_wp2_with fail
  refine (refValue_any _ _).mono ?_
  rintro e w4 ⟨rfl, rfl⟩
  go_wp2_with fail
  refine (refValue_any _ _).mono ?_
  rintro e w5 ⟨rfl, rfl⟩
  go_wp2_with fail
  refine (refValue_any _ _).mono ?_
  rintro e w6 ⟨rfl, rfl⟩
  go_wp2_with fail
  go_ret
  exact ⟨rfl, rfl⟩
set_option maxRecDepth 100000 in
theorem refCmpR_14_eq (a b : Int) (hA : (wrR a == 9221120237041090561) = false) (hB : (wrR b == 9221120237041090561) = false) (ho : ordN (bitsN (wrR a)) (bitsN (wrR b)) = some .eq)
    (ha : ∀ w, Calls Tryz.prog 17 #[.int .i64 4, .int .i64 a] w fun e w' => e = .returned (.int .i64 (wrR a)) ∧ w = w')
    (hb : ∀ w, Calls Tryz.prog 17 #[.int .i64 4, .int .i64 b] w fun e w' => e = .returned (.int .i64 (wrR b)) ∧ w = w') (w : World) :
    Calls Tryz.prog 27 #[.int .i64 4, .int .i64 14, .int .i64 a, .int .i64 b] w fun e w' => e = .returned (.bool (cmpR 14 (bitsN (wrR a)) (bitsN (wrR b)))) ∧ w = w' := by
  have HhA := Lib.hid ha
  have HhB := Lib.hid hb
  have hv : cmpR 14 (bitsN (wrR a)) (bitsN (wrR b)) = false := by unfold cmpR; rw [ho]; rfl
  have hl : (FloatKind.f64.format.order (bitsN (wrR a)) (bitsN (wrR b)) == some .lt) = false := by show (ordN _ _ == _) = _; rw [ho]; rfl
  have hg : (FloatKind.f64.format.order (bitsN (wrR a)) (bitsN (wrR b)) == some .gt) = false := by show (ordN _ _ == _) = _; rw [ho]; rfl
  rw [hv]
  clear ha hb ho hv
  generalize wrR a = x at *
  generalize wrR b = y at *
  go_enter Tryz.func27, Tryz.ntmps27
  go_wp2_with fail
  refine (HhA.out _).mono ?_
  rintro e w1 ⟨rfl, rfl⟩
  go_wp2_with fail
  refine (HhB.out _).mono ?_
  rintro e w2 ⟨rfl, rfl⟩
  go_wp2_with fail
  refine (refValue_any _ _).mono ?_
  rintro e w3 ⟨rfl, rfl⟩
  go_wp2_with fail
  refine (refValue_any _ _).mono ?_
  rintro e w4 ⟨rfl, rfl⟩
  go_wp2_with fail
  refine (refValue_any _ _).mono ?_
  rintro e w5 ⟨rfl, rfl⟩
  go_wp2_with fail
  refine (refValue_any _ _).mono ?_
  rintro e w6 ⟨rfl, rfl⟩
  go_wp2_with fail
  go_ret
  exact ⟨rfl, rfl⟩
set_option maxRecDepth 100000 in
theorem refCmpR_14_gt (a b : Int) (hA : (wrR a == 9221120237041090561) = false) (hB : (wrR b == 9221120237041090561) = false) (ho : ordN (bitsN (wrR a)) (bitsN (wrR b)) = some .gt)
    (ha : ∀ w, Calls Tryz.prog 17 #[.int .i64 4, .int .i64 a] w fun e w' => e = .returned (.int .i64 (wrR a)) ∧ w = w')
    (hb : ∀ w, Calls Tryz.prog 17 #[.int .i64 4, .int .i64 b] w fun e w' => e = .returned (.int .i64 (wrR b)) ∧ w = w') (w : World) :
    Calls Tryz.prog 27 #[.int .i64 4, .int .i64 14, .int .i64 a, .int .i64 b] w fun e w' => e = .returned (.bool (cmpR 14 (bitsN (wrR a)) (bitsN (wrR b)))) ∧ w = w' := by
  have HhA := Lib.hid ha
  have HhB := Lib.hid hb
  have hv : cmpR 14 (bitsN (wrR a)) (bitsN (wrR b)) = true := by unfold cmpR; rw [ho]; rfl
  have hl : (FloatKind.f64.format.order (bitsN (wrR a)) (bitsN (wrR b)) == some .lt) = false := by show (ordN _ _ == _) = _; rw [ho]; rfl
  have hg : (FloatKind.f64.format.order (bitsN (wrR a)) (bitsN (wrR b)) == some .gt) = true := by show (ordN _ _ == _) = _; rw [ho]; rfl
  rw [hv]
  clear ha hb ho hv
  generalize wrR a = x at *
  generalize wrR b = y at *
  go_enter Tryz.func27, Tryz.ntmps27
  go_wp2_with fail
  refine (HhA.out _).mono ?_
  rintro e w1 ⟨rfl, rfl⟩
  go_wp2_with fail
  refine (HhB.out _).mono ?_
  rintro e w2 ⟨rfl, rfl⟩
  go_wp2_with fail
  refine (refValue_any _ _).mono ?_
  rintro e w3 ⟨rfl, rfl⟩
  go_wp2_with fail
  refine (refValue_any _ _).mono ?_
  rintro e w4 ⟨rfl, rfl⟩
  go_wp2_with fail
  refine (refValue_any _ _).mono ?_
  rintro e w5 ⟨rfl, rfl⟩
  go_wp2_with fail
  refine (refValue_any _ _).mono ?_
  rintro e w6 ⟨rfl, rfl⟩
  go_wp2_with fail
  go_ret
  exact ⟨rfl, rfl⟩
set_option maxRecDepth 100000 in
theorem refCmpR_14_nanA (a b : Int) (hA : (wrR a == 9221120237041090561) = true) 
    (ha : ∀ w, Calls Tryz.prog 17 #[.int .i64 4, .int .i64 a] w fun e w' => e = .returned (.int .i64 (wrR a)) ∧ w = w')
    (hb : ∀ w, Calls Tryz.prog 17 #[.int .i64 4, .int .i64 b] w fun e w' => e = .returned (.int .i64 (wrR b)) ∧ w = w') (w : World) :
    Calls Tryz.prog 27 #[.int .i64 4, .int .i64 14, .int .i64 a, .int .i64 b] w fun e w' => e = .returned (.bool false) ∧ w = w' := by
  have HhA := Lib.hid ha
  have HhB := Lib.hid hb
  clear ha hb
  generalize wrR a = x at *
  generalize wrR b = y at *
  go_enter Tryz.func27, Tryz.ntmps27
  go_wp2_with fail
  refine (HhA.out _).mono ?_
  rintro e w1 ⟨rfl, rfl⟩
  go_wp2_with fail
  refine (HhB.out _).mono ?_
  rintro e w2 ⟨rfl, rfl⟩
  go_wp2_with fail
  go_ret
  exact ⟨rfl, rfl⟩
set_option maxRecDepth 100000 in
theorem refCmpR_14_nanB (a b : Int) (hA : (wrR a == 9221120237041090561) = false) (hB : (wrR b == 9221120237041090561) = true)
    (ha : ∀ w, Calls Tryz.prog 17 #[.int .i64 4, .int .i64 a] w fun e w' => e = .returned (.int .i64 (wrR a)) ∧ w = w')
    (hb : ∀ w, Calls Tryz.prog 17 #[.int .i64 4, .int .i64 b] w fun e w' => e = .returned (.int .i64 (wrR b)) ∧ w = w') (w : World) :
    Calls Tryz.prog 27 #[.int .i64 4, .int .i64 14, .int .i64 a, .int .i64 b] w fun e w' => e = .returned (.bool false) ∧ w = w' := by
  have HhA := Lib.hid ha
  have HhB := Lib.hid hb
  clear ha hb
  generalize wrR a = x at *
  generalize wrR b = y at *
  go_enter Tryz.func27, Tryz.ntmps27
  go_wp2_with fail
  refine (HhA.out _).mono ?_
  rintro e w1 ⟨rfl, rfl⟩
  go_wp2_with fail
  refine (HhB.out _).mono ?_
  rintro e w2 ⟨rfl, rfl⟩
  go_wp2_with fail
  go_ret
  exact ⟨rfl, rfl⟩
set_option maxRecDepth 100000 in
theorem refCmpR_15_lt (a b : Int) (hA : (wrR a == 9221120237041090561) = false) (hB : (wrR b == 9221120237041090561) = false) (ho : ordN (bitsN (wrR a)) (bitsN (wrR b)) = some .lt)
    (ha : ∀ w, Calls Tryz.prog 17 #[.int .i64 4, .int .i64 a] w fun e w' => e = .returned (.int .i64 (wrR a)) ∧ w = w')
    (hb : ∀ w, Calls Tryz.prog 17 #[.int .i64 4, .int .i64 b] w fun e w' => e = .returned (.int .i64 (wrR b)) ∧ w = w') (w : World) :
    Calls Tryz.prog 27 #[.int .i64 4, .int .i64 15, .int .i64 a, .int .i64 b] w fun e w' => e = .returned (.bool (cmpR 15 (bitsN (wrR a)) (bitsN (wrR b)))) ∧ w = w' := by
  have HhA := Lib.hid ha
  have HhB := Lib.hid hb
  have hv : cmpR 15 (bitsN (wrR a)) (bitsN (wrR b)) = false := by unfold cmpR; rw [ho]; rfl
  have hl : (FloatKind.f64.format.order (bitsN (wrR a)) (bitsN (wrR b)) == some .lt) = true := by show (ordN _ _ == _) = _; rw [ho]; rfl
  have hg : (FloatKind.f64.format.order (bitsN (wrR a)) (bitsN (wrR b)) == some .gt) = false := by show (ordN _ _ == _) = _; rw [ho]; rfl
  rw [hv]
  clear ha hb ho hv
  generalize wrR a = x at *
  generalize wrR b = y at *
  go_enter Tryz.func27, Tryz.ntmps27
  go_wp2_with fail
  refine (HhA.out _).mono ?_
  rintro e w1 ⟨rfl, rfl⟩
  go_wp2_with fail
  refine (HhB.out _).mono ?_
  rintro e w2 ⟨rfl, rfl⟩
  go_wp2_with fail
  refine (refValue_any _ _).mono ?_
  rintro e w3 ⟨rfl, rfl⟩
  go_wp2_with fail
  refine (refValue_any _ _).mono ?_
  rintro e w4 ⟨rfl, rfl⟩
  go_wp2_with fail
  refine (refValue_any _ _).mono ?_
  rintro e w5 ⟨rfl, rfl⟩
  go_wp2_with fail
  refine (refValue_any _ _).mono ?_
  rintro e w6 ⟨rfl, rfl⟩
  go_wp2_with fail
  go_ret
  exact ⟨rfl, rfl⟩
set_option maxRecDepth 100000 in
theorem refCmpR_15_eq (a b : Int) (hA : (wrR a == 9221120237041090561) = false) (hB : (wrR b == 9221120237041090561) = false) (ho : ordN (bitsN (wrR a)) (bitsN (wrR b)) = some .eq)
    (ha : ∀ w, Calls Tryz.prog 17 #[.int .i64 4, .int .i64 a] w fun e w' => e = .returned (.int .i64 (wrR a)) ∧ w = w')
    (hb : ∀ w, Calls Tryz.prog 17 #[.int .i64 4, .int .i64 b] w fun e w' => e = .returned (.int .i64 (wrR b)) ∧ w = w') (w : World) :
    Calls Tryz.prog 27 #[.int .i64 4, .int .i64 15, .int .i64 a, .int .i64 b] w fun e w' => e = .returned (.bool (cmpR 15 (bitsN (wrR a)) (bitsN (wrR b)))) ∧ w = w' := by
  have HhA := Lib.hid ha
  have HhB := Lib.hid hb
  have hv : cmpR 15 (bitsN (wrR a)) (bitsN (wrR b)) = true := by unfold cmpR; rw [ho]; rfl
  have hl : (FloatKind.f64.format.order (bitsN (wrR a)) (bitsN (wrR b)) == some .lt) = false := by show (ordN _ _ == _) = _; rw [ho]; rfl
  have hg : (FloatKind.f64.format.order (bitsN (wrR a)) (bitsN (wrR b)) == some .gt) = false := by show (ordN _ _ == _) = _; rw [ho]; rfl
  rw [hv]
  clear ha hb ho hv
  generalize wrR a = x at *
  generalize wrR b = y at *
  go_enter Tryz.func27, Tryz.ntmps27
  go_wp2_with fail
  refine (HhA.out _).mono ?_
  rintro e w1 ⟨rfl, rfl⟩
  go_wp2_with fail
  refine (HhB.out _).mono ?_
  rintro e w2 ⟨rfl, rfl⟩
  go_wp2_with fail
  refine (refValue_any _ _).mono ?_
  rintro e w3 ⟨rfl, rfl⟩
  go_wp2_with fail
  refine (refValue_any _ _).mono ?_
  rintro e w4 ⟨rfl, rfl⟩
  go_wp2_with fail
  refine (refValue_any _ _).mono ?_
  rintro e w5 ⟨rfl, rfl⟩
  go_wp2_with fail
  refine (refValue_any _ _).mono ?_
  rintro e w6 ⟨rfl, rfl⟩
  go_wp2_with fail
  go_ret
  exact ⟨rfl, rfl⟩
set_option maxRecDepth 100000 in
theorem refCmpR_15_gt (a b : Int) (hA : (wrR a == 9221120237041090561) = false) (hB : (wrR b == 9221120237041090561) = false) (ho : ordN (bitsN (wrR a)) (bitsN (wrR b)) = some .gt)
    (ha : ∀ w, Calls Tryz.prog 17 #[.int .i64 4, .int .i64 a] w fun e w' => e = .returned (.int .i64 (wrR a)) ∧ w = w')
    (hb : ∀ w, Calls Tryz.prog 17 #[.int .i64 4, .int .i64 b] w fun e w' => e = .returned (.int .i64 (wrR b)) ∧ w = w') (w : World) :
    Calls Tryz.prog 27 #[.int .i64 4, .int .i64 15, .int .i64 a, .int .i64 b] w fun e w' => e = .returned (.bool (cmpR 15 (bitsN (wrR a)) (bitsN (wrR b)))) ∧ w = w' := by
  have HhA := Lib.hid ha
  have HhB := Lib.hid hb
  have hv : cmpR 15 (bitsN (wrR a)) (bitsN (wrR b)) = true := by unfold cmpR; rw [ho]; rfl
  have hl : (FloatKind.f64.format.order (bitsN (wrR a)) (bitsN (wrR b)) == some .lt) = false := by show (ordN _ _ == _) = _; rw [ho]; rfl
  have hg : (FloatKind.f64.format.order (bitsN (wrR a)) (bitsN (wrR b)) == some .gt) = true := by show (ordN _ _ == _) = _; rw [ho]; rfl
  rw [hv]
  clear ha hb ho hv
  generalize wrR a = x at *
  generalize wrR b = y at *
  go_enter Tryz.func27, Tryz.ntmps27
  go_wp2_with fail
  refine (HhA.out _).mono ?_
  rintro e w1 ⟨rfl, rfl⟩
  go_wp2_with fail
  refine (HhB.out _).mono ?_
  rintro e w2 ⟨rfl, rfl⟩
  go_wp2_with fail
  refine (refValue_any _ _).mono ?_
  rintro e w3 ⟨rfl, rfl⟩
  go_wp2_with fail
  refine (refValue_any _ _).mono ?_
  rintro e w4 ⟨rfl, rfl⟩
  go_wp2_with fail
  refine (refValue_any _ _).mono ?_
  rintro e w5 ⟨rfl, rfl⟩
  go_wp2_with fail
  refine (refValue_any _ _).mono ?_
  rintro e w6 ⟨rfl, rfl⟩
  go_wp2_with fail
  go_ret
  exact ⟨rfl, rfl⟩
set_option maxRecDepth 100000 in
theorem refCmpR_15_nanA (a b : Int) (hA : (wrR a == 9221120237041090561) = true) 
    (ha : ∀ w, Calls Tryz.prog 17 #[.int .i64 4, .int .i64 a] w fun e w' => e = .returned (.int .i64 (wrR a)) ∧ w = w')
    (hb : ∀ w, Calls Tryz.prog 17 #[.int .i64 4, .int .i64 b] w fun e w' => e = .returned (.int .i64 (wrR b)) ∧ w = w') (w : World) :
    Calls Tryz.prog 27 #[.int .i64 4, .int .i64 15, .int .i64 a, .int .i64 b] w fun e w' => e = .returned (.bool false) ∧ w = w' := by
  have HhA := Lib.hid ha
  have HhB := Lib.hid hb
  clear ha hb
  generalize wrR a = x at *
  generalize wrR b = y at *
  go_enter Tryz.func27, Tryz.ntmps27
  go_wp2_with fail
  refine (HhA.out _).mono ?_
  rintro e w1 ⟨rfl, rfl⟩
  go_wp2_with fail
  refine (HhB.out _).mono ?_
  rintro e w2 ⟨rfl, rfl⟩
  go_wp2_with fail
  go_ret
  exact ⟨rfl, rfl⟩
set_option maxRecDepth 100000 in
theorem refCmpR_15_nanB (a b : Int) (hA : (wrR a == 9221120237041090561) = false) (hB : (wrR b == 9221120237041090561) = true)
    (ha : ∀ w, Calls Tryz.prog 17 #[.int .i64 4, .int .i64 a] w fun e w' => e = .returned (.int .i64 (wrR a)) ∧ w = w')
    (hb : ∀ w, Calls Tryz.prog 17 #[.int .i64 4, .int .i64 b] w fun e w' => e = .returned (.int .i64 (wrR b)) ∧ w = w') (w : World) :
    Calls Tryz.prog 27 #[.int .i64 4, .int .i64 15, .int .i64 a, .int .i64 b] w fun e w' => e = .returned (.bool false) ∧ w = w' := by
  have HhA := Lib.hid ha
  have HhB := Lib.hid hb
  clear ha hb
  generalize wrR a = x at *
  generalize wrR b = y at *
  go_enter Tryz.func27, Tryz.ntmps27
  go_wp2_with fail
  refine (HhA.out _).mono ?_
  rintro e w1 ⟨rfl, rfl⟩
  go_wp2_with fail
  refine (HhB.out _).mono ?_
  rintro e w2 ⟨rfl, rfl⟩
  go_wp2_with fail
  go_ret
  exact ⟨rfl, rfl⟩
end Go.Proofs.YtpgfogfejemojaaGreatDoor
