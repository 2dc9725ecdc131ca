/-
  For all kinds and all two numbers the law NumberOrders returns true. No condition.
-/
import Derived.Test.YthbmdlihfocbmaaGreatDoorRows
import Derived.Test.YthbmdlihfocbmaaGreatDoorAwakeN
import Derived.Test.YthbmdlihfocbmaaGreatDoorWrapA
import Derived.Test.YthbmdlihfocbmaaGreatDoorRef1
import Derived.Test.YthbmdlihfocbmaaGreatDoorCm1
import Derived.Test.YthbmdlihfocbmaaGreatDoorCm2
import Derived.Test.YthbmdlihfocbmaaGreatDoorCm3
import Derived.Test.YthbmdlihfocbmaaGreatDoorCm4
import Derived.Test.YthbmdlihfocbmaaGreatDoorLaidN
import Derived.WalkKit
import Derived.ProofKit
import Derived.OpenShut
import Derived.ShutString
import Derived.ChangeOld
import Derived.Carry
import Derived.SevenTiedAt
import Derived.Test.YthbmdlihfocbmaaGreatDoorCards
import Derived.Test.YthbmdlihfocbmaaGreatDoorTie
set_option linter.unusedVariables false
namespace Go.Proofs.YthbmdlihfocbmaaGreatDoor.numberOrders
open Go.ChangeShapes Go.WideShapes Go.ChangeAt Go.RowKit

theorem own : ownKnob Tryz.prog.godebug = none := by kernel_rfl

theorem order_swap (d e : Ieee.Datum) : e.order d = (d.order e).map Ordering.swap := by
  cases d with
  | nan s f => cases e <;> simp [Ieee.Datum.order]
  | infinity s => cases e with
    | nan t g => simp [Ieee.Datum.order]
    | infinity t => cases s <;> cases t <;> simp [Ieee.Datum.order] <;> decide
    | number t n j => cases s <;> simp [Ieee.Datum.order]
  | number s m i => cases e with
    | nan t g => simp [Ieee.Datum.order]
    | infinity t => cases t <;> simp [Ieee.Datum.order]
    | number t n j =>
      simp only [Ieee.Datum.order, Option.map_some, Option.some.injEq]
      rw [Int.min_comm j i]
      exact (Int.compare_swap _ _).symm
theorem order_none (d e : Ieee.Datum) : d.order e = none ↔ d.isNaN = true ∨ e.isNaN = true := by
  cases d <;> cases e <;> simp [Ieee.Datum.order, Ieee.Datum.isNaN]
theorem nanB_read (b : Nat) : nanB b = (FloatKind.f64.format.read b).isNaN := by
  unfold nanB Ieee.Format.order
  cases FloatKind.f64.format.read b <;> simp [Ieee.Datum.order, Ieee.Datum.isNaN]
theorem ordN_none (x y : Nat) : ordN x y = none ↔ nanB x = true ∨ nanB y = true := by
  rw [nanB_read, nanB_read]; exact order_none _ _
theorem ordN_swap (x y : Nat) : ordN y x = (ordN x y).map Ordering.swap := order_swap _ _
theorem wrR_nan (n : Int) (h0 : -9223372036854775808 ≤ n) (h1 : n ≤ 9223372036854775807) : nanB (bitsN (wrR n)) = decide (wrR n = 9221120237041090561) := by
  have hc : nanB (bitsN 9221120237041090561) = true := by decide +kernel
  rw [wrR_of n h0 h1]
  by_cases h : nanB (bitsN n) = true
  · rw [if_pos h, hc]; rfl
  · rw [if_neg h]
    have hne : n ≠ 9221120237041090561 := by
      intro e; rw [e] at h; exact h hc
    rw [decide_eq_false hne]
    simpa using h

set_option maxHeartbeats 1000000 in
set_option maxRecDepth 100000 in
theorem int_lt (k : Nat) (hk : k ≤ 3) (a b : Int)
    (h0 : ∀ w, Calls Tryz.prog 25 #[.int .i64 (k : Int), .int .i64 12, .int .i64 a, .int .i64 b] w fun e w' => e = .returned (.tuple #[.bool true, .int .i64 0]) ∧ Below w.heap.size w w')
    (h1 : ∀ w, Calls Tryz.prog 25 #[.int .i64 (k : Int), .int .i64 10, .int .i64 a, .int .i64 b] w fun e w' => e = .returned (.tuple #[.bool false, .int .i64 0]) ∧ Below w.heap.size w w')
    (h2 : ∀ w, Calls Tryz.prog 25 #[.int .i64 (k : Int), .int .i64 14, .int .i64 a, .int .i64 b] w fun e w' => e = .returned (.tuple #[.bool false, .int .i64 0]) ∧ Below w.heap.size w w')
    (h3 : ∀ w, Calls Tryz.prog 25 #[.int .i64 (k : Int), .int .i64 13, .int .i64 a, .int .i64 b] w fun e w' => e = .returned (.tuple #[.bool true, .int .i64 0]) ∧ Below w.heap.size w w')
    (h4 : ∀ w, Calls Tryz.prog 25 #[.int .i64 (k : Int), .int .i64 15, .int .i64 a, .int .i64 b] w fun e w' => e = .returned (.tuple #[.bool false, .int .i64 0]) ∧ Below w.heap.size w w')
    (h5 : ∀ w, Calls Tryz.prog 25 #[.int .i64 (k : Int), .int .i64 11, .int .i64 a, .int .i64 b] w fun e w' => e = .returned (.tuple #[.bool true, .int .i64 0]) ∧ Below w.heap.size w w')
    (h6 : ∀ w, Calls Tryz.prog 25 #[.int .i64 (k : Int), .int .i64 12, .int .i64 b, .int .i64 a] w fun e w' => e = .returned (.tuple #[.bool false, .int .i64 0]) ∧ Below w.heap.size w w')
    (w : World) (ht : TabN w) :
    Calls Tryz.prog 11 #[.int .i64 (k : Int), .int .i64 a, .int .i64 b] w fun e w' => e = .returned (.bool true) ∧ Below w.heap.size w w' := by
  have HT := Lib.hid ht
  have H0 := Lib.hid h0
  have H1 := Lib.hid h1
  have H2 := Lib.hid h2
  have H3 := Lib.hid h3
  have H4 := Lib.hid h4
  have H5 := Lib.hid h5
  have H6 := Lib.hid h6
  clear ht h0 h1 h2 h3 h4 h5 h6
  have k4 : ((k : Int) == 4) = false := by simp; omega
  go_enter Tryz.func11, Tryz.ntmps11
  go_wp2_with fail
  refine (H0.out _).mono ?_
  rintro e w1 ⟨rfl, hb⟩
  have HB1 := Lib.hid ((Below.refl w.heap.size w).trans (hb.mono (Below.refl w.heap.size w).size))
  clear hb
  go_wp2_with fail
  refine (H1.out _).mono ?_
  rintro e w2 ⟨rfl, hb⟩
  have HB2 := Lib.hid (HB1.out.trans (hb.mono HB1.out.size))
  clear hb
  go_wp2_with fail
  refine (H2.out _).mono ?_
  rintro e w3 ⟨rfl, hb⟩
  have HB3 := Lib.hid (HB2.out.trans (hb.mono HB2.out.size))
  clear hb
  go_wp2_with fail
  refine (H3.out _).mono ?_
  rintro e w4 ⟨rfl, hb⟩
  have HB4 := Lib.hid (HB3.out.trans (hb.mono HB3.out.size))
  clear hb
  go_wp2_with fail
  refine (H4.out _).mono ?_
  rintro e w5 ⟨rfl, hb⟩
  have HB5 := Lib.hid (HB4.out.trans (hb.mono HB4.out.size))
  clear hb
  go_wp2_with fail
  refine (H5.out _).mono ?_
  rintro e w6 ⟨rfl, hb⟩
  have HB6 := Lib.hid (HB5.out.trans (hb.mono HB5.out.size))
  clear hb
  go_wp2_with fail
  refine (H6.out _).mono ?_
  rintro e w7 ⟨rfl, hb⟩
  have HB7 := Lib.hid (HB6.out.trans (hb.mono HB6.out.size))
  clear hb
  go_wp2_with fail
  refine (awake_any _ (HT.out.below HB7.out)).mono ?_
  rintro e w10 ⟨rfl, hb⟩
  have HB10 := Lib.hid (HB7.out.trans (hb.mono HB7.out.size))
  clear hb
  go_wp2_with fail
  go_ret
  exact ⟨rfl, HB10.out⟩

set_option maxHeartbeats 1000000 in
set_option maxRecDepth 100000 in
theorem int_eq (k : Nat) (hk : k ≤ 3) (a b : Int)
    (h0 : ∀ w, Calls Tryz.prog 25 #[.int .i64 (k : Int), .int .i64 12, .int .i64 a, .int .i64 b] w fun e w' => e = .returned (.tuple #[.bool false, .int .i64 0]) ∧ Below w.heap.size w w')
    (h1 : ∀ w, Calls Tryz.prog 25 #[.int .i64 (k : Int), .int .i64 10, .int .i64 a, .int .i64 b] w fun e w' => e = .returned (.tuple #[.bool true, .int .i64 0]) ∧ Below w.heap.size w w')
    (h2 : ∀ w, Calls Tryz.prog 25 #[.int .i64 (k : Int), .int .i64 14, .int .i64 a, .int .i64 b] w fun e w' => e = .returned (.tuple #[.bool false, .int .i64 0]) ∧ Below w.heap.size w w')
    (h3 : ∀ w, Calls Tryz.prog 25 #[.int .i64 (k : Int), .int .i64 13, .int .i64 a, .int .i64 b] w fun e w' => e = .returned (.tuple #[.bool true, .int .i64 0]) ∧ Below w.heap.size w w')
    (h4 : ∀ w, Calls Tryz.prog 25 #[.int .i64 (k : Int), .int .i64 15, .int .i64 a, .int .i64 b] w fun e w' => e = .returned (.tuple #[.bool true, .int .i64 0]) ∧ Below w.heap.size w w')
    (h5 : ∀ w, Calls Tryz.prog 25 #[.int .i64 (k : Int), .int .i64 11, .int .i64 a, .int .i64 b] w fun e w' => e = .returned (.tuple #[.bool false, .int .i64 0]) ∧ Below w.heap.size w w')
    (h6 : ∀ w, Calls Tryz.prog 25 #[.int .i64 (k : Int), .int .i64 12, .int .i64 b, .int .i64 a] w fun e w' => e = .returned (.tuple #[.bool false, .int .i64 0]) ∧ Below w.heap.size w w')
    (w : World) (ht : TabN w) :
    Calls Tryz.prog 11 #[.int .i64 (k : Int), .int .i64 a, .int .i64 b] w fun e w' => e = .returned (.bool true) ∧ Below w.heap.size w w' := by
  have HT := Lib.hid ht
  have H0 := Lib.hid h0
  have H1 := Lib.hid h1
  have H2 := Lib.hid h2
  have H3 := Lib.hid h3
  have H4 := Lib.hid h4
  have H5 := Lib.hid h5
  have H6 := Lib.hid h6
  clear ht h0 h1 h2 h3 h4 h5 h6
  have k4 : ((k : Int) == 4) = false := by simp; omega
  go_enter Tryz.func11, Tryz.ntmps11
  go_wp2_with fail
  refine (H0.out _).mono ?_
  rintro e w1 ⟨rfl, hb⟩
  have HB1 := Lib.hid ((Below.refl w.heap.size w).trans (hb.mono (Below.refl w.heap.size w).size))
  clear hb
  go_wp2_with fail
  refine (H1.out _).mono ?_
  rintro e w2 ⟨rfl, hb⟩
  have HB2 := Lib.hid (HB1.out.trans (hb.mono HB1.out.size))
  clear hb
  go_wp2_with fail
  refine (H2.out _).mono ?_
  rintro e w3 ⟨rfl, hb⟩
  have HB3 := Lib.hid (HB2.out.trans (hb.mono HB2.out.size))
  clear hb
  go_wp2_with fail
  refine (H3.out _).mono ?_
  rintro e w4 ⟨rfl, hb⟩
  have HB4 := Lib.hid (HB3.out.trans (hb.mono HB3.out.size))
  clear hb
  go_wp2_with fail
  refine (H4.out _).mono ?_
  rintro e w5 ⟨rfl, hb⟩
  have HB5 := Lib.hid (HB4.out.trans (hb.mono HB4.out.size))
  clear hb
  go_wp2_with fail
  refine (H5.out _).mono ?_
  rintro e w6 ⟨rfl, hb⟩
  have HB6 := Lib.hid (HB5.out.trans (hb.mono HB5.out.size))
  clear hb
  go_wp2_with fail
  refine (H6.out _).mono ?_
  rintro e w7 ⟨rfl, hb⟩
  have HB7 := Lib.hid (HB6.out.trans (hb.mono HB6.out.size))
  clear hb
  go_wp2_with fail
  refine (awake_any _ (HT.out.below HB7.out)).mono ?_
  rintro e w10 ⟨rfl, hb⟩
  have HB10 := Lib.hid (HB7.out.trans (hb.mono HB7.out.size))
  clear hb
  go_wp2_with fail
  go_ret
  exact ⟨rfl, HB10.out⟩

set_option maxHeartbeats 1000000 in
set_option maxRecDepth 100000 in
theorem int_gt (k : Nat) (hk : k ≤ 3) (a b : Int)
    (h0 : ∀ w, Calls Tryz.prog 25 #[.int .i64 (k : Int), .int .i64 12, .int .i64 a, .int .i64 b] w fun e w' => e = .returned (.tuple #[.bool false, .int .i64 0]) ∧ Below w.heap.size w w')
    (h1 : ∀ w, Calls Tryz.prog 25 #[.int .i64 (k : Int), .int .i64 10, .int .i64 a, .int .i64 b] w fun e w' => e = .returned (.tuple #[.bool false, .int .i64 0]) ∧ Below w.heap.size w w')
    (h2 : ∀ w, Calls Tryz.prog 25 #[.int .i64 (k : Int), .int .i64 14, .int .i64 a, .int .i64 b] w fun e w' => e = .returned (.tuple #[.bool true, .int .i64 0]) ∧ Below w.heap.size w w')
    (h3 : ∀ w, Calls Tryz.prog 25 #[.int .i64 (k : Int), .int .i64 13, .int .i64 a, .int .i64 b] w fun e w' => e = .returned (.tuple #[.bool false, .int .i64 0]) ∧ Below w.heap.size w w')
    (h4 : ∀ w, Calls Tryz.prog 25 #[.int .i64 (k : Int), .int .i64 15, .int .i64 a, .int .i64 b] w fun e w' => e = .returned (.tuple #[.bool true, .int .i64 0]) ∧ Below w.heap.size w w')
    (h5 : ∀ w, Calls Tryz.prog 25 #[.int .i64 (k : Int), .int .i64 11, .int .i64 a, .int .i64 b] w fun e w' => e = .returned (.tuple #[.bool true, .int .i64 0]) ∧ Below w.heap.size w w')
    (h6 : ∀ w, Calls Tryz.prog 25 #[.int .i64 (k : Int), .int .i64 12, .int .i64 b, .int .i64 a] w fun e w' => e = .returned (.tuple #[.bool true, .int .i64 0]) ∧ Below w.heap.size w w')
    (w : World) (ht : TabN w) :
    Calls Tryz.prog 11 #[.int .i64 (k : Int), .int .i64 a, .int .i64 b] w fun e w' => e = .returned (.bool true) ∧ Below w.heap.size w w' := by
  have HT := Lib.hid ht
  have H0 := Lib.hid h0
  have H1 := Lib.hid h1
  have H2 := Lib.hid h2
  have H3 := Lib.hid h3
  have H4 := Lib.hid h4
  have H5 := Lib.hid h5
  have H6 := Lib.hid h6
  clear ht h0 h1 h2 h3 h4 h5 h6
  have k4 : ((k : Int) == 4) = false := by simp; omega
  go_enter Tryz.func11, Tryz.ntmps11
  go_wp2_with fail
  refine (H0.out _).mono ?_
  rintro e w1 ⟨rfl, hb⟩
  have HB1 := Lib.hid ((Below.refl w.heap.size w).trans (hb.mono (Below.refl w.heap.size w).size))
  clear hb
  go_wp2_with fail
  refine (H1.out _).mono ?_
  rintro e w2 ⟨rfl, hb⟩
  have HB2 := Lib.hid (HB1.out.trans (hb.mono HB1.out.size))
  clear hb
  go_wp2_with fail
  refine (H2.out _).mono ?_
  rintro e w3 ⟨rfl, hb⟩
  have HB3 := Lib.hid (HB2.out.trans (hb.mono HB2.out.size))
  clear hb
  go_wp2_with fail
  refine (H3.out _).mono ?_
  rintro e w4 ⟨rfl, hb⟩
  have HB4 := Lib.hid (HB3.out.trans (hb.mono HB3.out.size))
  clear hb
  go_wp2_with fail
  refine (H4.out _).mono ?_
  rintro e w5 ⟨rfl, hb⟩
  have HB5 := Lib.hid (HB4.out.trans (hb.mono HB4.out.size))
  clear hb
  go_wp2_with fail
  refine (H5.out _).mono ?_
  rintro e w6 ⟨rfl, hb⟩
  have HB6 := Lib.hid (HB5.out.trans (hb.mono HB5.out.size))
  clear hb
  go_wp2_with fail
  refine (H6.out _).mono ?_
  rintro e w7 ⟨rfl, hb⟩
  have HB7 := Lib.hid (HB6.out.trans (hb.mono HB6.out.size))
  clear hb
  go_wp2_with fail
  refine (awake_any _ (HT.out.below HB7.out)).mono ?_
  rintro e w10 ⟨rfl, hb⟩
  have HB10 := Lib.hid (HB7.out.trans (hb.mono HB7.out.size))
  clear hb
  go_wp2_with fail
  go_ret
  exact ⟨rfl, HB10.out⟩

set_option maxHeartbeats 1000000 in
set_option maxRecDepth 100000 in
theorem real_lt (a b : Int)
    (h0 : ∀ w, Calls Tryz.prog 25 #[.int .i64 4, .int .i64 12, .int .i64 a, .int .i64 b] w fun e w' => e = .returned (.tuple #[.bool true, .int .i64 0]) ∧ Below w.heap.size w w')
    (h1 : ∀ w, Calls Tryz.prog 25 #[.int .i64 4, .int .i64 10, .int .i64 a, .int .i64 b] w fun e w' => e = .returned (.tuple #[.bool false, .int .i64 0]) ∧ Below w.heap.size w w')
    (h2 : ∀ w, Calls Tryz.prog 25 #[.int .i64 4, .int .i64 14, .int .i64 a, .int .i64 b] w fun e w' => e = .returned (.tuple #[.bool false, .int .i64 0]) ∧ Below w.heap.size w w')
    (h3 : ∀ w, Calls Tryz.prog 25 #[.int .i64 4, .int .i64 13, .int .i64 a, .int .i64 b] w fun e w' => e = .returned (.tuple #[.bool true, .int .i64 0]) ∧ Below w.heap.size w w')
    (h4 : ∀ w, Calls Tryz.prog 25 #[.int .i64 4, .int .i64 15, .int .i64 a, .int .i64 b] w fun e w' => e = .returned (.tuple #[.bool false, .int .i64 0]) ∧ Below w.heap.size w w')
    (h5 : ∀ w, Calls Tryz.prog 25 #[.int .i64 4, .int .i64 11, .int .i64 a, .int .i64 b] w fun e w' => e = .returned (.tuple #[.bool true, .int .i64 0]) ∧ Below w.heap.size w w')
    (h6 : ∀ w, Calls Tryz.prog 25 #[.int .i64 4, .int .i64 12, .int .i64 b, .int .i64 a] w fun e w' => e = .returned (.tuple #[.bool false, .int .i64 0]) ∧ Below w.heap.size w w')
    (ra : (wrR a == 9221120237041090561) = false)
    (rb : (wrR b == 9221120237041090561) = false)
    (w : World) (ht : TabN w) :
    Calls Tryz.prog 11 #[.int .i64 4, .int .i64 a, .int .i64 b] w fun e w' => e = .returned (.bool true) ∧ Below w.heap.size w w' := by
  have HT := Lib.hid ht
  have H0 := Lib.hid h0
  have H1 := Lib.hid h1
  have H2 := Lib.hid h2
  have H3 := Lib.hid h3
  have H4 := Lib.hid h4
  have H5 := Lib.hid h5
  have H6 := Lib.hid h6
  clear ht h0 h1 h2 h3 h4 h5 h6
  go_enter Tryz.func11, Tryz.ntmps11
  go_wp2_with fail
  refine (H0.out _).mono ?_
  rintro e w1 ⟨rfl, hb⟩
  have HB1 := Lib.hid ((Below.refl w.heap.size w).trans (hb.mono (Below.refl w.heap.size w).size))
  clear hb
  go_wp2_with fail
  refine (H1.out _).mono ?_
  rintro e w2 ⟨rfl, hb⟩
  have HB2 := Lib.hid (HB1.out.trans (hb.mono HB1.out.size))
  clear hb
  go_wp2_with fail
  refine (H2.out _).mono ?_
  rintro e w3 ⟨rfl, hb⟩
  have HB3 := Lib.hid (HB2.out.trans (hb.mono HB2.out.size))
  clear hb
  go_wp2_with fail
  refine (H3.out _).mono ?_
  rintro e w4 ⟨rfl, hb⟩
  have HB4 := Lib.hid (HB3.out.trans (hb.mono HB3.out.size))
  clear hb
  go_wp2_with fail
  refine (H4.out _).mono ?_
  rintro e w5 ⟨rfl, hb⟩
  have HB5 := Lib.hid (HB4.out.trans (hb.mono HB4.out.size))
  clear hb
  go_wp2_with fail
  refine (H5.out _).mono ?_
  rintro e w6 ⟨rfl, hb⟩
  have HB6 := Lib.hid (HB5.out.trans (hb.mono HB5.out.size))
  clear hb
  go_wp2_with fail
  refine (H6.out _).mono ?_
  rintro e w7 ⟨rfl, hb⟩
  have HB7 := Lib.hid (HB6.out.trans (hb.mono HB6.out.size))
  clear hb
  go_wp2_with fail
  refine (Wrap4 a _).mono ?_
  rintro e w8 ⟨rfl, hb⟩
  have HB8 := Lib.hid (HB7.out.trans (hb.mono HB7.out.size))
  clear hb
  go_wp2_with fail
  refine (Wrap4 b _).mono ?_
  rintro e w9 ⟨rfl, hb⟩
  have HB9 := Lib.hid (HB8.out.trans (hb.mono HB8.out.size))
  clear hb
  go_wp2_with fail
  refine (awake_any _ (HT.out.below HB9.out)).mono ?_
  rintro e w10 ⟨rfl, hb⟩
  have HB10 := Lib.hid (HB9.out.trans (hb.mono HB9.out.size))
  clear hb
  go_wp2_with fail
  go_ret
  exact ⟨rfl, HB10.out⟩

set_option maxHeartbeats 1000000 in
set_option maxRecDepth 100000 in
theorem real_eq (a b : Int)
    (h0 : ∀ w, Calls Tryz.prog 25 #[.int .i64 4, .int .i64 12, .int .i64 a, .int .i64 b] w fun e w' => e = .returned (.tuple #[.bool false, .int .i64 0]) ∧ Below w.heap.size w w')
    (h1 : ∀ w, Calls Tryz.prog 25 #[.int .i64 4, .int .i64 10, .int .i64 a, .int .i64 b] w fun e w' => e = .returned (.tuple #[.bool true, .int .i64 0]) ∧ Below w.heap.size w w')
    (h2 : ∀ w, Calls Tryz.prog 25 #[.int .i64 4, .int .i64 14, .int .i64 a, .int .i64 b] w fun e w' => e = .returned (.tuple #[.bool false, .int .i64 0]) ∧ Below w.heap.size w w')
    (h3 : ∀ w, Calls Tryz.prog 25 #[.int .i64 4, .int .i64 13, .int .i64 a, .int .i64 b] w fun e w' => e = .returned (.tuple #[.bool true, .int .i64 0]) ∧ Below w.heap.size w w')
    (h4 : ∀ w, Calls Tryz.prog 25 #[.int .i64 4, .int .i64 15, .int .i64 a, .int .i64 b] w fun e w' => e = .returned (.tuple #[.bool true, .int .i64 0]) ∧ Below w.heap.size w w')
    (h5 : ∀ w, Calls Tryz.prog 25 #[.int .i64 4, .int .i64 11, .int .i64 a, .int .i64 b] w fun e w' => e = .returned (.tuple #[.bool false, .int .i64 0]) ∧ Below w.heap.size w w')
    (h6 : ∀ w, Calls Tryz.prog 25 #[.int .i64 4, .int .i64 12, .int .i64 b, .int .i64 a] w fun e w' => e = .returned (.tuple #[.bool false, .int .i64 0]) ∧ Below w.heap.size w w')
    (ra : (wrR a == 9221120237041090561) = false)
    (rb : (wrR b == 9221120237041090561) = false)
    (w : World) (ht : TabN w) :
    Calls Tryz.prog 11 #[.int .i64 4, .int .i64 a, .int .i64 b] w fun e w' => e = .returned (.bool true) ∧ Below w.heap.size w w' := by
  have HT := Lib.hid ht
  have H0 := Lib.hid h0
  have H1 := Lib.hid h1
  have H2 := Lib.hid h2
  have H3 := Lib.hid h3
  have H4 := Lib.hid h4
  have H5 := Lib.hid h5
  have H6 := Lib.hid h6
  clear ht h0 h1 h2 h3 h4 h5 h6
  go_enter Tryz.func11, Tryz.ntmps11
  go_wp2_with fail
  refine (H0.out _).mono ?_
  rintro e w1 ⟨rfl, hb⟩
  have HB1 := Lib.hid ((Below.refl w.heap.size w).trans (hb.mono (Below.refl w.heap.size w).size))
  clear hb
  go_wp2_with fail
  refine (H1.out _).mono ?_
  rintro e w2 ⟨rfl, hb⟩
  have HB2 := Lib.hid (HB1.out.trans (hb.mono HB1.out.size))
  clear hb
  go_wp2_with fail
  refine (H2.out _).mono ?_
  rintro e w3 ⟨rfl, hb⟩
  have HB3 := Lib.hid (HB2.out.trans (hb.mono HB2.out.size))
  clear hb
  go_wp2_with fail
  refine (H3.out _).mono ?_
  rintro e w4 ⟨rfl, hb⟩
  have HB4 := Lib.hid (HB3.out.trans (hb.mono HB3.out.size))
  clear hb
  go_wp2_with fail
  refine (H4.out _).mono ?_
  rintro e w5 ⟨rfl, hb⟩
  have HB5 := Lib.hid (HB4.out.trans (hb.mono HB4.out.size))
  clear hb
  go_wp2_with fail
  refine (H5.out _).mono ?_
  rintro e w6 ⟨rfl, hb⟩
  have HB6 := Lib.hid (HB5.out.trans (hb.mono HB5.out.size))
  clear hb
  go_wp2_with fail
  refine (H6.out _).mono ?_
  rintro e w7 ⟨rfl, hb⟩
  have HB7 := Lib.hid (HB6.out.trans (hb.mono HB6.out.size))
  clear hb
  go_wp2_with fail
  refine (Wrap4 a _).mono ?_
  rintro e w8 ⟨rfl, hb⟩
  have HB8 := Lib.hid (HB7.out.trans (hb.mono HB7.out.size))
  clear hb
  go_wp2_with fail
  refine (Wrap4 b _).mono ?_
  rintro e w9 ⟨rfl, hb⟩
  have HB9 := Lib.hid (HB8.out.trans (hb.mono HB8.out.size))
  clear hb
  go_wp2_with fail
  refine (awake_any _ (HT.out.below HB9.out)).mono ?_
  rintro e w10 ⟨rfl, hb⟩
  have HB10 := Lib.hid (HB9.out.trans (hb.mono HB9.out.size))
  clear hb
  go_wp2_with fail
  go_ret
  exact ⟨rfl, HB10.out⟩

set_option maxHeartbeats 1000000 in
set_option maxRecDepth 100000 in
theorem real_gt (a b : Int)
    (h0 : ∀ w, Calls Tryz.prog 25 #[.int .i64 4, .int .i64 12, .int .i64 a, .int .i64 b] w fun e w' => e = .returned (.tuple #[.bool false, .int .i64 0]) ∧ Below w.heap.size w w')
    (h1 : ∀ w, Calls Tryz.prog 25 #[.int .i64 4, .int .i64 10, .int .i64 a, .int .i64 b] w fun e w' => e = .returned (.tuple #[.bool false, .int .i64 0]) ∧ Below w.heap.size w w')
    (h2 : ∀ w, Calls Tryz.prog 25 #[.int .i64 4, .int .i64 14, .int .i64 a, .int .i64 b] w fun e w' => e = .returned (.tuple #[.bool true, .int .i64 0]) ∧ Below w.heap.size w w')
    (h3 : ∀ w, Calls Tryz.prog 25 #[.int .i64 4, .int .i64 13, .int .i64 a, .int .i64 b] w fun e w' => e = .returned (.tuple #[.bool false, .int .i64 0]) ∧ Below w.heap.size w w')
    (h4 : ∀ w, Calls Tryz.prog 25 #[.int .i64 4, .int .i64 15, .int .i64 a, .int .i64 b] w fun e w' => e = .returned (.tuple #[.bool true, .int .i64 0]) ∧ Below w.heap.size w w')
    (h5 : ∀ w, Calls Tryz.prog 25 #[.int .i64 4, .int .i64 11, .int .i64 a, .int .i64 b] w fun e w' => e = .returned (.tuple #[.bool true, .int .i64 0]) ∧ Below w.heap.size w w')
    (h6 : ∀ w, Calls Tryz.prog 25 #[.int .i64 4, .int .i64 12, .int .i64 b, .int .i64 a] w fun e w' => e = .returned (.tuple #[.bool true, .int .i64 0]) ∧ Below w.heap.size w w')
    (ra : (wrR a == 9221120237041090561) = false)
    (rb : (wrR b == 9221120237041090561) = false)
    (w : World) (ht : TabN w) :
    Calls Tryz.prog 11 #[.int .i64 4, .int .i64 a, .int .i64 b] w fun e w' => e = .returned (.bool true) ∧ Below w.heap.size w w' := by
  have HT := Lib.hid ht
  have H0 := Lib.hid h0
  have H1 := Lib.hid h1
  have H2 := Lib.hid h2
  have H3 := Lib.hid h3
  have H4 := Lib.hid h4
  have H5 := Lib.hid h5
  have H6 := Lib.hid h6
  clear ht h0 h1 h2 h3 h4 h5 h6
  go_enter Tryz.func11, Tryz.ntmps11
  go_wp2_with fail
  refine (H0.out _).mono ?_
  rintro e w1 ⟨rfl, hb⟩
  have HB1 := Lib.hid ((Below.refl w.heap.size w).trans (hb.mono (Below.refl w.heap.size w).size))
  clear hb
  go_wp2_with fail
  refine (H1.out _).mono ?_
  rintro e w2 ⟨rfl, hb⟩
  have HB2 := Lib.hid (HB1.out.trans (hb.mono HB1.out.size))
  clear hb
  go_wp2_with fail
  refine (H2.out _).mono ?_
  rintro e w3 ⟨rfl, hb⟩
  have HB3 := Lib.hid (HB2.out.trans (hb.mono HB2.out.size))
  clear hb
  go_wp2_with fail
  refine (H3.out _).mono ?_
  rintro e w4 ⟨rfl, hb⟩
  have HB4 := Lib.hid (HB3.out.trans (hb.mono HB3.out.size))
  clear hb
  go_wp2_with fail
  refine (H4.out _).mono ?_
  rintro e w5 ⟨rfl, hb⟩
  have HB5 := Lib.hid (HB4.out.trans (hb.mono HB4.out.size))
  clear hb
  go_wp2_with fail
  refine (H5.out _).mono ?_
  rintro e w6 ⟨rfl, hb⟩
  have HB6 := Lib.hid (HB5.out.trans (hb.mono HB5.out.size))
  clear hb
  go_wp2_with fail
  refine (H6.out _).mono ?_
  rintro e w7 ⟨rfl, hb⟩
  have HB7 := Lib.hid (HB6.out.trans (hb.mono HB6.out.size))
  clear hb
  go_wp2_with fail
  refine (Wrap4 a _).mono ?_
  rintro e w8 ⟨rfl, hb⟩
  have HB8 := Lib.hid (HB7.out.trans (hb.mono HB7.out.size))
  clear hb
  go_wp2_with fail
  refine (Wrap4 b _).mono ?_
  rintro e w9 ⟨rfl, hb⟩
  have HB9 := Lib.hid (HB8.out.trans (hb.mono HB8.out.size))
  clear hb
  go_wp2_with fail
  refine (awake_any _ (HT.out.below HB9.out)).mono ?_
  rintro e w10 ⟨rfl, hb⟩
  have HB10 := Lib.hid (HB9.out.trans (hb.mono HB9.out.size))
  clear hb
  go_wp2_with fail
  go_ret
  exact ⟨rfl, HB10.out⟩

set_option maxHeartbeats 1000000 in
set_option maxRecDepth 100000 in
theorem real_nanA (a b : Int)
    (h0 : ∀ w, Calls Tryz.prog 25 #[.int .i64 4, .int .i64 12, .int .i64 a, .int .i64 b] w fun e w' => e = .returned (.tuple #[.bool false, .int .i64 0]) ∧ Below w.heap.size w w')
    (h1 : ∀ w, Calls Tryz.prog 25 #[.int .i64 4, .int .i64 10, .int .i64 a, .int .i64 b] w fun e w' => e = .returned (.tuple #[.bool false, .int .i64 0]) ∧ Below w.heap.size w w')
    (h2 : ∀ w, Calls Tryz.prog 25 #[.int .i64 4, .int .i64 14, .int .i64 a, .int .i64 b] w fun e w' => e = .returned (.tuple #[.bool false, .int .i64 0]) ∧ Below w.heap.size w w')
    (h3 : ∀ w, Calls Tryz.prog 25 #[.int .i64 4, .int .i64 13, .int .i64 a, .int .i64 b] w fun e w' => e = .returned (.tuple #[.bool false, .int .i64 0]) ∧ Below w.heap.size w w')
    (h4 : ∀ w, Calls Tryz.prog 25 #[.int .i64 4, .int .i64 15, .int .i64 a, .int .i64 b] w fun e w' => e = .returned (.tuple #[.bool false, .int .i64 0]) ∧ Below w.heap.size w w')
    (h5 : ∀ w, Calls Tryz.prog 25 #[.int .i64 4, .int .i64 11, .int .i64 a, .int .i64 b] w fun e w' => e = .returned (.tuple #[.bool true, .int .i64 0]) ∧ Below w.heap.size w w')
    (h6 : ∀ w, Calls Tryz.prog 25 #[.int .i64 4, .int .i64 12, .int .i64 b, .int .i64 a] w fun e w' => e = .returned (.tuple #[.bool false, .int .i64 0]) ∧ Below w.heap.size w w')
    (ra : (wrR a == 9221120237041090561) = true)
    (w : World) (ht : TabN w) :
    Calls Tryz.prog 11 #[.int .i64 4, .int .i64 a, .int .i64 b] w fun e w' => e = .returned (.bool true) ∧ Below w.heap.size w w' := by
  have HT := Lib.hid ht
  have H0 := Lib.hid h0
  have H1 := Lib.hid h1
  have H2 := Lib.hid h2
  have H3 := Lib.hid h3
  have H4 := Lib.hid h4
  have H5 := Lib.hid h5
  have H6 := Lib.hid h6
  clear ht h0 h1 h2 h3 h4 h5 h6
  go_enter Tryz.func11, Tryz.ntmps11
  go_wp2_with fail
  refine (H0.out _).mono ?_
  rintro e w1 ⟨rfl, hb⟩
  have HB1 := Lib.hid ((Below.refl w.heap.size w).trans (hb.mono (Below.refl w.heap.size w).size))
  clear hb
  go_wp2_with fail
  refine (H1.out _).mono ?_
  rintro e w2 ⟨rfl, hb⟩
  have HB2 := Lib.hid (HB1.out.trans (hb.mono HB1.out.size))
  clear hb
  go_wp2_with fail
  refine (H2.out _).mono ?_
  rintro e w3 ⟨rfl, hb⟩
  have HB3 := Lib.hid (HB2.out.trans (hb.mono HB2.out.size))
  clear hb
  go_wp2_with fail
  refine (H3.out _).mono ?_
  rintro e w4 ⟨rfl, hb⟩
  have HB4 := Lib.hid (HB3.out.trans (hb.mono HB3.out.size))
  clear hb
  go_wp2_with fail
  refine (H4.out _).mono ?_
  rintro e w5 ⟨rfl, hb⟩
  have HB5 := Lib.hid (HB4.out.trans (hb.mono HB4.out.size))
  clear hb
  go_wp2_with fail
  refine (H5.out _).mono ?_
  rintro e w6 ⟨rfl, hb⟩
  have HB6 := Lib.hid (HB5.out.trans (hb.mono HB5.out.size))
  clear hb
  go_wp2_with fail
  refine (H6.out _).mono ?_
  rintro e w7 ⟨rfl, hb⟩
  have HB7 := Lib.hid (HB6.out.trans (hb.mono HB6.out.size))
  clear hb
  go_wp2_with fail
  refine (Wrap4 a _).mono ?_
  rintro e w8 ⟨rfl, hb⟩
  have HB8 := Lib.hid (HB7.out.trans (hb.mono HB7.out.size))
  clear hb
  go_wp2_with fail
  refine (Wrap4 b _).mono ?_
  rintro e w9 ⟨rfl, hb⟩
  have HB9 := Lib.hid (HB8.out.trans (hb.mono HB8.out.size))
  clear hb
  go_wp2_with fail
  refine (awake_any _ (HT.out.below HB9.out)).mono ?_
  rintro e w10 ⟨rfl, hb⟩
  have HB10 := Lib.hid (HB9.out.trans (hb.mono HB9.out.size))
  clear hb
  go_wp2_with fail
  go_ret
  exact ⟨rfl, HB10.out⟩

set_option maxHeartbeats 1000000 in
set_option maxRecDepth 100000 in
theorem real_nanB (a b : Int)
    (h0 : ∀ w, Calls Tryz.prog 25 #[.int .i64 4, .int .i64 12, .int .i64 a, .int .i64 b] w fun e w' => e = .returned (.tuple #[.bool false, .int .i64 0]) ∧ Below w.heap.size w w')
    (h1 : ∀ w, Calls Tryz.prog 25 #[.int .i64 4, .int .i64 10, .int .i64 a, .int .i64 b] w fun e w' => e = .returned (.tuple #[.bool false, .int .i64 0]) ∧ Below w.heap.size w w')
    (h2 : ∀ w, Calls Tryz.prog 25 #[.int .i64 4, .int .i64 14, .int .i64 a, .int .i64 b] w fun e w' => e = .returned (.tuple #[.bool false, .int .i64 0]) ∧ Below w.heap.size w w')
    (h3 : ∀ w, Calls Tryz.prog 25 #[.int .i64 4, .int .i64 13, .int .i64 a, .int .i64 b] w fun e w' => e = .returned (.tuple #[.bool false, .int .i64 0]) ∧ Below w.heap.size w w')
    (h4 : ∀ w, Calls Tryz.prog 25 #[.int .i64 4, .int .i64 15, .int .i64 a, .int .i64 b] w fun e w' => e = .returned (.tuple #[.bool false, .int .i64 0]) ∧ Below w.heap.size w w')
    (h5 : ∀ w, Calls Tryz.prog 25 #[.int .i64 4, .int .i64 11, .int .i64 a, .int .i64 b] w fun e w' => e = .returned (.tuple #[.bool true, .int .i64 0]) ∧ Below w.heap.size w w')
    (h6 : ∀ w, Calls Tryz.prog 25 #[.int .i64 4, .int .i64 12, .int .i64 b, .int .i64 a] w fun e w' => e = .returned (.tuple #[.bool false, .int .i64 0]) ∧ Below w.heap.size w w')
    (ra : (wrR a == 9221120237041090561) = false)
    (rb : (wrR b == 9221120237041090561) = true)
    (w : World) (ht : TabN w) :
    Calls Tryz.prog 11 #[.int .i64 4, .int .i64 a, .int .i64 b] w fun e w' => e = .returned (.bool true) ∧ Below w.heap.size w w' := by
  have HT := Lib.hid ht
  have H0 := Lib.hid h0
  have H1 := Lib.hid h1
  have H2 := Lib.hid h2
  have H3 := Lib.hid h3
  have H4 := Lib.hid h4
  have H5 := Lib.hid h5
  have H6 := Lib.hid h6
  clear ht h0 h1 h2 h3 h4 h5 h6
  go_enter Tryz.func11, Tryz.ntmps11
  go_wp2_with fail
  refine (H0.out _).mono ?_
  rintro e w1 ⟨rfl, hb⟩
  have HB1 := Lib.hid ((Below.refl w.heap.size w).trans (hb.mono (Below.refl w.heap.size w).size))
  clear hb
  go_wp2_with fail
  refine (H1.out _).mono ?_
  rintro e w2 ⟨rfl, hb⟩
  have HB2 := Lib.hid (HB1.out.trans (hb.mono HB1.out.size))
  clear hb
  go_wp2_with fail
  refine (H2.out _).mono ?_
  rintro e w3 ⟨rfl, hb⟩
  have HB3 := Lib.hid (HB2.out.trans (hb.mono HB2.out.size))
  clear hb
  go_wp2_with fail
  refine (H3.out _).mono ?_
  rintro e w4 ⟨rfl, hb⟩
  have HB4 := Lib.hid (HB3.out.trans (hb.mono HB3.out.size))
  clear hb
  go_wp2_with fail
  refine (H4.out _).mono ?_
  rintro e w5 ⟨rfl, hb⟩
  have HB5 := Lib.hid (HB4.out.trans (hb.mono HB4.out.size))
  clear hb
  go_wp2_with fail
  refine (H5.out _).mono ?_
  rintro e w6 ⟨rfl, hb⟩
  have HB6 := Lib.hid (HB5.out.trans (hb.mono HB5.out.size))
  clear hb
  go_wp2_with fail
  refine (H6.out _).mono ?_
  rintro e w7 ⟨rfl, hb⟩
  have HB7 := Lib.hid (HB6.out.trans (hb.mono HB6.out.size))
  clear hb
  go_wp2_with fail
  refine (Wrap4 a _).mono ?_
  rintro e w8 ⟨rfl, hb⟩
  have HB8 := Lib.hid (HB7.out.trans (hb.mono HB7.out.size))
  clear hb
  go_wp2_with fail
  refine (Wrap4 b _).mono ?_
  rintro e w9 ⟨rfl, hb⟩
  have HB9 := Lib.hid (HB8.out.trans (hb.mono HB8.out.size))
  clear hb
  go_wp2_with fail
  refine (awake_any _ (HT.out.below HB9.out)).mono ?_
  rintro e w10 ⟨rfl, hb⟩
  have HB10 := Lib.hid (HB9.out.trans (hb.mono HB9.out.size))
  clear hb
  go_wp2_with fail
  go_ret
  exact ⟨rfl, HB10.out⟩

set_option maxRecDepth 100000 in
theorem none_walk (k a b : Int) (hk : kindB k = false) (w : World) (ht : TabN w) :
    Calls Tryz.prog 11 #[.int .i64 k, .int .i64 a, .int .i64 b] w fun e w' => e = .returned (.bool true) ∧ Below w.heap.size w w' := by
  have HT := Lib.hid ht
  have HC := Lib.hid (fun w => Compare_no k 12 a b hk w)
  have k1 : (k != 1) = true := by simp [kindB] at hk ⊢; omega
  have k2 : (k != 2) = true := by simp [kindB] at hk ⊢; omega
  have k3 : (k != 3) = true := by simp [kindB] at hk ⊢; omega
  have k4 : (k != 4) = true := by simp [kindB] at hk ⊢; omega
  clear ht hk
  go_enter Tryz.func11, Tryz.ntmps11
  go_wp2_with fail
  refine (HC.out _).mono ?_
  rintro e w1 ⟨rfl, hb⟩
  have HB1 := Lib.hid hb
  clear hb
  go_wp2_with fail
  refine (awake_any _ (HT.out.below HB1.out)).mono ?_
  rintro e w2 ⟨rfl, hb⟩
  have HB2 := Lib.hid (HB1.out.trans (hb.mono HB1.out.size))
  clear hb
  go_wp2_with fail
  go_ret
  exact ⟨rfl, HB2.out⟩

theorem walk_k1 (a b : Int) (w : World) (ht : TabN w) :
    Calls Tryz.prog 11 #[.int .i64 1, .int .i64 a, .int .i64 b] w fun e w' => e = .returned (.bool true) ∧ Below w.heap.size w w' := by
  rcases Int.lt_trichotomy (a % 256) (b % 256) with h | h | h
  · exact int_lt 1 (by decide) a b (fun w => by have h' := cm1_12 a b w; rw [show cmpI 12 (a % 256) (b % 256) = true from by simp [cmpI]; omega] at h'; exact h') (fun w => by have h' := cm1_10 a b w; rw [show cmpI 10 (a % 256) (b % 256) = false from by simp [cmpI]; omega] at h'; exact h') (fun w => by have h' := cm1_14 a b w; rw [show cmpI 14 (a % 256) (b % 256) = false from by simp [cmpI]; omega] at h'; exact h') (fun w => by have h' := cm1_13 a b w; rw [show cmpI 13 (a % 256) (b % 256) = true from by simp [cmpI]; omega] at h'; exact h') (fun w => by have h' := cm1_15 a b w; rw [show cmpI 15 (a % 256) (b % 256) = false from by simp [cmpI]; omega] at h'; exact h') (fun w => by have h' := cm1_11 a b w; rw [show cmpI 11 (a % 256) (b % 256) = true from by simp [cmpI]; omega] at h'; exact h') (fun w => by have h' := cm1_12 b a w; rw [show cmpI 12 (b % 256) (a % 256) = false from by simp [cmpI]; omega] at h'; exact h') w ht
  · exact int_eq 1 (by decide) a b (fun w => by have h' := cm1_12 a b w; rw [show cmpI 12 (a % 256) (b % 256) = false from by simp [cmpI]; omega] at h'; exact h') (fun w => by have h' := cm1_10 a b w; rw [show cmpI 10 (a % 256) (b % 256) = true from by simp [cmpI]; omega] at h'; exact h') (fun w => by have h' := cm1_14 a b w; rw [show cmpI 14 (a % 256) (b % 256) = false from by simp [cmpI]; omega] at h'; exact h') (fun w => by have h' := cm1_13 a b w; rw [show cmpI 13 (a % 256) (b % 256) = true from by simp [cmpI]; omega] at h'; exact h') (fun w => by have h' := cm1_15 a b w; rw [show cmpI 15 (a % 256) (b % 256) = true from by simp [cmpI]; omega] at h'; exact h') (fun w => by have h' := cm1_11 a b w; rw [show cmpI 11 (a % 256) (b % 256) = false from by simp [cmpI]; omega] at h'; exact h') (fun w => by have h' := cm1_12 b a w; rw [show cmpI 12 (b % 256) (a % 256) = false from by simp [cmpI]; omega] at h'; exact h') w ht
  · exact int_gt 1 (by decide) a b (fun w => by have h' := cm1_12 a b w; rw [show cmpI 12 (a % 256) (b % 256) = false from by simp [cmpI]; omega] at h'; exact h') (fun w => by have h' := cm1_10 a b w; rw [show cmpI 10 (a % 256) (b % 256) = false from by simp [cmpI]; omega] at h'; exact h') (fun w => by have h' := cm1_14 a b w; rw [show cmpI 14 (a % 256) (b % 256) = true from by simp [cmpI]; omega] at h'; exact h') (fun w => by have h' := cm1_13 a b w; rw [show cmpI 13 (a % 256) (b % 256) = false from by simp [cmpI]; omega] at h'; exact h') (fun w => by have h' := cm1_15 a b w; rw [show cmpI 15 (a % 256) (b % 256) = true from by simp [cmpI]; omega] at h'; exact h') (fun w => by have h' := cm1_11 a b w; rw [show cmpI 11 (a % 256) (b % 256) = true from by simp [cmpI]; omega] at h'; exact h') (fun w => by have h' := cm1_12 b a w; rw [show cmpI 12 (b % 256) (a % 256) = true from by simp [cmpI]; omega] at h'; exact h') w ht

theorem walk_k2 (a b : Int) (w : World) (ht : TabN w) :
    Calls Tryz.prog 11 #[.int .i64 2, .int .i64 a, .int .i64 b] w fun e w' => e = .returned (.bool true) ∧ Below w.heap.size w w' := by
  rcases Int.lt_trichotomy (wrap32 a) (wrap32 b) with h | h | h
  · exact int_lt 2 (by decide) a b (fun w => by have h' := cm2_12 a b w; rw [show cmpI 12 (wrap32 a) (wrap32 b) = true from by simp [cmpI]; omega] at h'; exact h') (fun w => by have h' := cm2_10 a b w; rw [show cmpI 10 (wrap32 a) (wrap32 b) = false from by simp [cmpI]; omega] at h'; exact h') (fun w => by have h' := cm2_14 a b w; rw [show cmpI 14 (wrap32 a) (wrap32 b) = false from by simp [cmpI]; omega] at h'; exact h') (fun w => by have h' := cm2_13 a b w; rw [show cmpI 13 (wrap32 a) (wrap32 b) = true from by simp [cmpI]; omega] at h'; exact h') (fun w => by have h' := cm2_15 a b w; rw [show cmpI 15 (wrap32 a) (wrap32 b) = false from by simp [cmpI]; omega] at h'; exact h') (fun w => by have h' := cm2_11 a b w; rw [show cmpI 11 (wrap32 a) (wrap32 b) = true from by simp [cmpI]; omega] at h'; exact h') (fun w => by have h' := cm2_12 b a w; rw [show cmpI 12 (wrap32 b) (wrap32 a) = false from by simp [cmpI]; omega] at h'; exact h') w ht
  · exact int_eq 2 (by decide) a b (fun w => by have h' := cm2_12 a b w; rw [show cmpI 12 (wrap32 a) (wrap32 b) = false from by simp [cmpI]; omega] at h'; exact h') (fun w => by have h' := cm2_10 a b w; rw [show cmpI 10 (wrap32 a) (wrap32 b) = true from by simp [cmpI]; omega] at h'; exact h') (fun w => by have h' := cm2_14 a b w; rw [show cmpI 14 (wrap32 a) (wrap32 b) = false from by simp [cmpI]; omega] at h'; exact h') (fun w => by have h' := cm2_13 a b w; rw [show cmpI 13 (wrap32 a) (wrap32 b) = true from by simp [cmpI]; omega] at h'; exact h') (fun w => by have h' := cm2_15 a b w; rw [show cmpI 15 (wrap32 a) (wrap32 b) = true from by simp [cmpI]; omega] at h'; exact h') (fun w => by have h' := cm2_11 a b w; rw [show cmpI 11 (wrap32 a) (wrap32 b) = false from by simp [cmpI]; omega] at h'; exact h') (fun w => by have h' := cm2_12 b a w; rw [show cmpI 12 (wrap32 b) (wrap32 a) = false from by simp [cmpI]; omega] at h'; exact h') w ht
  · exact int_gt 2 (by decide) a b (fun w => by have h' := cm2_12 a b w; rw [show cmpI 12 (wrap32 a) (wrap32 b) = false from by simp [cmpI]; omega] at h'; exact h') (fun w => by have h' := cm2_10 a b w; rw [show cmpI 10 (wrap32 a) (wrap32 b) = false from by simp [cmpI]; omega] at h'; exact h') (fun w => by have h' := cm2_14 a b w; rw [show cmpI 14 (wrap32 a) (wrap32 b) = true from by simp [cmpI]; omega] at h'; exact h') (fun w => by have h' := cm2_13 a b w; rw [show cmpI 13 (wrap32 a) (wrap32 b) = false from by simp [cmpI]; omega] at h'; exact h') (fun w => by have h' := cm2_15 a b w; rw [show cmpI 15 (wrap32 a) (wrap32 b) = true from by simp [cmpI]; omega] at h'; exact h') (fun w => by have h' := cm2_11 a b w; rw [show cmpI 11 (wrap32 a) (wrap32 b) = true from by simp [cmpI]; omega] at h'; exact h') (fun w => by have h' := cm2_12 b a w; rw [show cmpI 12 (wrap32 b) (wrap32 a) = true from by simp [cmpI]; omega] at h'; exact h') w ht

theorem walk_k3 (a b : Int) (w : World) (ht : TabN w) :
    Calls Tryz.prog 11 #[.int .i64 3, .int .i64 a, .int .i64 b] w fun e w' => e = .returned (.bool true) ∧ Below w.heap.size w w' := by
  rcases Int.lt_trichotomy a b with h | h | h
  · exact int_lt 3 (by decide) a b (fun w => by have h' := cm3_12 a b w; rw [show cmpI 12 a b = true from by simp [cmpI]; omega] at h'; exact h') (fun w => by have h' := cm3_10 a b w; rw [show cmpI 10 a b = false from by simp [cmpI]; omega] at h'; exact h') (fun w => by have h' := cm3_14 a b w; rw [show cmpI 14 a b = false from by simp [cmpI]; omega] at h'; exact h') (fun w => by have h' := cm3_13 a b w; rw [show cmpI 13 a b = true from by simp [cmpI]; omega] at h'; exact h') (fun w => by have h' := cm3_15 a b w; rw [show cmpI 15 a b = false from by simp [cmpI]; omega] at h'; exact h') (fun w => by have h' := cm3_11 a b w; rw [show cmpI 11 a b = true from by simp [cmpI]; omega] at h'; exact h') (fun w => by have h' := cm3_12 b a w; rw [show cmpI 12 b a = false from by simp [cmpI]; omega] at h'; exact h') w ht
  · exact int_eq 3 (by decide) a b (fun w => by have h' := cm3_12 a b w; rw [show cmpI 12 a b = false from by simp [cmpI]; omega] at h'; exact h') (fun w => by have h' := cm3_10 a b w; rw [show cmpI 10 a b = true from by simp [cmpI]; omega] at h'; exact h') (fun w => by have h' := cm3_14 a b w; rw [show cmpI 14 a b = false from by simp [cmpI]; omega] at h'; exact h') (fun w => by have h' := cm3_13 a b w; rw [show cmpI 13 a b = true from by simp [cmpI]; omega] at h'; exact h') (fun w => by have h' := cm3_15 a b w; rw [show cmpI 15 a b = true from by simp [cmpI]; omega] at h'; exact h') (fun w => by have h' := cm3_11 a b w; rw [show cmpI 11 a b = false from by simp [cmpI]; omega] at h'; exact h') (fun w => by have h' := cm3_12 b a w; rw [show cmpI 12 b a = false from by simp [cmpI]; omega] at h'; exact h') w ht
  · exact int_gt 3 (by decide) a b (fun w => by have h' := cm3_12 a b w; rw [show cmpI 12 a b = false from by simp [cmpI]; omega] at h'; exact h') (fun w => by have h' := cm3_10 a b w; rw [show cmpI 10 a b = false from by simp [cmpI]; omega] at h'; exact h') (fun w => by have h' := cm3_14 a b w; rw [show cmpI 14 a b = true from by simp [cmpI]; omega] at h'; exact h') (fun w => by have h' := cm3_13 a b w; rw [show cmpI 13 a b = false from by simp [cmpI]; omega] at h'; exact h') (fun w => by have h' := cm3_15 a b w; rw [show cmpI 15 a b = true from by simp [cmpI]; omega] at h'; exact h') (fun w => by have h' := cm3_11 a b w; rw [show cmpI 11 a b = true from by simp [cmpI]; omega] at h'; exact h') (fun w => by have h' := cm3_12 b a w; rw [show cmpI 12 b a = true from by simp [cmpI]; omega] at h'; exact h') w ht

theorem walk_k4 (a b : Int) (a0 : -9223372036854775808 ≤ a) (a1 : a ≤ 9223372036854775807) (b0 : -9223372036854775808 ≤ b) (b1 : b ≤ 9223372036854775807) (w : World) (ht : TabN w) :
    Calls Tryz.prog 11 #[.int .i64 4, .int .i64 a, .int .i64 b] w fun e w' => e = .returned (.bool true) ∧ Below w.heap.size w w' := by
  have na := wrR_nan a a0 a1
  have nb := wrR_nan b b0 b1
  have hn := ordN_none (bitsN (wrR a)) (bitsN (wrR b))
  have hs := ordN_swap (bitsN (wrR a)) (bitsN (wrR b))
  cases ho : ordN (bitsN (wrR a)) (bitsN (wrR b)) with
  | none =>
    by_cases hA : wrR a = 9221120237041090561
    · exact real_nanA a b (fun w => by have h' := cm4_12 a b w; rw [show cmpR 12 (bitsN (wrR a)) (bitsN (wrR b)) = false from by unfold cmpR; rw [ho]; rfl] at h'; exact h') (fun w => by have h' := cm4_10 a b w; rw [show cmpR 10 (bitsN (wrR a)) (bitsN (wrR b)) = false from by unfold cmpR; rw [ho]; rfl] at h'; exact h') (fun w => by have h' := cm4_14 a b w; rw [show cmpR 14 (bitsN (wrR a)) (bitsN (wrR b)) = false from by unfold cmpR; rw [ho]; rfl] at h'; exact h') (fun w => by have h' := cm4_13 a b w; rw [show cmpR 13 (bitsN (wrR a)) (bitsN (wrR b)) = false from by unfold cmpR; rw [ho]; rfl] at h'; exact h') (fun w => by have h' := cm4_15 a b w; rw [show cmpR 15 (bitsN (wrR a)) (bitsN (wrR b)) = false from by unfold cmpR; rw [ho]; rfl] at h'; exact h') (fun w => by have h' := cm4_11 a b w; rw [show cmpR 11 (bitsN (wrR a)) (bitsN (wrR b)) = true from by unfold cmpR; rw [ho]; rfl] at h'; exact h') (fun w => by have h' := cm4_12 b a w; rw [show cmpR 12 (bitsN (wrR b)) (bitsN (wrR a)) = false from by unfold cmpR; rw [hs, ho]; rfl] at h'; exact h') (by simpa using hA) w ht
    · have hB : wrR b = 9221120237041090561 := by
        rw [ho] at hn
        rcases hn.1 rfl with h | h
        · rw [na] at h; exact absurd (by simpa using h) hA
        · rw [nb] at h; simpa using h
      exact real_nanB a b (fun w => by have h' := cm4_12 a b w; rw [show cmpR 12 (bitsN (wrR a)) (bitsN (wrR b)) = false from by unfold cmpR; rw [ho]; rfl] at h'; exact h') (fun w => by have h' := cm4_10 a b w; rw [show cmpR 10 (bitsN (wrR a)) (bitsN (wrR b)) = false from by unfold cmpR; rw [ho]; rfl] at h'; exact h') (fun w => by have h' := cm4_14 a b w; rw [show cmpR 14 (bitsN (wrR a)) (bitsN (wrR b)) = false from by unfold cmpR; rw [ho]; rfl] at h'; exact h') (fun w => by have h' := cm4_13 a b w; rw [show cmpR 13 (bitsN (wrR a)) (bitsN (wrR b)) = false from by unfold cmpR; rw [ho]; rfl] at h'; exact h') (fun w => by have h' := cm4_15 a b w; rw [show cmpR 15 (bitsN (wrR a)) (bitsN (wrR b)) = false from by unfold cmpR; rw [ho]; rfl] at h'; exact h') (fun w => by have h' := cm4_11 a b w; rw [show cmpR 11 (bitsN (wrR a)) (bitsN (wrR b)) = true from by unfold cmpR; rw [ho]; rfl] at h'; exact h') (fun w => by have h' := cm4_12 b a w; rw [show cmpR 12 (bitsN (wrR b)) (bitsN (wrR a)) = false from by unfold cmpR; rw [hs, ho]; rfl] at h'; exact h') (by simpa using hA) (by simpa using hB) w ht
  | some r =>
    have hA : (wrR a == 9221120237041090561) = false := by
      rw [beq_eq_false_iff_ne]; intro h; rw [h] at na
      have := hn.2 (.inl (by rw [h]; exact na.trans (by decide)))
      rw [ho] at this; cases this
    have hB : (wrR b == 9221120237041090561) = false := by
      rw [beq_eq_false_iff_ne]; intro h; rw [h] at nb
      have := hn.2 (.inr (by rw [h]; exact nb.trans (by decide)))
      rw [ho] at this; cases this
    cases r with
    | lt => exact real_lt a b (fun w => by have h' := cm4_12 a b w; rw [show cmpR 12 (bitsN (wrR a)) (bitsN (wrR b)) = true from by unfold cmpR; rw [ho]; rfl] at h'; exact h') (fun w => by have h' := cm4_10 a b w; rw [show cmpR 10 (bitsN (wrR a)) (bitsN (wrR b)) = false from by unfold cmpR; rw [ho]; rfl] at h'; exact h') (fun w => by have h' := cm4_14 a b w; rw [show cmpR 14 (bitsN (wrR a)) (bitsN (wrR b)) = false from by unfold cmpR; rw [ho]; rfl] at h'; exact h') (fun w => by have h' := cm4_13 a b w; rw [show cmpR 13 (bitsN (wrR a)) (bitsN (wrR b)) = true from by unfold cmpR; rw [ho]; rfl] at h'; exact h') (fun w => by have h' := cm4_15 a b w; rw [show cmpR 15 (bitsN (wrR a)) (bitsN (wrR b)) = false from by unfold cmpR; rw [ho]; rfl] at h'; exact h') (fun w => by have h' := cm4_11 a b w; rw [show cmpR 11 (bitsN (wrR a)) (bitsN (wrR b)) = true from by unfold cmpR; rw [ho]; rfl] at h'; exact h') (fun w => by have h' := cm4_12 b a w; rw [show cmpR 12 (bitsN (wrR b)) (bitsN (wrR a)) = false from by unfold cmpR; rw [hs, ho]; rfl] at h'; exact h') hA hB w ht
    | eq => exact real_eq a b (fun w => by have h' := cm4_12 a b w; rw [show cmpR 12 (bitsN (wrR a)) (bitsN (wrR b)) = false from by unfold cmpR; rw [ho]; rfl] at h'; exact h') (fun w => by have h' := cm4_10 a b w; rw [show cmpR 10 (bitsN (wrR a)) (bitsN (wrR b)) = true from by unfold cmpR; rw [ho]; rfl] at h'; exact h') (fun w => by have h' := cm4_14 a b w; rw [show cmpR 14 (bitsN (wrR a)) (bitsN (wrR b)) = false from by unfold cmpR; rw [ho]; rfl] at h'; exact h') (fun w => by have h' := cm4_13 a b w; rw [show cmpR 13 (bitsN (wrR a)) (bitsN (wrR b)) = true from by unfold cmpR; rw [ho]; rfl] at h'; exact h') (fun w => by have h' := cm4_15 a b w; rw [show cmpR 15 (bitsN (wrR a)) (bitsN (wrR b)) = true from by unfold cmpR; rw [ho]; rfl] at h'; exact h') (fun w => by have h' := cm4_11 a b w; rw [show cmpR 11 (bitsN (wrR a)) (bitsN (wrR b)) = false from by unfold cmpR; rw [ho]; rfl] at h'; exact h') (fun w => by have h' := cm4_12 b a w; rw [show cmpR 12 (bitsN (wrR b)) (bitsN (wrR a)) = false from by unfold cmpR; rw [hs, ho]; rfl] at h'; exact h') hA hB w ht
    | gt => exact real_gt a b (fun w => by have h' := cm4_12 a b w; rw [show cmpR 12 (bitsN (wrR a)) (bitsN (wrR b)) = false from by unfold cmpR; rw [ho]; rfl] at h'; exact h') (fun w => by have h' := cm4_10 a b w; rw [show cmpR 10 (bitsN (wrR a)) (bitsN (wrR b)) = false from by unfold cmpR; rw [ho]; rfl] at h'; exact h') (fun w => by have h' := cm4_14 a b w; rw [show cmpR 14 (bitsN (wrR a)) (bitsN (wrR b)) = true from by unfold cmpR; rw [ho]; rfl] at h'; exact h') (fun w => by have h' := cm4_13 a b w; rw [show cmpR 13 (bitsN (wrR a)) (bitsN (wrR b)) = false from by unfold cmpR; rw [ho]; rfl] at h'; exact h') (fun w => by have h' := cm4_15 a b w; rw [show cmpR 15 (bitsN (wrR a)) (bitsN (wrR b)) = true from by unfold cmpR; rw [ho]; rfl] at h'; exact h') (fun w => by have h' := cm4_11 a b w; rw [show cmpR 11 (bitsN (wrR a)) (bitsN (wrR b)) = true from by unfold cmpR; rw [ho]; rfl] at h'; exact h') (fun w => by have h' := cm4_12 b a w; rw [show cmpR 12 (bitsN (wrR b)) (bitsN (wrR a)) = true from by unfold cmpR; rw [hs, ho]; rfl] at h'; exact h') hA hB w ht

theorem i64_of {n : Int} (h : (Lit.int .i64 n).wf = true) : -9223372036854775808 ≤ n ∧ n ≤ 9223372036854775807 := by
  simp [Lit.wf, IntKind.min, IntKind.max, IntKind.signed, IntKind.bits] at h; omega
theorem walk (k : Int) (wk : (Lit.int .i64 k).wf = true) (a : Int) (wa : (Lit.int .i64 a).wf = true) (b : Int) (wb : (Lit.int .i64 b).wf = true) (w : World) (ht : TabN w) :
    Calls Tryz.prog 11 #[.int .i64 k, .int .i64 a, .int .i64 b] w fun e w' => e = .returned (.bool true) ∧ Below w.heap.size w w' := by
  obtain ⟨a0, a1⟩ := i64_of wa
  obtain ⟨b0, b1⟩ := i64_of wb
  rcases Bool.eq_false_or_eq_true (kindB k) with hk | hk
  · have hk' := hk
    simp only [kindB, decide_eq_true_eq] at hk'
    rcases (by omega : k = 1 ∨ k = 2 ∨ k = 3 ∨ k = 4) with rfl | rfl | rfl | rfl
    · exact walk_k1 a b w ht
    · exact walk_k2 a b w ht
    · exact walk_k3 a b w ht
    · exact walk_k4 a b a0 a1 b0 b1 w ht
  · exact none_walk k a b hk w ht

set_option maxRecDepth 100000 in
theorem lifted (os : Os) (started : os.Started) (H : Type) (enc : TypeId × Value → H) :
    ReturnsInHanded {} Tryz.checked os 11 .any (fun w args => (Rows.numberOrdersSpec.pre enc Tryz.prog Tryz.f11 [] false w args ∧ laidMetH Tryz.prog laidN w) ∧ sizedMet enc Tryz.prog Tryz.f11 (OpenSpec.ofChange Rows.numberOrdersSpec) false w args)
      (Rows.numberOrdersSpec.post enc Tryz.prog Tryz.f11 false true false false) := by
  refine returnsInHanded_and_shaped (C := Tryz.checked) (X := fun w _ => laidMetH Tryz.prog laidN w) (fun _ _ _ hh h => h.of_heap hh) own started (by kernel_rfl) Tryz.func11
    (ChangeSpec.witness_shaped (enc := enc) (C := Tryz.checked) (os := os) (X := fun w _ => laidMetH Tryz.prog laidN w) false (World.laidAll Tryz.prog os laidN) #[.int .i64 0, .int .i64 0, .int .i64 0] 8 (World.laidAll_os _ _ _) (shaped_all os _) (by kernel_rfl) (by kernel_rfl) (by kernel_rfl) (met_all os _)) ?_
  intro W base args ds gs before hval0 hW hL hSh
  have hval : ∀ (j : Nat) t v, Tryz.f11.params[j]? = some t → args[j]? = some v → Value.okWide Tryz.prog W .any base t v := hval0
  have hW' := hW
  obtain ⟨p, q, hA0, hV, rfl, hfz, hnd⟩ := hW
  have hA : DataW.TrodAll enc Tryz.prog W 0 (fun _ => true) true Tryz.f11.params.toList args.toList ds p := hA0
  rw [Tryz.params11] at hA hval
  obtain ⟨v0, vs0, d0, ds0, p0, q0, hargs, rfl, rfl, h0, r0⟩ := trodAll_cons hA
  obtain ⟨v1, vs1, d1, ds1, p1, q1, rfl, rfl, rfl, h1, r1⟩ := trodAll_cons r0
  obtain ⟨v2, vs2, d2, ds2, p2, q2, rfl, rfl, rfl, h2, r2⟩ := trodAll_cons r1
  obtain ⟨rfl, rfl, rfl⟩ := trodAll_nil r2
  obtain rfl : args = #[v0, v1, v2] := by cases args; simp_all
  obtain ⟨rfl, rfl⟩ := trodVars_none hV
  obtain ⟨a0, rfl, rfl, rfl, w0⟩ := open_int Tryz.underlying3 (hval 0 3 v0 rfl rfl) h0
  obtain ⟨a1, rfl, rfl, rfl, w1⟩ := open_int Tryz.underlying2 (hval 1 2 v1 rfl rfl) h1
  obtain ⟨a2, rfl, rfl, rfl, w2⟩ := open_int Tryz.underlying2 (hval 2 2 v2 rfl rfl) h2
  clear hA0 hval0
  have ht := of_laid hSh hL
  refine (walk a0 w0 a1 w1 a2 w2 W ht).mono fun e W' ⟨he, bel⟩ => ?_
  subst he
  exact ⟨_, rfl, _, _, _, [], _, [], hW', trodAll_mk1 (shut_bool Tryz.underlying4 _), (trodAll_cons_mk (shut_int Tryz.underlying3 w0) (trodAll_cons_mk (shut_int Tryz.underlying2 w1) (trodAll_cons_mk (shut_int Tryz.underlying2 w2) trodAll_mk0))), rfl, bel.frame _, fun h => by cases h⟩

set_option maxHeartbeats 16000000 in
set_option maxRecDepth 100000 in
theorem joined : joinedFacts Tryz.prog 11 Tryz.f11 Rows.numberOrdersSpec Rows.numberOrdersRow = true := by
  unfold joinedFacts
  simp only [Bool.and_eq_true]
  repeat' apply And.intro
  all_goals as_aux_lemma => kernel_rfl
theorem over : Rows.numberOrdersRow.holds Tryz.pinned (OpenSpec.ofChange Rows.numberOrdersSpec) :=
  OpenClaim.holds_of_wide 11 Tryz.f11 rfl rfl rfl rfl rfl rfl rfl ⟨rfl, rfl, rfl, rfl, rfl⟩ rfl rfl rfl rfl rfl (by kernel_rfl) Tryz.func11 joined
    (of_decide_eq_true (by kernel_rfl)) (by unfold Func.isWrapper; first | (rw [if_pos (by decide +kernel)]; kernel_rfl) | (rw [if_neg (by decide +kernel)]; exact ⟨rfl, rfl⟩))
    (fun os started H enc _ => lifted os started H enc)

theorem card_holds : Rows.NumberOrdersCardSaid :=
  Claim7.holds_tied_plain_at .later [] [.data, .data, .widerDeep, .widerDeep, .data, .data, .data, .data, .data, .data, .sentinel, .sentinel, .pinned, .pinned, .pinned] true (true, "64b06c7202077d118462950218fe2974fddba9497f2cf52520b628f8eed59e5b") true
    over (fun _ h => by cases h) (by kernel_rfl) (fun _ h => by cases h) numberOrders_row_tie rfl ⟨rfl, rfl⟩ (by kernel_rfl) rfl
    (fun f fn hf hfn => by
      obtain rfl : f = 11 := Option.some.inj ((show Tryz.prog.funcNamed "acheron/acheronlaw04.NumberOrders" = some 11 by kernel_rfl).symm.trans hf) |>.symm
      obtain rfl : fn = Tryz.f11 := (Option.some.inj (Tryz.func11.symm.trans hfn)).symm
      exact ⟨by kernel_rfl, fun j t ht => by
        rw [Tryz.params11] at ht
        have hm : t ∈ [3, 2] := by have := Array.mem_of_getElem? ht; simp at this ⊢; omega
        have hall : ([3, 2].all fun u => !Tryz.prog.wantsStandIn u) = true := by kernel_rfl
        exact (show Tryz.prog.wantsStandIn t = false by simpa using List.all_eq_true.1 hall t hm)⟩)
    (by kernel_rfl)
end Go.Proofs.YthbmdlihfocbmaaGreatDoor.numberOrders

