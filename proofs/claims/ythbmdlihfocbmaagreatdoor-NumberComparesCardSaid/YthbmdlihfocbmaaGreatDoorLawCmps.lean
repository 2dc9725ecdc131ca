/-
  For all calculations the law NumberCompares returns true. No condition.
-/
import Derived.Test.YthbmdlihfocbmaaGreatDoorRows
import Derived.Test.YthbmdlihfocbmaaGreatDoorAwakeN
import Derived.Test.YthbmdlihfocbmaaGreatDoorWrapA
import Derived.Test.YthbmdlihfocbmaaGreatDoorRef1
import Derived.Lib.SmallJoins
import Derived.Test.YthbmdlihfocbmaaGreatDoorRefCmp
import Derived.Test.YthbmdlihfocbmaaGreatDoorCm1
import Derived.Test.YthbmdlihfocbmaaGreatDoorCm2
import Derived.Test.YthbmdlihfocbmaaGreatDoorCm3
import Derived.Test.YthbmdlihfocbmaaGreatDoorCm4
import Derived.Test.YthbmdlihfocbmaaGreatDoorLaidN
import Derived.WalkKit
import Derived.ProofKit
import Derived.OpenShut
import Derived.ShutString
import Derived.ChangeOld
import Derived.Carry
import Derived.SevenTiedAt
import Derived.Test.YthbmdlihfocbmaaGreatDoorCards
import Derived.Test.YthbmdlihfocbmaaGreatDoorTie
set_option linter.unusedVariables false
namespace Go.Proofs.YthbmdlihfocbmaaGreatDoor.numberCompares
open Go.ChangeShapes Go.WideShapes Go.ChangeAt Go.RowKit

theorem own : ownKnob Tryz.prog.godebug = none := by kernel_rfl

theorem laidOut : laidOutB Tryz.prog = true := by kernel_rfl
set_option maxRecDepth 100000 in
theorem none_walk (k op a b : Int) (hk : kindB k = false) (w : World) (ht : TabN w) :
    Calls Tryz.prog 5 #[.agg #[.int .i64 k, .int .i64 op, .int .i64 a, .int .i64 b]] w fun e w' => e = .returned (.bool true) ∧ Below w.heap.size w w' := by
  have HT := Lib.hid ht
  have HC := Lib.hid (fun w => Compare_no k op a b hk w)
  have HK := Lib.hid (fun w => refKind_no k hk w)
  clear ht hk
  have HH := Lib.hid (heap_top w (.cells #[.int .i64 k, .int .i64 op, .int .i64 a, .int .i64 b] 32))
  have HA := Lib.hid (((Below.refl w.heap.size w).alloc (Nat.le_refl _) (.cells #[.int .i64 k, .int .i64 op, .int .i64 a, .int .i64 b] 32)))
  go_enter Tryz.func5, Tryz.ntmps5
  go_wp2_with fail
  refine (HC.out _).mono ?_
  rintro e w1 ⟨rfl, hb⟩
  have HB1 := Lib.hid (HA.out.trans (hb.mono HA.out.size))
  have HP0 := Lib.hid (cell_keep hb ((cell_of_row _ _ 0 _ _ _ HH.out).trans (rfl : _ = some (Value.int .i64 k))))
  have HP1 := Lib.hid (cell_keep hb ((cell_of_row _ _ 1 _ _ _ HH.out).trans (rfl : _ = some (Value.int .i64 op))))
  have HP2 := Lib.hid (cell_keep hb ((cell_of_row _ _ 2 _ _ _ HH.out).trans (rfl : _ = some (Value.int .i64 a))))
  have HP3 := Lib.hid (cell_keep hb ((cell_of_row _ _ 3 _ _ _ HH.out).trans (rfl : _ = some (Value.int .i64 b))))
  clear hb
  go_wp2_with fail
  refine (awake_any _ (HT.out.below HB1.out)).mono ?_
  rintro e w2 ⟨rfl, hb⟩
  have HB2 := Lib.hid (HB1.out.trans (hb.mono HB1.out.size))
  have hq0 := cell_keep hb HP0.out
  have hq1 := cell_keep hb HP1.out
  have hq2 := cell_keep hb HP2.out
  have hq3 := cell_keep hb HP3.out
  clear hb
  go_wp2_with fail
  refine (HK.out _).mono ?_
  rintro e w3 ⟨rfl, rfl⟩
  go_wp2_with fail
  go_ret
  exact ⟨rfl, HB2.out⟩
set_option maxRecDepth 100000 in
theorem bad_walk (k op a b : Int) (hop : op < 10 ∨ 15 < op)
    (hC : ∀ w, Calls Tryz.prog 25 #[.int .i64 k, .int .i64 op, .int .i64 a, .int .i64 b] w fun e w' => e = .returned (.tuple #[.bool false, .int .i64 2]) ∧ Below w.heap.size w w')
    (hk : kindB k = true) (w : World) (ht : TabN w) :
    Calls Tryz.prog 5 #[.agg #[.int .i64 k, .int .i64 op, .int .i64 a, .int .i64 b]] w fun e w' => e = .returned (.bool true) ∧ Below w.heap.size w w' := by
  have HT := Lib.hid ht
  have HC := Lib.hid hC
  have HK := Lib.hid (fun w => refKind_yes k hk w)
  have HF := Lib.hid (fun w => refFitsCmp_no op hop w)
  clear ht hk hC hop
  have HH := Lib.hid (heap_top w (.cells #[.int .i64 k, .int .i64 op, .int .i64 a, .int .i64 b] 32))
  have HA := Lib.hid (((Below.refl w.heap.size w).alloc (Nat.le_refl _) (.cells #[.int .i64 k, .int .i64 op, .int .i64 a, .int .i64 b] 32)))
  go_enter Tryz.func5, Tryz.ntmps5
  go_wp2_with fail
  refine (HC.out _).mono ?_
  rintro e w1 ⟨rfl, hb⟩
  have HB1 := Lib.hid (HA.out.trans (hb.mono HA.out.size))
  have HP0 := Lib.hid (cell_keep hb ((cell_of_row _ _ 0 _ _ _ HH.out).trans (rfl : _ = some (Value.int .i64 k))))
  have HP1 := Lib.hid (cell_keep hb ((cell_of_row _ _ 1 _ _ _ HH.out).trans (rfl : _ = some (Value.int .i64 op))))
  have HP2 := Lib.hid (cell_keep hb ((cell_of_row _ _ 2 _ _ _ HH.out).trans (rfl : _ = some (Value.int .i64 a))))
  have HP3 := Lib.hid (cell_keep hb ((cell_of_row _ _ 3 _ _ _ HH.out).trans (rfl : _ = some (Value.int .i64 b))))
  clear hb
  go_wp2_with fail
  refine (awake_any _ (HT.out.below HB1.out)).mono ?_
  rintro e w2 ⟨rfl, hb⟩
  have HB2 := Lib.hid (HB1.out.trans (hb.mono HB1.out.size))
  have hq0 := cell_keep hb HP0.out
  have hq1 := cell_keep hb HP1.out
  have hq2 := cell_keep hb HP2.out
  have hq3 := cell_keep hb HP3.out
  clear hb
  go_wp2_with fail
  refine (HK.out _).mono ?_
  rintro e w3 ⟨rfl, rfl⟩
  go_wp2_with fail
  refine (HF.out _).mono ?_
  rintro e w4 ⟨rfl, rfl⟩
  go_wp2_with fail
  go_ret
  exact ⟨rfl, HB2.out⟩
set_option maxRecDepth 100000 in
theorem good_walk (k op a b : Int) (r : Bool) (ho : 10 ≤ op) (ho2 : op ≤ 15)
    (hC : ∀ w, Calls Tryz.prog 25 #[.int .i64 k, .int .i64 op, .int .i64 a, .int .i64 b] w fun e w' => e = .returned (.tuple #[.bool r, .int .i64 0]) ∧ Below w.heap.size w w')
    (hR : ∀ w, Calls Tryz.prog 27 #[.int .i64 k, .int .i64 op, .int .i64 a, .int .i64 b] w fun e w' => e = .returned (.bool r) ∧ w = w')
    (hk : kindB k = true) (w : World) (ht : TabN w) :
    Calls Tryz.prog 5 #[.agg #[.int .i64 k, .int .i64 op, .int .i64 a, .int .i64 b]] w fun e w' => e = .returned (.bool true) ∧ Below w.heap.size w w' := by
  have HT := Lib.hid ht
  have HC := Lib.hid hC
  have HR := Lib.hid hR
  have HK := Lib.hid (fun w => refKind_yes k hk w)
  have HF := Lib.hid (fun w => refFitsCmp_yes op ho ho2 w)
  have hself : (r == r) = true := by cases r <;> rfl
  clear ht hk hC hR ho ho2
  have HH := Lib.hid (heap_top w (.cells #[.int .i64 k, .int .i64 op, .int .i64 a, .int .i64 b] 32))
  have HA := Lib.hid (((Below.refl w.heap.size w).alloc (Nat.le_refl _) (.cells #[.int .i64 k, .int .i64 op, .int .i64 a, .int .i64 b] 32)))
  go_enter Tryz.func5, Tryz.ntmps5
  go_wp2_with fail
  refine (HC.out _).mono ?_
  rintro e w1 ⟨rfl, hb⟩
  have HB1 := Lib.hid (HA.out.trans (hb.mono HA.out.size))
  have HP0 := Lib.hid (cell_keep hb ((cell_of_row _ _ 0 _ _ _ HH.out).trans (rfl : _ = some (Value.int .i64 k))))
  have HP1 := Lib.hid (cell_keep hb ((cell_of_row _ _ 1 _ _ _ HH.out).trans (rfl : _ = some (Value.int .i64 op))))
  have HP2 := Lib.hid (cell_keep hb ((cell_of_row _ _ 2 _ _ _ HH.out).trans (rfl : _ = some (Value.int .i64 a))))
  have HP3 := Lib.hid (cell_keep hb ((cell_of_row _ _ 3 _ _ _ HH.out).trans (rfl : _ = some (Value.int .i64 b))))
  clear hb
  go_wp2_with fail
  refine (awake_any _ (HT.out.below HB1.out)).mono ?_
  rintro e w2 ⟨rfl, hb⟩
  have HB2 := Lib.hid (HB1.out.trans (hb.mono HB1.out.size))
  have hq0 := cell_keep hb HP0.out
  have hq1 := cell_keep hb HP1.out
  have hq2 := cell_keep hb HP2.out
  have hq3 := cell_keep hb HP3.out
  clear hb
  go_wp2_with fail
  refine (HK.out _).mono ?_
  rintro e w3 ⟨rfl, rfl⟩
  go_wp2_with fail
  refine (HF.out _).mono ?_
  rintro e w4 ⟨rfl, rfl⟩
  go_wp2_with fail
  refine (HR.out _).mono ?_
  rintro e w5 ⟨rfl, rfl⟩
  go_wp2_with fail
  go_ret
  exact ⟨by first | rfl | simp, HB2.out⟩

theorem walk_k1 (op a b : Int) (w : World) (ht : TabN w) :
    Calls Tryz.prog 5 #[.agg #[.int .i64 1, .int .i64 op, .int .i64 a, .int .i64 b]] w fun e w' => e = .returned (.bool true) ∧ Below w.heap.size w w' := by
  by_cases hop : op < 10 ∨ 15 < op
  · exact bad_walk 1 op a b hop (fun w => cm1_bad op a b hop w) (by decide) w ht
  rcases (by omega : op = 10 ∨ op = 11 ∨ op = 12 ∨ op = 13 ∨ op = 14 ∨ op = 15) with rfl | rfl | rfl | rfl | rfl | rfl
  · exact good_walk 1 10 a b _ (by decide) (by decide) (fun w => cm1_10 a b w) (fun w => refCmpI_10 1 a b (a % 256) (b % 256) (by decide) (fun w => refWrap1 a w) (fun w => refWrap1 b w) w) (by decide) w ht
  · exact good_walk 1 11 a b _ (by decide) (by decide) (fun w => cm1_11 a b w) (fun w => refCmpI_11 1 a b (a % 256) (b % 256) (by decide) (fun w => refWrap1 a w) (fun w => refWrap1 b w) w) (by decide) w ht
  · exact good_walk 1 12 a b _ (by decide) (by decide) (fun w => cm1_12 a b w) (fun w => refCmpI_12 1 a b (a % 256) (b % 256) (by decide) (fun w => refWrap1 a w) (fun w => refWrap1 b w) w) (by decide) w ht
  · exact good_walk 1 13 a b _ (by decide) (by decide) (fun w => cm1_13 a b w) (fun w => refCmpI_13 1 a b (a % 256) (b % 256) (by decide) (fun w => refWrap1 a w) (fun w => refWrap1 b w) w) (by decide) w ht
  · exact good_walk 1 14 a b _ (by decide) (by decide) (fun w => cm1_14 a b w) (fun w => refCmpI_14 1 a b (a % 256) (b % 256) (by decide) (fun w => refWrap1 a w) (fun w => refWrap1 b w) w) (by decide) w ht
  · exact good_walk 1 15 a b _ (by decide) (by decide) (fun w => cm1_15 a b w) (fun w => refCmpI_15 1 a b (a % 256) (b % 256) (by decide) (fun w => refWrap1 a w) (fun w => refWrap1 b w) w) (by decide) w ht
theorem walk_k2 (op a b : Int) (w : World) (ht : TabN w) :
    Calls Tryz.prog 5 #[.agg #[.int .i64 2, .int .i64 op, .int .i64 a, .int .i64 b]] w fun e w' => e = .returned (.bool true) ∧ Below w.heap.size w w' := by
  by_cases hop : op < 10 ∨ 15 < op
  · exact bad_walk 2 op a b hop (fun w => cm2_bad op a b hop w) (by decide) w ht
  rcases (by omega : op = 10 ∨ op = 11 ∨ op = 12 ∨ op = 13 ∨ op = 14 ∨ op = 15) with rfl | rfl | rfl | rfl | rfl | rfl
  · exact good_walk 2 10 a b _ (by decide) (by decide) (fun w => cm2_10 a b w) (fun w => refCmpI_10 2 a b (wrap32 a) (wrap32 b) (by decide) (fun w => refWrap2 a w) (fun w => refWrap2 b w) w) (by decide) w ht
  · exact good_walk 2 11 a b _ (by decide) (by decide) (fun w => cm2_11 a b w) (fun w => refCmpI_11 2 a b (wrap32 a) (wrap32 b) (by decide) (fun w => refWrap2 a w) (fun w => refWrap2 b w) w) (by decide) w ht
  · exact good_walk 2 12 a b _ (by decide) (by decide) (fun w => cm2_12 a b w) (fun w => refCmpI_12 2 a b (wrap32 a) (wrap32 b) (by decide) (fun w => refWrap2 a w) (fun w => refWrap2 b w) w) (by decide) w ht
  · exact good_walk 2 13 a b _ (by decide) (by decide) (fun w => cm2_13 a b w) (fun w => refCmpI_13 2 a b (wrap32 a) (wrap32 b) (by decide) (fun w => refWrap2 a w) (fun w => refWrap2 b w) w) (by decide) w ht
  · exact good_walk 2 14 a b _ (by decide) (by decide) (fun w => cm2_14 a b w) (fun w => refCmpI_14 2 a b (wrap32 a) (wrap32 b) (by decide) (fun w => refWrap2 a w) (fun w => refWrap2 b w) w) (by decide) w ht
  · exact good_walk 2 15 a b _ (by decide) (by decide) (fun w => cm2_15 a b w) (fun w => refCmpI_15 2 a b (wrap32 a) (wrap32 b) (by decide) (fun w => refWrap2 a w) (fun w => refWrap2 b w) w) (by decide) w ht
theorem walk_k3 (op a b : Int) (w : World) (ht : TabN w) :
    Calls Tryz.prog 5 #[.agg #[.int .i64 3, .int .i64 op, .int .i64 a, .int .i64 b]] w fun e w' => e = .returned (.bool true) ∧ Below w.heap.size w w' := by
  by_cases hop : op < 10 ∨ 15 < op
  · exact bad_walk 3 op a b hop (fun w => cm3_bad op a b hop w) (by decide) w ht
  rcases (by omega : op = 10 ∨ op = 11 ∨ op = 12 ∨ op = 13 ∨ op = 14 ∨ op = 15) with rfl | rfl | rfl | rfl | rfl | rfl
  · exact good_walk 3 10 a b _ (by decide) (by decide) (fun w => cm3_10 a b w) (fun w => refCmpI_10 3 a b a b (by decide) (fun w => refWrap3 a w) (fun w => refWrap3 b w) w) (by decide) w ht
  · exact good_walk 3 11 a b _ (by decide) (by decide) (fun w => cm3_11 a b w) (fun w => refCmpI_11 3 a b a b (by decide) (fun w => refWrap3 a w) (fun w => refWrap3 b w) w) (by decide) w ht
  · exact good_walk 3 12 a b _ (by decide) (by decide) (fun w => cm3_12 a b w) (fun w => refCmpI_12 3 a b a b (by decide) (fun w => refWrap3 a w) (fun w => refWrap3 b w) w) (by decide) w ht
  · exact good_walk 3 13 a b _ (by decide) (by decide) (fun w => cm3_13 a b w) (fun w => refCmpI_13 3 a b a b (by decide) (fun w => refWrap3 a w) (fun w => refWrap3 b w) w) (by decide) w ht
  · exact good_walk 3 14 a b _ (by decide) (by decide) (fun w => cm3_14 a b w) (fun w => refCmpI_14 3 a b a b (by decide) (fun w => refWrap3 a w) (fun w => refWrap3 b w) w) (by decide) w ht
  · exact good_walk 3 15 a b _ (by decide) (by decide) (fun w => cm3_15 a b w) (fun w => refCmpI_15 3 a b a b (by decide) (fun w => refWrap3 a w) (fun w => refWrap3 b w) w) (by decide) w ht
theorem walk_k4 (op a b : Int) (a0 : -9223372036854775808 ≤ a) (a1 : a ≤ 9223372036854775807) (b0 : -9223372036854775808 ≤ b) (b1 : b ≤ 9223372036854775807) (w : World) (ht : TabN w) :
    Calls Tryz.prog 5 #[.agg #[.int .i64 4, .int .i64 op, .int .i64 a, .int .i64 b]] w fun e w' => e = .returned (.bool true) ∧ Below w.heap.size w w' := by
  by_cases hop : op < 10 ∨ 15 < op
  · exact bad_walk 4 op a b hop (fun w => cm4_bad op a b hop w) (by decide) w ht
  have na := cWrR_nan a a0 a1
  have nb := cWrR_nan b b0 b1
  have hn := cOrdN_none (bitsN (wrR a)) (bitsN (wrR b))
  have HA := fun w => refWrap4 a a0 a1 w
  have HB := fun w => refWrap4 b b0 b1 w
  cases ho : ordN (bitsN (wrR a)) (bitsN (wrR b)) with
  | none =>
    by_cases hA : wrR a = 9221120237041090561
    · rcases (by omega : op = 10 ∨ op = 11 ∨ op = 12 ∨ op = 13 ∨ op = 14 ∨ op = 15) with rfl | rfl | rfl | rfl | rfl | rfl
      · exact good_walk 4 10 a b false (by decide) (by decide) (fun w => by have h' := cm4_10 a b w; rw [show cmpR 10 (bitsN (wrR a)) (bitsN (wrR b)) = false from by unfold cmpR; rw [ho]; rfl] at h'; exact h') (fun w => refCmpR_10_nanA a b (by simpa using hA) HA HB w) (by decide) w ht
      · exact good_walk 4 11 a b true (by decide) (by decide) (fun w => by have h' := cm4_11 a b w; rw [show cmpR 11 (bitsN (wrR a)) (bitsN (wrR b)) = true from by unfold cmpR; rw [ho]; rfl] at h'; exact h') (fun w => refCmpR_11_nanA a b (by simpa using hA) HA HB w) (by decide) w ht
      · exact good_walk 4 12 a b false (by decide) (by decide) (fun w => by have h' := cm4_12 a b w; rw [show cmpR 12 (bitsN (wrR a)) (bitsN (wrR b)) = false from by unfold cmpR; rw [ho]; rfl] at h'; exact h') (fun w => refCmpR_12_nanA a b (by simpa using hA) HA HB w) (by decide) w ht
      · exact good_walk 4 13 a b false (by decide) (by decide) (fun w => by have h' := cm4_13 a b w; rw [show cmpR 13 (bitsN (wrR a)) (bitsN (wrR b)) = false from by unfold cmpR; rw [ho]; rfl] at h'; exact h') (fun w => refCmpR_13_nanA a b (by simpa using hA) HA HB w) (by decide) w ht
      · exact good_walk 4 14 a b false (by decide) (by decide) (fun w => by have h' := cm4_14 a b w; rw [show cmpR 14 (bitsN (wrR a)) (bitsN (wrR b)) = false from by unfold cmpR; rw [ho]; rfl] at h'; exact h') (fun w => refCmpR_14_nanA a b (by simpa using hA) HA HB w) (by decide) w ht
      · exact good_walk 4 15 a b false (by decide) (by decide) (fun w => by have h' := cm4_15 a b w; rw [show cmpR 15 (bitsN (wrR a)) (bitsN (wrR b)) = false from by unfold cmpR; rw [ho]; rfl] at h'; exact h') (fun w => refCmpR_15_nanA a b (by simpa using hA) HA HB w) (by decide) w ht
    · have hB : wrR b = 9221120237041090561 := by
        rw [ho] at hn
        rcases hn.1 rfl with h | h
        · rw [na] at h; exact absurd (by simpa using h) hA
        · rw [nb] at h; simpa using h
      rcases (by omega : op = 10 ∨ op = 11 ∨ op = 12 ∨ op = 13 ∨ op = 14 ∨ op = 15) with rfl | rfl | rfl | rfl | rfl | rfl
      · exact good_walk 4 10 a b false (by decide) (by decide) (fun w => by have h' := cm4_10 a b w; rw [show cmpR 10 (bitsN (wrR a)) (bitsN (wrR b)) = false from by unfold cmpR; rw [ho]; rfl] at h'; exact h') (fun w => refCmpR_10_nanB a b (by simpa using hA) (by simpa using hB) HA HB w) (by decide) w ht
      · exact good_walk 4 11 a b true (by decide) (by decide) (fun w => by have h' := cm4_11 a b w; rw [show cmpR 11 (bitsN (wrR a)) (bitsN (wrR b)) = true from by unfold cmpR; rw [ho]; rfl] at h'; exact h') (fun w => refCmpR_11_nanB a b (by simpa using hA) (by simpa using hB) HA HB w) (by decide) w ht
      · exact good_walk 4 12 a b false (by decide) (by decide) (fun w => by have h' := cm4_12 a b w; rw [show cmpR 12 (bitsN (wrR a)) (bitsN (wrR b)) = false from by unfold cmpR; rw [ho]; rfl] at h'; exact h') (fun w => refCmpR_12_nanB a b (by simpa using hA) (by simpa using hB) HA HB w) (by decide) w ht
      · exact good_walk 4 13 a b false (by decide) (by decide) (fun w => by have h' := cm4_13 a b w; rw [show cmpR 13 (bitsN (wrR a)) (bitsN (wrR b)) = false from by unfold cmpR; rw [ho]; rfl] at h'; exact h') (fun w => refCmpR_13_nanB a b (by simpa using hA) (by simpa using hB) HA HB w) (by decide) w ht
      · exact good_walk 4 14 a b false (by decide) (by decide) (fun w => by have h' := cm4_14 a b w; rw [show cmpR 14 (bitsN (wrR a)) (bitsN (wrR b)) = false from by unfold cmpR; rw [ho]; rfl] at h'; exact h') (fun w => refCmpR_14_nanB a b (by simpa using hA) (by simpa using hB) HA HB w) (by decide) w ht
      · exact good_walk 4 15 a b false (by decide) (by decide) (fun w => by have h' := cm4_15 a b w; rw [show cmpR 15 (bitsN (wrR a)) (bitsN (wrR b)) = false from by unfold cmpR; rw [ho]; rfl] at h'; exact h') (fun w => refCmpR_15_nanB a b (by simpa using hA) (by simpa using hB) HA HB w) (by decide) w ht
  | some r =>
    have hA : (wrR a == 9221120237041090561) = false := by
      rw [beq_eq_false_iff_ne]; intro h; rw [h] at na
      have := hn.2 (.inl (by rw [h]; exact na.trans (by decide)))
      rw [ho] at this; cases this
    have hB : (wrR b == 9221120237041090561) = false := by
      rw [beq_eq_false_iff_ne]; intro h; rw [h] at nb
      have := hn.2 (.inr (by rw [h]; exact nb.trans (by decide)))
      rw [ho] at this; cases this
    rcases (by omega : op = 10 ∨ op = 11 ∨ op = 12 ∨ op = 13 ∨ op = 14 ∨ op = 15) with rfl | rfl | rfl | rfl | rfl | rfl
    · cases r with
      | lt => exact good_walk 4 10 a b _ (by decide) (by decide) (fun w => cm4_10 a b w) (fun w => refCmpR_10_lt a b hA hB ho HA HB w) (by decide) w ht
      | eq => exact good_walk 4 10 a b _ (by decide) (by decide) (fun w => cm4_10 a b w) (fun w => refCmpR_10_eq a b hA hB ho HA HB w) (by decide) w ht
      | gt => exact good_walk 4 10 a b _ (by decide) (by decide) (fun w => cm4_10 a b w) (fun w => refCmpR_10_gt a b hA hB ho HA HB w) (by decide) w ht
    · cases r with
      | lt => exact good_walk 4 11 a b _ (by decide) (by decide) (fun w => cm4_11 a b w) (fun w => refCmpR_11_lt a b hA hB ho HA HB w) (by decide) w ht
      | eq => exact good_walk 4 11 a b _ (by decide) (by decide) (fun w => cm4_11 a b w) (fun w => refCmpR_11_eq a b hA hB ho HA HB w) (by decide) w ht
      | gt => exact good_walk 4 11 a b _ (by decide) (by decide) (fun w => cm4_11 a b w) (fun w => refCmpR_11_gt a b hA hB ho HA HB w) (by decide) w ht
    · cases r with
      | lt => exact good_walk 4 12 a b _ (by decide) (by decide) (fun w => cm4_12 a b w) (fun w => refCmpR_12_lt a b hA hB ho HA HB w) (by decide) w ht
      | eq => exact good_walk 4 12 a b _ (by decide) (by decide) (fun w => cm4_12 a b w) (fun w => refCmpR_12_eq a b hA hB ho HA HB w) (by decide) w ht
      | gt => exact good_walk 4 12 a b _ (by decide) (by decide) (fun w => cm4_12 a b w) (fun w => refCmpR_12_gt a b hA hB ho HA HB w) (by decide) w ht
    · cases r with
      | lt => exact good_walk 4 13 a b _ (by decide) (by decide) (fun w => cm4_13 a b w) (fun w => refCmpR_13_lt a b hA hB ho HA HB w) (by decide) w ht
      | eq => exact good_walk 4 13 a b _ (by decide) (by decide) (fun w => cm4_13 a b w) (fun w => refCmpR_13_eq a b hA hB ho HA HB w) (by decide) w ht
      | gt => exact good_walk 4 13 a b _ (by decide) (by decide) (fun w => cm4_13 a b w) (fun w => refCmpR_13_gt a b hA hB ho HA HB w) (by decide) w ht
    · cases r with
      | lt => exact good_walk 4 14 a b _ (by decide) (by decide) (fun w => cm4_14 a b w) (fun w => refCmpR_14_lt a b hA hB ho HA HB w) (by decide) w ht
      | eq => exact good_walk 4 14 a b _ (by decide) (by decide) (fun w => cm4_14 a b w) (fun w => refCmpR_14_eq a b hA hB ho HA HB w) (by decide) w ht
      | gt => exact good_walk 4 14 a b _ (by decide) (by decide) (fun w => cm4_14 a b w) (fun w => refCmpR_14_gt a b hA hB ho HA HB w) (by decide) w ht
    · cases r with
      | lt => exact good_walk 4 15 a b _ (by decide) (by decide) (fun w => cm4_15 a b w) (fun w => refCmpR_15_lt a b hA hB ho HA HB w) (by decide) w ht
      | eq => exact good_walk 4 15 a b _ (by decide) (by decide) (fun w => cm4_15 a b w) (fun w => refCmpR_15_eq a b hA hB ho HA HB w) (by decide) w ht
      | gt => exact good_walk 4 15 a b _ (by decide) (by decide) (fun w => cm4_15 a b w) (fun w => refCmpR_15_gt a b hA hB ho HA HB w) (by decide) w ht

theorem i64_of {n : Int} (h : (Lit.int .i64 n).wf = true) : -9223372036854775808 ≤ n ∧ n ≤ 9223372036854775807 := by
  simp [Lit.wf, IntKind.min, IntKind.max, IntKind.signed, IntKind.bits] at h; omega
theorem walk (k op a b : Int) (wk : (Lit.int .i64 k).wf = true) (wop : (Lit.int .i64 op).wf = true) (wa : (Lit.int .i64 a).wf = true) (wb : (Lit.int .i64 b).wf = true) (w : World) (ht : TabN w) :
    Calls Tryz.prog 5 #[.agg #[.int .i64 k, .int .i64 op, .int .i64 a, .int .i64 b]] w fun e w' => e = .returned (.bool true) ∧ Below w.heap.size w w' := by
  obtain ⟨a0, a1⟩ := i64_of wa
  obtain ⟨b0, b1⟩ := i64_of wb
  rcases Bool.eq_false_or_eq_true (kindB k) with hk | hk
  · have hk' := hk
    simp only [kindB, decide_eq_true_eq] at hk'
    rcases (by omega : k = 1 ∨ k = 2 ∨ k = 3 ∨ k = 4) with rfl | rfl | rfl | rfl
    · exact walk_k1 op a b w ht
    · exact walk_k2 op a b w ht
    · exact walk_k3 op a b w ht
    · exact walk_k4 op a b a0 a1 b0 b1 w ht
  · exact none_walk k op a b hk w ht

set_option maxRecDepth 100000 in
theorem lifted (os : Os) (started : os.Started) (H : Type) (enc : TypeId × Value → H) :
    ReturnsInHanded {} Tryz.checked os 5 .any (fun w args => (Rows.numberComparesSpec.pre enc Tryz.prog Tryz.f5 [] false w args ∧ laidMetH Tryz.prog laidN w) ∧ sizedMet enc Tryz.prog Tryz.f5 (OpenSpec.ofChange Rows.numberComparesSpec) false w args)
      (Rows.numberComparesSpec.post enc Tryz.prog Tryz.f5 false true false false) := by
  refine returnsInHanded_and_shaped (C := Tryz.checked) (X := fun w _ => laidMetH Tryz.prog laidN w) (fun _ _ _ hh h => h.of_heap hh) own started (by kernel_rfl) Tryz.func5
    (ChangeSpec.witness_shaped (enc := enc) (C := Tryz.checked) (os := os) (X := fun w _ => laidMetH Tryz.prog laidN w) false (World.laidAll Tryz.prog os laidN) #[.agg #[.int .i64 0, .int .i64 0, .int .i64 0, .int .i64 0]] 8 (World.laidAll_os _ _ _) (shaped_all os _) (by kernel_rfl) (by kernel_rfl) (by kernel_rfl) (met_all os _)) ?_
  intro W base args ds gs before hval0 hW hL hSh
  have hval : ∀ (j : Nat) t v, Tryz.f5.params[j]? = some t → args[j]? = some v → Value.okWide Tryz.prog W .any base t v := hval0
  have hW' := hW
  obtain ⟨p, q, hA0, hV, rfl, hfz, hnd⟩ := hW
  have hA : DataW.TrodAll enc Tryz.prog W 0 (fun _ => true) true Tryz.f5.params.toList args.toList ds p := hA0
  rw [Tryz.params5] at hA hval
  obtain ⟨v0, d0, rfl, rfl, h0⟩ := trodAll_one hA
  obtain ⟨rfl, rfl⟩ := trodVars_none hV
  have g0 := h0
  obtain ⟨c0, c1, c2, c3, y0, y1, y2, y3, m0, rfl, rfl, rfl, e0, e1, e2, e3⟩ := Go.Joins.open_agg4 Tryz.underlying32 (by kernel_rfl) (by kernel_rfl) (hval 0 32 _ rfl rfl) h0
  obtain ⟨x0, q0, rfl, w0⟩ := DataW.trod_int Tryz.underlying3 e0
  obtain ⟨x1, q1, rfl, w1⟩ := DataW.trod_int Tryz.underlying3 e1
  obtain ⟨x2, q2, rfl, w2⟩ := DataW.trod_int Tryz.underlying2 e2
  obtain ⟨x3, q3, rfl, w3⟩ := DataW.trod_int Tryz.underlying2 e3
  obtain rfl := (List.cons.inj q0).1
  obtain rfl := (List.cons.inj q1).1
  obtain rfl := (List.cons.inj q2).1
  obtain rfl := (List.cons.inj q3).1
  clear hA0 hval0
  have ht := of_laid hSh hL
  simp only [List.append_nil] at hW'
  refine (walk x0 x1 x2 x3 w0 w1 w2 w3 W ht).mono fun e W' ⟨he, bel⟩ => ?_
  subst he
  exact ⟨_, rfl, _, _, _, [], _, [], hW', trodAll_mk1 (shut_bool Tryz.underlying4 _), (trodAll_mk1 (Below.trod laidOut (by kernel_rfl) (of_decide_eq_true (by kernel_rfl)) g0 bel (by intro x hx; simp at hx))), rfl, bel.frame _, fun h => by cases h⟩

set_option maxHeartbeats 16000000 in
set_option maxRecDepth 100000 in
theorem joined : joinedFacts Tryz.prog 5 Tryz.f5 Rows.numberComparesSpec Rows.numberComparesRow = true := by
  unfold joinedFacts
  simp only [Bool.and_eq_true]
  repeat' apply And.intro
  all_goals as_aux_lemma => kernel_rfl
theorem over : Rows.numberComparesRow.holds Tryz.pinned (OpenSpec.ofChange Rows.numberComparesSpec) :=
  OpenClaim.holds_of_wide 5 Tryz.f5 rfl rfl rfl rfl rfl rfl rfl ⟨rfl, rfl, rfl, rfl, rfl⟩ rfl rfl rfl rfl rfl (by kernel_rfl) Tryz.func5 joined
    (of_decide_eq_true (by kernel_rfl)) (by unfold Func.isWrapper; first | (rw [if_pos (by decide +kernel)]; kernel_rfl) | (rw [if_neg (by decide +kernel)]; exact ⟨rfl, rfl⟩))
    (fun os started H enc _ => lifted os started H enc)

theorem card_holds : Rows.NumberComparesCardSaid :=
  Claim7.holds_tied_plain_at .later [] [.data, .data, .widerDeep, .widerDeep, .data, .data, .data, .data, .data, .data, .sentinel, .sentinel, .pinned, .pinned, .pinned] true (true, "64b06c7202077d118462950218fe2974fddba9497f2cf52520b628f8eed59e5b") true
    over (fun _ h => by cases h) (by kernel_rfl) (fun _ h => by cases h) numberCompares_row_tie rfl ⟨rfl, rfl⟩ (by kernel_rfl) rfl
    (fun f fn hf hfn => by
      obtain rfl : f = 5 := Option.some.inj ((show Tryz.prog.funcNamed "acheron/acheronlaw04.NumberCompares" = some 5 by kernel_rfl).symm.trans hf) |>.symm
      obtain rfl : fn = Tryz.f5 := (Option.some.inj (Tryz.func5.symm.trans hfn)).symm
      exact ⟨by kernel_rfl, fun j t ht => by
        rw [Tryz.params5] at ht
        have hm : t ∈ [32] := by have := Array.mem_of_getElem? ht; simp at this ⊢; omega
        have hall : ([32].all fun u => !Tryz.prog.wantsStandIn u) = true := by kernel_rfl
        exact (show Tryz.prog.wantsStandIn t = false by simpa using List.all_eq_true.1 hall t hm)⟩)
    (by kernel_rfl)
end Go.Proofs.YthbmdlihfocbmaaGreatDoor.numberCompares

