/-
  For all calculations the law NumberReckons returns true. No condition.
-/
import Derived.Test.YthbmdlihfocbmaaGreatDoorRows
import Derived.Test.YthbmdlihfocbmaaGreatDoorAwakeN
import Derived.Test.YthbmdlihfocbmaaGreatDoorWrapA
import Derived.Lib.SmallJoins
import Derived.Test.YthbmdlihfocbmaaGreatDoorRef1
import Derived.Test.YthbmdlihfocbmaaGreatDoorAr1
import Derived.Test.YthbmdlihfocbmaaGreatDoorAr2
import Derived.Test.YthbmdlihfocbmaaGreatDoorAr3
import Derived.Test.YthbmdlihfocbmaaGreatDoorAr4
import Derived.Test.YthbmdlihfocbmaaGreatDoorUn
import Derived.Test.YthbmdlihfocbmaaGreatDoorRefA
import Derived.Test.YthbmdlihfocbmaaGreatDoorRefS
import Derived.Test.YthbmdlihfocbmaaGreatDoorRefAr
import Derived.Test.YthbmdlihfocbmaaGreatDoorReckM
import Derived.Test.YthbmdlihfocbmaaGreatDoorLaidN
import Derived.WalkKit
import Derived.ProofKit
import Derived.OpenShut
import Derived.ShutString
import Derived.ChangeOld
import Derived.Carry
import Derived.SevenTiedAt
import Derived.Test.YthbmdlihfocbmaaGreatDoorCards
import Derived.Test.YthbmdlihfocbmaaGreatDoorTie
set_option linter.unusedVariables false
namespace Go.Proofs.YthbmdlihfocbmaaGreatDoor.numberReckons
open Go.ChangeShapes Go.WideShapes Go.ChangeAt Go.RowKit

theorem own : ownKnob Tryz.prog.godebug = none := by kernel_rfl

theorem laidOut : laidOutB Tryz.prog = true := by kernel_rfl
set_option maxRecDepth 100000 in
theorem none_walk (k op a b : Int) (hk : kindB k = false) (w : World) (ht : TabN w) :
    Calls Tryz.prog 4 #[.agg #[.int .i64 k, .int .i64 op, .int .i64 a, .int .i64 b]] w fun e w' => e = .returned (.bool true) ∧ Below w.heap.size w w' := by
  have HT := Lib.hid ht
  have HC := Lib.hid (fun w => Arith_no k op a b hk w)
  have HU := Lib.hid (fun w => Unary_no k op a hk w)
  have HK := Lib.hid (fun w => refKind_no k hk w)
  clear ht hk
  have HH := Lib.hid (heap_top w (.cells #[.int .i64 k, .int .i64 op, .int .i64 a, .int .i64 b] 32))
  have HA := Lib.hid (((Below.refl w.heap.size w).alloc (Nat.le_refl _) (.cells #[.int .i64 k, .int .i64 op, .int .i64 a, .int .i64 b] 32)))
  go_enter Tryz.func4, Tryz.ntmps4
  go_wp2_with fail
  refine (HC.out _).mono ?_
  rintro e w1 ⟨rfl, hb⟩
  have HB1 := Lib.hid (HA.out.trans (hb.mono HA.out.size))
  have hp0 := cell_keep hb ((cell_of_row _ _ 0 _ _ _ HH.out).trans (rfl : _ = some (Value.int .i64 k)))
  have hp1 := cell_keep hb ((cell_of_row _ _ 1 _ _ _ HH.out).trans (rfl : _ = some (Value.int .i64 op)))
  have hp2 := cell_keep hb ((cell_of_row _ _ 2 _ _ _ HH.out).trans (rfl : _ = some (Value.int .i64 a)))
  have hp3 := cell_keep hb ((cell_of_row _ _ 3 _ _ _ HH.out).trans (rfl : _ = some (Value.int .i64 b)))
  have HE1 := Lib.hid (And.intro hp0 (And.intro hp1 (And.intro hp2 hp3)))
  clear hb
  go_wp2_with fail
  refine (HU.out _).mono ?_
  rintro e w2 ⟨rfl, hb⟩
  have HB2 := Lib.hid (HB1.out.trans (hb.mono HB1.out.size))
  clear hp0 hp1 hp2 hp3
  have hq0 := cell_keep hb HE1.out.1
  have hq1 := cell_keep hb HE1.out.2.1
  have hq2 := cell_keep hb HE1.out.2.2.1
  have hq3 := cell_keep hb HE1.out.2.2.2
  have HE2 := Lib.hid (And.intro hq0 (And.intro hq1 (And.intro hq2 hq3)))
  clear hb
  go_wp2_with fail
  refine (HK.out _).mono ?_
  rintro e w3 ⟨rfl, rfl⟩
  go_wp2_with fail
  refine (awake_any _ (HT.out.below HB2.out)).mono ?_
  rintro e w4 ⟨rfl, hb⟩
  have HB4 := Lib.hid (HB2.out.trans (hb.mono HB2.out.size))
  clear hb
  go_wp2_with fail
  go_ret
  exact ⟨rfl, HB4.out⟩
set_option maxRecDepth 100000 in
theorem form_form (k op a b : Int) 
    (hA : ∀ w, Calls Tryz.prog 19 #[.int .i64 k, .int .i64 op, .int .i64 a, .int .i64 b] w fun e w' => e = .returned (.tuple #[.int .i64 0, .int .i64 2]) ∧ Below w.heap.size w w')
    (hU : ∀ w, Calls Tryz.prog 20 #[.int .i64 k, .int .i64 op, .int .i64 a] w fun e w' => e = .returned (.tuple #[.int .i64 0, .int .i64 2]) ∧ Below w.heap.size w w')
    (hF : ∀ w, Calls Tryz.prog 21 #[.int .i64 k, .int .i64 op] w fun e w' => e = .returned (.bool false) ∧ w = w')
    (hG : ∀ w, Calls Tryz.prog 23 #[.int .i64 k, .int .i64 op] w fun e w' => e = .returned (.bool false) ∧ w = w')
    (hk : kindB k = true) (w : World) (ht : TabN w) :
    Calls Tryz.prog 4 #[.agg #[.int .i64 k, .int .i64 op, .int .i64 a, .int .i64 b]] w fun e w' => e = .returned (.bool true) ∧ Below w.heap.size w w' := by
  have HT := Lib.hid ht
  have HK := Lib.hid (fun w => refKind_yes k hk w)
  have HHA := Lib.hid hA
  have HHU := Lib.hid hU
  have HHF := Lib.hid hF
  have HHG := Lib.hid hG
  clear ht hk hA hU hF hG
  have HH := Lib.hid (heap_top w (.cells #[.int .i64 k, .int .i64 op, .int .i64 a, .int .i64 b] 32))
  have HA := Lib.hid (((Below.refl w.heap.size w).alloc (Nat.le_refl _) (.cells #[.int .i64 k, .int .i64 op, .int .i64 a, .int .i64 b] 32)))
  go_enter Tryz.func4, Tryz.ntmps4
  go_wp2_with fail
  refine (HHA.out _).mono ?_
  rintro e w1 ⟨rfl, hb⟩
  have HB1 := Lib.hid (HA.out.trans (hb.mono HA.out.size))
  have hp0 := cell_keep hb ((cell_of_row _ _ 0 _ _ _ HH.out).trans (rfl : _ = some (Value.int .i64 k)))
  have hp1 := cell_keep hb ((cell_of_row _ _ 1 _ _ _ HH.out).trans (rfl : _ = some (Value.int .i64 op)))
  have hp2 := cell_keep hb ((cell_of_row _ _ 2 _ _ _ HH.out).trans (rfl : _ = some (Value.int .i64 a)))
  have hp3 := cell_keep hb ((cell_of_row _ _ 3 _ _ _ HH.out).trans (rfl : _ = some (Value.int .i64 b)))
  have HE1 := Lib.hid (And.intro hp0 (And.intro hp1 (And.intro hp2 hp3)))
  clear hb
  go_wp2_with fail
  refine (HHU.out _).mono ?_
  rintro e w2 ⟨rfl, hb⟩
  have HB2 := Lib.hid (HB1.out.trans (hb.mono HB1.out.size))
  clear hp0 hp1 hp2 hp3
  have hq0 := cell_keep hb HE1.out.1
  have hq1 := cell_keep hb HE1.out.2.1
  have hq2 := cell_keep hb HE1.out.2.2.1
  have hq3 := cell_keep hb HE1.out.2.2.2
  have HE2 := Lib.hid (And.intro hq0 (And.intro hq1 (And.intro hq2 hq3)))
  clear hb
  go_wp2_with fail
  refine (HK.out _).mono ?_
  rintro e w3 ⟨rfl, rfl⟩
  go_wp2_with fail
  refine (HHF.out _).mono ?_
  rintro e w4 ⟨rfl, rfl⟩
  go_wp2_with fail
  refine (HHG.out _).mono ?_
  rintro e w6 ⟨rfl, rfl⟩
  go_wp2_with fail
  refine (awake_any _ (HT.out.below HB2.out)).mono ?_
  rintro e w8 ⟨rfl, hb⟩
  have HB8 := Lib.hid (HB2.out.trans (hb.mono HB2.out.size))
  clear hb
  go_wp2_with fail
  go_ret
  exact ⟨rfl, HB8.out⟩
set_option maxRecDepth 100000 in
theorem range_form (k op a b : Int) 
    (hA : ∀ w, Calls Tryz.prog 19 #[.int .i64 k, .int .i64 op, .int .i64 a, .int .i64 b] w fun e w' => e = .returned (.tuple #[.int .i64 0, .int .i64 11]) ∧ Below w.heap.size w w')
    (hU : ∀ w, Calls Tryz.prog 20 #[.int .i64 k, .int .i64 op, .int .i64 a] w fun e w' => e = .returned (.tuple #[.int .i64 0, .int .i64 2]) ∧ Below w.heap.size w w')
    (hF : ∀ w, Calls Tryz.prog 21 #[.int .i64 k, .int .i64 op] w fun e w' => e = .returned (.bool true) ∧ w = w')
    (hG : ∀ w, Calls Tryz.prog 23 #[.int .i64 k, .int .i64 op] w fun e w' => e = .returned (.bool false) ∧ w = w')
    (hR : ∀ w, Calls Tryz.prog 22 #[.int .i64 k, .int .i64 op, .int .i64 a, .int .i64 b] w fun e w' => e = .returned (.tuple #[.int .i64 0, .bool false]) ∧ ∃ m, w' = w.drewN m)
    (hk : kindB k = true) (w : World) (ht : TabN w) :
    Calls Tryz.prog 4 #[.agg #[.int .i64 k, .int .i64 op, .int .i64 a, .int .i64 b]] w fun e w' => e = .returned (.bool true) ∧ Below w.heap.size w w' := by
  have HT := Lib.hid ht
  have HK := Lib.hid (fun w => refKind_yes k hk w)
  have HHA := Lib.hid hA
  have HHU := Lib.hid hU
  have HHF := Lib.hid hF
  have HHG := Lib.hid hG
  have HHR := Lib.hid hR
  clear ht hk hA hU hF hG hR
  have HH := Lib.hid (heap_top w (.cells #[.int .i64 k, .int .i64 op, .int .i64 a, .int .i64 b] 32))
  have HA := Lib.hid (((Below.refl w.heap.size w).alloc (Nat.le_refl _) (.cells #[.int .i64 k, .int .i64 op, .int .i64 a, .int .i64 b] 32)))
  go_enter Tryz.func4, Tryz.ntmps4
  go_wp2_with fail
  refine (HHA.out _).mono ?_
  rintro e w1 ⟨rfl, hb⟩
  have HB1 := Lib.hid (HA.out.trans (hb.mono HA.out.size))
  have hp0 := cell_keep hb ((cell_of_row _ _ 0 _ _ _ HH.out).trans (rfl : _ = some (Value.int .i64 k)))
  have hp1 := cell_keep hb ((cell_of_row _ _ 1 _ _ _ HH.out).trans (rfl : _ = some (Value.int .i64 op)))
  have hp2 := cell_keep hb ((cell_of_row _ _ 2 _ _ _ HH.out).trans (rfl : _ = some (Value.int .i64 a)))
  have hp3 := cell_keep hb ((cell_of_row _ _ 3 _ _ _ HH.out).trans (rfl : _ = some (Value.int .i64 b)))
  have HE1 := Lib.hid (And.intro hp0 (And.intro hp1 (And.intro hp2 hp3)))
  clear hb
  go_wp2_with fail
  refine (HHU.out _).mono ?_
  rintro e w2 ⟨rfl, hb⟩
  have HB2 := Lib.hid (HB1.out.trans (hb.mono HB1.out.size))
  clear hp0 hp1 hp2 hp3
  have hq0 := cell_keep hb HE1.out.1
  have hq1 := cell_keep hb HE1.out.2.1
  have hq2 := cell_keep hb HE1.out.2.2.1
  have hq3 := cell_keep hb HE1.out.2.2.2
  have HE2 := Lib.hid (And.intro hq0 (And.intro hq1 (And.intro hq2 hq3)))
  clear hb
  go_wp2_with fail
  refine (HK.out _).mono ?_
  rintro e w3 ⟨rfl, rfl⟩
  go_wp2_with fail
  refine (HHF.out _).mono ?_
  rintro e w4 ⟨rfl, rfl⟩
  go_wp2_with fail
  refine (HHR.out _).mono ?_
  rintro e w5 ⟨rfl, d, rfl⟩
  clear hq0 hq1 hq2 hq3
  have hr0 : (w2.drewN d).cell? _ = _ := HE2.out.1
  have hr1 : (w2.drewN d).cell? _ = _ := HE2.out.2.1
  have hr2 : (w2.drewN d).cell? _ = _ := HE2.out.2.2.1
  have hr3 : (w2.drewN d).cell? _ = _ := HE2.out.2.2.2
  have HBd := Lib.hid (below_drewN HB2.out d)
  go_wp2_with fail
  refine (HHG.out _).mono ?_
  rintro e w6 ⟨rfl, rfl⟩
  go_wp2_with fail
  refine (awake_any _ (HT.out.below HBd.out)).mono ?_
  rintro e w8 ⟨rfl, hb⟩
  have HB8 := Lib.hid (HBd.out.trans (hb.mono HBd.out.size))
  clear hb
  go_wp2_with fail
  go_ret
  exact ⟨rfl, HB8.out⟩
set_option maxRecDepth 100000 in
theorem ok_form (k op a b : Int) (v : Int) 
    (hA : ∀ w, Calls Tryz.prog 19 #[.int .i64 k, .int .i64 op, .int .i64 a, .int .i64 b] w fun e w' => e = .returned (.tuple #[.int .i64 v, .int .i64 0]) ∧ Below w.heap.size w w')
    (hU : ∀ w, Calls Tryz.prog 20 #[.int .i64 k, .int .i64 op, .int .i64 a] w fun e w' => e = .returned (.tuple #[.int .i64 0, .int .i64 2]) ∧ Below w.heap.size w w')
    (hF : ∀ w, Calls Tryz.prog 21 #[.int .i64 k, .int .i64 op] w fun e w' => e = .returned (.bool true) ∧ w = w')
    (hG : ∀ w, Calls Tryz.prog 23 #[.int .i64 k, .int .i64 op] w fun e w' => e = .returned (.bool false) ∧ w = w')
    (hR : ∀ w, Calls Tryz.prog 22 #[.int .i64 k, .int .i64 op, .int .i64 a, .int .i64 b] w fun e w' => e = .returned (.tuple #[.int .i64 v, .bool true]) ∧ ∃ m, w' = w.drewN m)
    (hk : kindB k = true) (w : World) (ht : TabN w) :
    Calls Tryz.prog 4 #[.agg #[.int .i64 k, .int .i64 op, .int .i64 a, .int .i64 b]] w fun e w' => e = .returned (.bool true) ∧ Below w.heap.size w w' := by
  have HT := Lib.hid ht
  have HK := Lib.hid (fun w => refKind_yes k hk w)
  have HHA := Lib.hid hA
  have HHU := Lib.hid hU
  have HHF := Lib.hid hF
  have HHG := Lib.hid hG
  have HHR := Lib.hid hR
  clear ht hk hA hU hF hG hR
  have hself : (v == v) = true := by simp
  have HH := Lib.hid (heap_top w (.cells #[.int .i64 k, .int .i64 op, .int .i64 a, .int .i64 b] 32))
  have HA := Lib.hid (((Below.refl w.heap.size w).alloc (Nat.le_refl _) (.cells #[.int .i64 k, .int .i64 op, .int .i64 a, .int .i64 b] 32)))
  go_enter Tryz.func4, Tryz.ntmps4
  go_wp2_with fail
  refine (HHA.out _).mono ?_
  rintro e w1 ⟨rfl, hb⟩
  have HB1 := Lib.hid (HA.out.trans (hb.mono HA.out.size))
  have hp0 := cell_keep hb ((cell_of_row _ _ 0 _ _ _ HH.out).trans (rfl : _ = some (Value.int .i64 k)))
  have hp1 := cell_keep hb ((cell_of_row _ _ 1 _ _ _ HH.out).trans (rfl : _ = some (Value.int .i64 op)))
  have hp2 := cell_keep hb ((cell_of_row _ _ 2 _ _ _ HH.out).trans (rfl : _ = some (Value.int .i64 a)))
  have hp3 := cell_keep hb ((cell_of_row _ _ 3 _ _ _ HH.out).trans (rfl : _ = some (Value.int .i64 b)))
  have HE1 := Lib.hid (And.intro hp0 (And.intro hp1 (And.intro hp2 hp3)))
  clear hb
  go_wp2_with fail
  refine (HHU.out _).mono ?_
  rintro e w2 ⟨rfl, hb⟩
  have HB2 := Lib.hid (HB1.out.trans (hb.mono HB1.out.size))
  clear hp0 hp1 hp2 hp3
  have hq0 := cell_keep hb HE1.out.1
  have hq1 := cell_keep hb HE1.out.2.1
  have hq2 := cell_keep hb HE1.out.2.2.1
  have hq3 := cell_keep hb HE1.out.2.2.2
  have HE2 := Lib.hid (And.intro hq0 (And.intro hq1 (And.intro hq2 hq3)))
  clear hb
  go_wp2_with fail
  refine (HK.out _).mono ?_
  rintro e w3 ⟨rfl, rfl⟩
  go_wp2_with fail
  refine (HHF.out _).mono ?_
  rintro e w4 ⟨rfl, rfl⟩
  go_wp2_with fail
  refine (HHR.out _).mono ?_
  rintro e w5 ⟨rfl, d, rfl⟩
  clear hq0 hq1 hq2 hq3
  have hr0 : (w2.drewN d).cell? _ = _ := HE2.out.1
  have hr1 : (w2.drewN d).cell? _ = _ := HE2.out.2.1
  have hr2 : (w2.drewN d).cell? _ = _ := HE2.out.2.2.1
  have hr3 : (w2.drewN d).cell? _ = _ := HE2.out.2.2.2
  have HBd := Lib.hid (below_drewN HB2.out d)
  go_wp2_with fail
  refine (HHG.out _).mono ?_
  rintro e w6 ⟨rfl, rfl⟩
  go_wp2_with fail
  refine (awake_any _ (HT.out.below HBd.out)).mono ?_
  rintro e w8 ⟨rfl, hb⟩
  have HB8 := Lib.hid (HBd.out.trans (hb.mono HBd.out.size))
  clear hb
  go_wp2_with fail
  go_ret
  exact ⟨rfl, HB8.out⟩
set_option maxRecDepth 100000 in
theorem form_ok (k op a b : Int) (u : Int) 
    (hA : ∀ w, Calls Tryz.prog 19 #[.int .i64 k, .int .i64 op, .int .i64 a, .int .i64 b] w fun e w' => e = .returned (.tuple #[.int .i64 0, .int .i64 2]) ∧ Below w.heap.size w w')
    (hU : ∀ w, Calls Tryz.prog 20 #[.int .i64 k, .int .i64 op, .int .i64 a] w fun e w' => e = .returned (.tuple #[.int .i64 u, .int .i64 0]) ∧ Below w.heap.size w w')
    (hF : ∀ w, Calls Tryz.prog 21 #[.int .i64 k, .int .i64 op] w fun e w' => e = .returned (.bool false) ∧ w = w')
    (hG : ∀ w, Calls Tryz.prog 23 #[.int .i64 k, .int .i64 op] w fun e w' => e = .returned (.bool true) ∧ w = w')
    (hV : ∀ w, Calls Tryz.prog 24 #[.int .i64 k, .int .i64 op, .int .i64 a] w fun e w' => e = .returned (.int .i64 u) ∧ w = w')
    (hk : kindB k = true) (w : World) (ht : TabN w) :
    Calls Tryz.prog 4 #[.agg #[.int .i64 k, .int .i64 op, .int .i64 a, .int .i64 b]] w fun e w' => e = .returned (.bool true) ∧ Below w.heap.size w w' := by
  have HT := Lib.hid ht
  have HK := Lib.hid (fun w => refKind_yes k hk w)
  have HHA := Lib.hid hA
  have HHU := Lib.hid hU
  have HHF := Lib.hid hF
  have HHG := Lib.hid hG
  have HHV := Lib.hid hV
  clear ht hk hA hU hF hG hV
  have hselfu : (u == u) = true := by simp
  have HH := Lib.hid (heap_top w (.cells #[.int .i64 k, .int .i64 op, .int .i64 a, .int .i64 b] 32))
  have HA := Lib.hid (((Below.refl w.heap.size w).alloc (Nat.le_refl _) (.cells #[.int .i64 k, .int .i64 op, .int .i64 a, .int .i64 b] 32)))
  go_enter Tryz.func4, Tryz.ntmps4
  go_wp2_with fail
  refine (HHA.out _).mono ?_
  rintro e w1 ⟨rfl, hb⟩
  have HB1 := Lib.hid (HA.out.trans (hb.mono HA.out.size))
  have hp0 := cell_keep hb ((cell_of_row _ _ 0 _ _ _ HH.out).trans (rfl : _ = some (Value.int .i64 k)))
  have hp1 := cell_keep hb ((cell_of_row _ _ 1 _ _ _ HH.out).trans (rfl : _ = some (Value.int .i64 op)))
  have hp2 := cell_keep hb ((cell_of_row _ _ 2 _ _ _ HH.out).trans (rfl : _ = some (Value.int .i64 a)))
  have hp3 := cell_keep hb ((cell_of_row _ _ 3 _ _ _ HH.out).trans (rfl : _ = some (Value.int .i64 b)))
  have HE1 := Lib.hid (And.intro hp0 (And.intro hp1 (And.intro hp2 hp3)))
  clear hb
  go_wp2_with fail
  refine (HHU.out _).mono ?_
  rintro e w2 ⟨rfl, hb⟩
  have HB2 := Lib.hid (HB1.out.trans (hb.mono HB1.out.size))
  clear hp0 hp1 hp2 hp3
  have hq0 := cell_keep hb HE1.out.1
  have hq1 := cell_keep hb HE1.out.2.1
  have hq2 := cell_keep hb HE1.out.2.2.1
  have hq3 := cell_keep hb HE1.out.2.2.2
  have HE2 := Lib.hid (And.intro hq0 (And.intro hq1 (And.intro hq2 hq3)))
  clear hb
  go_wp2_with fail
  refine (HK.out _).mono ?_
  rintro e w3 ⟨rfl, rfl⟩
  go_wp2_with fail
  refine (HHF.out _).mono ?_
  rintro e w4 ⟨rfl, rfl⟩
  go_wp2_with fail
  refine (HHG.out _).mono ?_
  rintro e w6 ⟨rfl, rfl⟩
  go_wp2_with fail
  refine (HHV.out _).mono ?_
  rintro e w7 ⟨rfl, rfl⟩
  go_wp2_with fail
  refine (awake_any _ (HT.out.below HB2.out)).mono ?_
  rintro e w8 ⟨rfl, hb⟩
  have HB8 := Lib.hid (HB2.out.trans (hb.mono HB2.out.size))
  clear hb
  go_wp2_with fail
  go_ret
  exact ⟨rfl, HB8.out⟩
theorem walk_k1 (op a b : Int) (a0 : -9223372036854775808 ≤ a) (a1 : a ≤ 9223372036854775807) (b0 : -9223372036854775808 ≤ b) (b1 : b ≤ 9223372036854775807) (w : World) (ht : TabN w) :
    Calls Tryz.prog 4 #[.agg #[.int .i64 1, .int .i64 op, .int .i64 a, .int .i64 b]] w fun e w' => e = .returned (.bool true) ∧ Below w.heap.size w w' := by
  have hx : 0 ≤ (a % 256) ∧ (a % 256) ≤ 255 := by omega
  have hy : 0 ≤ (b % 256) ∧ (b % 256) ≤ 255 := by omega
  by_cases hop : op < 0 ∨ 9 < op
  · by_cases h16 : op = 16
    · subst h16
      exact form_ok 1 16 a b _ (fun w => ar1_bad 16 a b (by decide) w) (fun w => un1_16 a w) (fun w => refFits1_no 16 (by decide) w) (fun w => refFitsU1_16 w) (fun w => refUn1_16 a w) (by decide) w ht
    by_cases h17 : op = 17
    · subst h17
      exact form_ok 1 17 a b _ (fun w => ar1_bad 17 a b (by decide) w) (fun w => un1_17 a w) (fun w => refFits1_no 17 (by decide) w) (fun w => refFitsU1_17 w) (fun w => refUn1_17 a w) (by decide) w ht
    by_cases h18 : op = 18
    · subst h18
      exact form_form 1 18 a b (fun w => ar1_bad 18 a b (by decide) w) (fun w => un1_18 a w) (fun w => refFits1_no 18 (by decide) w) (fun w => refFitsU1_18 w) (by decide) w ht
    exact form_form 1 op a b (fun w => ar1_bad op a b hop w) (fun w => un1_bad op a (by simpa using h16) (by simpa using h17) (by simpa using h18) w) (fun w => refFits1_no op hop w) (fun w => refFitsU_no 1 op (by simpa using h16) (by simpa using h17) (by simpa using h18) w) (by decide) w ht
  rcases (by omega : op = 0 ∨ op = 1 ∨ op = 2 ∨ op = 3 ∨ op = 4 ∨ op = 5 ∨ op = 6 ∨ op = 7 ∨ op = 8 ∨ op = 9) with rfl | rfl | rfl | rfl | rfl | rfl | rfl | rfl | rfl | rfl
  · exact ok_form 1 0 a b _ (fun w => ar1_0 a b w) (fun w => un1_bad 0 a (by decide) (by decide) (by decide) w) (fun w => refFits1_yes 0 (by decide) w) (fun w => refFitsU_no 1 0 (by decide) (by decide) (by decide) w) (fun w => (refAr_0 1 a b (fun n => n % 256) (by decide) (fun n w => refWrap1 n w) w).mono fun _ _ h => ⟨h.1, 0, h.2.symm⟩) (by decide) w ht
  · exact ok_form 1 1 a b _ (fun w => ar1_1 a b w) (fun w => un1_bad 1 a (by decide) (by decide) (by decide) w) (fun w => refFits1_yes 1 (by decide) w) (fun w => refFitsU_no 1 1 (by decide) (by decide) (by decide) w) (fun w => (refAr_1 1 a b (fun n => n % 256) (by decide) (fun n w => refWrap1 n w) w).mono fun _ _ h => ⟨h.1, 0, h.2.symm⟩) (by decide) w ht
  · exact ok_form 1 2 a b _ (fun w => ar1_2 a b w) (fun w => un1_bad 2 a (by decide) (by decide) (by decide) w) (fun w => refFits1_yes 2 (by decide) w) (fun w => refFitsU_no 1 2 (by decide) (by decide) (by decide) w) (fun w => (refAr_2 1 a b (fun n => n % 256) (by decide) (fun n w => refWrap1 n w) w).mono fun _ _ h => ⟨h.1, 0, h.2.symm⟩) (by decide) w ht
  · by_cases hz : (b % 256) = 0
    · exact range_form 1 3 a b (fun w => ar1_3z a b hz w) (fun w => un1_bad 3 a (by decide) (by decide) (by decide) w) (fun w => refFits1_yes 3 (by decide) w) (fun w => refFitsU_no 1 3 (by decide) (by decide) (by decide) w) (fun w => (refAr_3z 1 a b (fun n => n % 256) (by decide) (fun n w => refWrap1 n w) (by simpa using hz) w).mono fun _ _ h => ⟨h.1, 0, h.2.symm⟩) (by decide) w ht
    · by_cases hm : (b % 256) = -1
      · exact ok_form 1 3 a b _ (fun w => ar1_3 a b hz w) (fun w => un1_bad 3 a (by decide) (by decide) (by decide) w) (fun w => refFits1_yes 3 (by decide) w) (fun w => refFitsU_no 1 3 (by decide) (by decide) (by decide) w) (fun w => by
          have h' := refAr_3m 1 a b (fun n => n % 256) (by decide) (fun n w => refWrap1 n w) (by simpa using hz) (by simpa using hm) w
          have he := quo_m1 (a % 256) (b % 256) hm
          rw [he] at h'
          exact h'.mono fun _ _ h => ⟨h.1, 0, h.2.symm⟩) (by decide) w ht
      · exact ok_form 1 3 a b _ (fun w => ar1_3 a b hz w) (fun w => un1_bad 3 a (by decide) (by decide) (by decide) w) (fun w => refFits1_yes 3 (by decide) w) (fun w => refFitsU_no 1 3 (by decide) (by decide) (by decide) w) (fun w => by
          have h' := refAr_3 1 a b (fun n => n % 256) (by decide) (fun n w => refWrap1 n w) (by simpa using hz) (by simpa using hm) w
          have he := (rfl : wrap64 (((a % 256)).tdiv (b % 256)) = opI 3 (a % 256) (b % 256))
          rw [he] at h'
          exact h'.mono fun _ _ h => ⟨h.1, 0, h.2.symm⟩) (by decide) w ht
  · by_cases hz : (b % 256) = 0
    · exact range_form 1 4 a b (fun w => ar1_4z a b hz w) (fun w => un1_bad 4 a (by decide) (by decide) (by decide) w) (fun w => refFits1_yes 4 (by decide) w) (fun w => refFitsU_no 1 4 (by decide) (by decide) (by decide) w) (fun w => (refAr_4z 1 a b (fun n => n % 256) (by decide) (fun n w => refWrap1 n w) (by simpa using hz) w).mono fun _ _ h => ⟨h.1, 0, h.2.symm⟩) (by decide) w ht
    · by_cases hm : (b % 256) = -1
      · exact ok_form 1 4 a b _ (fun w => ar1_4 a b hz w) (fun w => un1_bad 4 a (by decide) (by decide) (by decide) w) (fun w => refFits1_yes 4 (by decide) w) (fun w => refFitsU_no 1 4 (by decide) (by decide) (by decide) w) (fun w => by
          have h' := refAr_4m 1 a b (fun n => n % 256) (by decide) (fun n w => refWrap1 n w) (by simpa using hz) (by simpa using hm) w
          have he := rest_m1 (a % 256) (b % 256) hm (by omega) (by omega)
          rw [he] at h'
          exact h'.mono fun _ _ h => ⟨h.1, 0, h.2.symm⟩) (by decide) w ht
      · exact ok_form 1 4 a b _ (fun w => ar1_4 a b hz w) (fun w => un1_bad 4 a (by decide) (by decide) (by decide) w) (fun w => refFits1_yes 4 (by decide) w) (fun w => refFitsU_no 1 4 (by decide) (by decide) (by decide) w) (fun w => by
          have h' := refAr_4 1 a b (fun n => n % 256) (by decide) (fun n w => refWrap1 n w) (by simpa using hz) (by simpa using hm) w
          have he := rest_any (a % 256) (b % 256) hz (by omega) (by omega)
          rw [he] at h'
          exact h'.mono fun _ _ h => ⟨h.1, 0, h.2.symm⟩) (by decide) w ht
  · exact ok_form 1 5 a b _ (fun w => ar1_5 a b w) (fun w => un1_bad 5 a (by decide) (by decide) (by decide) w) (fun w => refFits1_yes 5 (by decide) w) (fun w => refFitsU_no 1 5 (by decide) (by decide) (by decide) w) (fun w => (refAr_5 1 a b (fun n => n % 256) (by decide) (fun n w => refWrap1 n w) w).mono fun _ _ h => ⟨h.1, 0, h.2.symm⟩) (by decide) w ht
  · exact ok_form 1 6 a b _ (fun w => ar1_6 a b w) (fun w => un1_bad 6 a (by decide) (by decide) (by decide) w) (fun w => refFits1_yes 6 (by decide) w) (fun w => refFitsU_no 1 6 (by decide) (by decide) (by decide) w) (fun w => (refAr_6 1 a b (fun n => n % 256) (by decide) (fun n w => refWrap1 n w) w).mono fun _ _ h => ⟨h.1, 0, h.2.symm⟩) (by decide) w ht
  · exact ok_form 1 7 a b _ (fun w => ar1_7 a b w) (fun w => un1_bad 7 a (by decide) (by decide) (by decide) w) (fun w => refFits1_yes 7 (by decide) w) (fun w => refFitsU_no 1 7 (by decide) (by decide) (by decide) w) (fun w => (refAr_7 1 a b (fun n => n % 256) (by decide) (fun n w => refWrap1 n w) w).mono fun _ _ h => ⟨h.1, 0, h.2.symm⟩) (by decide) w ht
  · exact ok_form 1 8 a b _ (fun w => ar1_8 a b w) (fun w => un1_bad 8 a (by decide) (by decide) (by decide) w) (fun w => refFits1_yes 8 (by decide) w) (fun w => refFitsU_no 1 8 (by decide) (by decide) (by decide) w) (fun w => (refAr_8 1 a b (fun n => n % 256) (by decide) (fun n w => refWrap1 n w) _ (fun w => shl_k1 (a % 256) b hx.1 hx.2 w) w).mono fun _ _ h => ⟨h.1, 0, h.2.symm⟩) (by decide) w ht
  · exact ok_form 1 9 a b _ (fun w => ar1_9 a b w) (fun w => un1_bad 9 a (by decide) (by decide) (by decide) w) (fun w => refFits1_yes 9 (by decide) w) (fun w => refFitsU_no 1 9 (by decide) (by decide) (by decide) w) (fun w => (refAr_9 1 a b (fun n => n % 256) (by decide) (fun n w => refWrap1 n w) _ (fun w => shr_k1 (a % 256) b hx.1 hx.2 w) w).mono fun _ _ h => ⟨h.1, 0, h.2.symm⟩) (by decide) w ht
theorem walk_k2 (op a b : Int) (a0 : -9223372036854775808 ≤ a) (a1 : a ≤ 9223372036854775807) (b0 : -9223372036854775808 ≤ b) (b1 : b ≤ 9223372036854775807) (w : World) (ht : TabN w) :
    Calls Tryz.prog 4 #[.agg #[.int .i64 2, .int .i64 op, .int .i64 a, .int .i64 b]] w fun e w' => e = .returned (.bool true) ∧ Below w.heap.size w w' := by
  have hx : (-2147483648) ≤ (wrap32 a) ∧ (wrap32 a) ≤ 2147483647 := by unfold wrap32; omega
  have hy : (-2147483648) ≤ (wrap32 b) ∧ (wrap32 b) ≤ 2147483647 := by unfold wrap32; omega
  by_cases hop : op < 0 ∨ 9 < op
  · by_cases h16 : op = 16
    · subst h16
      exact form_ok 2 16 a b _ (fun w => ar2_bad 16 a b (by decide) w) (fun w => un2_16 a w) (fun w => refFits2_no 16 (by decide) w) (fun w => refFitsU2_16 w) (fun w => refUn2_16 a w) (by decide) w ht
    by_cases h17 : op = 17
    · subst h17
      exact form_ok 2 17 a b _ (fun w => ar2_bad 17 a b (by decide) w) (fun w => un2_17 a w) (fun w => refFits2_no 17 (by decide) w) (fun w => refFitsU2_17 w) (fun w => refUn2_17 a w) (by decide) w ht
    by_cases h18 : op = 18
    · subst h18
      exact form_ok 2 18 a b _ (fun w => ar2_bad 18 a b (by decide) w) (fun w => un2_18 a w) (fun w => refFits2_no 18 (by decide) w) (fun w => refFitsU2_18 w) (fun w => refUn2_18 a w) (by decide) w ht
    exact form_form 2 op a b (fun w => ar2_bad op a b hop w) (fun w => un2_bad op a (by simpa using h16) (by simpa using h17) (by simpa using h18) w) (fun w => refFits2_no op hop w) (fun w => refFitsU_no 2 op (by simpa using h16) (by simpa using h17) (by simpa using h18) w) (by decide) w ht
  rcases (by omega : op = 0 ∨ op = 1 ∨ op = 2 ∨ op = 3 ∨ op = 4 ∨ op = 5 ∨ op = 6 ∨ op = 7 ∨ op = 8 ∨ op = 9) with rfl | rfl | rfl | rfl | rfl | rfl | rfl | rfl | rfl | rfl
  · exact ok_form 2 0 a b _ (fun w => ar2_0 a b w) (fun w => un2_bad 0 a (by decide) (by decide) (by decide) w) (fun w => refFits2_yes 0 (by decide) w) (fun w => refFitsU_no 2 0 (by decide) (by decide) (by decide) w) (fun w => (refAr_0 2 a b wrap32 (by decide) (fun n w => refWrap2 n w) w).mono fun _ _ h => ⟨h.1, 0, h.2.symm⟩) (by decide) w ht
  · exact ok_form 2 1 a b _ (fun w => ar2_1 a b w) (fun w => un2_bad 1 a (by decide) (by decide) (by decide) w) (fun w => refFits2_yes 1 (by decide) w) (fun w => refFitsU_no 2 1 (by decide) (by decide) (by decide) w) (fun w => (refAr_1 2 a b wrap32 (by decide) (fun n w => refWrap2 n w) w).mono fun _ _ h => ⟨h.1, 0, h.2.symm⟩) (by decide) w ht
  · exact ok_form 2 2 a b _ (fun w => ar2_2 a b w) (fun w => un2_bad 2 a (by decide) (by decide) (by decide) w) (fun w => refFits2_yes 2 (by decide) w) (fun w => refFitsU_no 2 2 (by decide) (by decide) (by decide) w) (fun w => (refAr_2 2 a b wrap32 (by decide) (fun n w => refWrap2 n w) w).mono fun _ _ h => ⟨h.1, 0, h.2.symm⟩) (by decide) w ht
  · by_cases hz : (wrap32 b) = 0
    · exact range_form 2 3 a b (fun w => ar2_3z a b hz w) (fun w => un2_bad 3 a (by decide) (by decide) (by decide) w) (fun w => refFits2_yes 3 (by decide) w) (fun w => refFitsU_no 2 3 (by decide) (by decide) (by decide) w) (fun w => (refAr_3z 2 a b wrap32 (by decide) (fun n w => refWrap2 n w) (by simpa using hz) w).mono fun _ _ h => ⟨h.1, 0, h.2.symm⟩) (by decide) w ht
    · by_cases hm : (wrap32 b) = -1
      · exact ok_form 2 3 a b _ (fun w => ar2_3 a b hz w) (fun w => un2_bad 3 a (by decide) (by decide) (by decide) w) (fun w => refFits2_yes 3 (by decide) w) (fun w => refFitsU_no 2 3 (by decide) (by decide) (by decide) w) (fun w => by
          have h' := refAr_3m 2 a b wrap32 (by decide) (fun n w => refWrap2 n w) (by simpa using hz) (by simpa using hm) w
          have he := quo_m1 (wrap32 a) (wrap32 b) hm
          rw [he] at h'
          exact h'.mono fun _ _ h => ⟨h.1, 0, h.2.symm⟩) (by decide) w ht
      · exact ok_form 2 3 a b _ (fun w => ar2_3 a b hz w) (fun w => un2_bad 3 a (by decide) (by decide) (by decide) w) (fun w => refFits2_yes 3 (by decide) w) (fun w => refFitsU_no 2 3 (by decide) (by decide) (by decide) w) (fun w => by
          have h' := refAr_3 2 a b wrap32 (by decide) (fun n w => refWrap2 n w) (by simpa using hz) (by simpa using hm) w
          have he := (rfl : wrap64 (((wrap32 a)).tdiv (wrap32 b)) = opI 3 (wrap32 a) (wrap32 b))
          rw [he] at h'
          exact h'.mono fun _ _ h => ⟨h.1, 0, h.2.symm⟩) (by decide) w ht
  · by_cases hz : (wrap32 b) = 0
    · exact range_form 2 4 a b (fun w => ar2_4z a b hz w) (fun w => un2_bad 4 a (by decide) (by decide) (by decide) w) (fun w => refFits2_yes 4 (by decide) w) (fun w => refFitsU_no 2 4 (by decide) (by decide) (by decide) w) (fun w => (refAr_4z 2 a b wrap32 (by decide) (fun n w => refWrap2 n w) (by simpa using hz) w).mono fun _ _ h => ⟨h.1, 0, h.2.symm⟩) (by decide) w ht
    · by_cases hm : (wrap32 b) = -1
      · exact ok_form 2 4 a b _ (fun w => ar2_4 a b hz w) (fun w => un2_bad 4 a (by decide) (by decide) (by decide) w) (fun w => refFits2_yes 4 (by decide) w) (fun w => refFitsU_no 2 4 (by decide) (by decide) (by decide) w) (fun w => by
          have h' := refAr_4m 2 a b wrap32 (by decide) (fun n w => refWrap2 n w) (by simpa using hz) (by simpa using hm) w
          have he := rest_m1 (wrap32 a) (wrap32 b) hm (by omega) (by omega)
          rw [he] at h'
          exact h'.mono fun _ _ h => ⟨h.1, 0, h.2.symm⟩) (by decide) w ht
      · exact ok_form 2 4 a b _ (fun w => ar2_4 a b hz w) (fun w => un2_bad 4 a (by decide) (by decide) (by decide) w) (fun w => refFits2_yes 4 (by decide) w) (fun w => refFitsU_no 2 4 (by decide) (by decide) (by decide) w) (fun w => by
          have h' := refAr_4 2 a b wrap32 (by decide) (fun n w => refWrap2 n w) (by simpa using hz) (by simpa using hm) w
          have he := rest_any (wrap32 a) (wrap32 b) hz (by omega) (by omega)
          rw [he] at h'
          exact h'.mono fun _ _ h => ⟨h.1, 0, h.2.symm⟩) (by decide) w ht
  · exact ok_form 2 5 a b _ (fun w => ar2_5 a b w) (fun w => un2_bad 5 a (by decide) (by decide) (by decide) w) (fun w => refFits2_yes 5 (by decide) w) (fun w => refFitsU_no 2 5 (by decide) (by decide) (by decide) w) (fun w => (refAr_5 2 a b wrap32 (by decide) (fun n w => refWrap2 n w) w).mono fun _ _ h => ⟨h.1, 0, h.2.symm⟩) (by decide) w ht
  · exact ok_form 2 6 a b _ (fun w => ar2_6 a b w) (fun w => un2_bad 6 a (by decide) (by decide) (by decide) w) (fun w => refFits2_yes 6 (by decide) w) (fun w => refFitsU_no 2 6 (by decide) (by decide) (by decide) w) (fun w => (refAr_6 2 a b wrap32 (by decide) (fun n w => refWrap2 n w) w).mono fun _ _ h => ⟨h.1, 0, h.2.symm⟩) (by decide) w ht
  · exact ok_form 2 7 a b _ (fun w => ar2_7 a b w) (fun w => un2_bad 7 a (by decide) (by decide) (by decide) w) (fun w => refFits2_yes 7 (by decide) w) (fun w => refFitsU_no 2 7 (by decide) (by decide) (by decide) w) (fun w => (refAr_7 2 a b wrap32 (by decide) (fun n w => refWrap2 n w) w).mono fun _ _ h => ⟨h.1, 0, h.2.symm⟩) (by decide) w ht
  · exact ok_form 2 8 a b _ (fun w => ar2_8 a b w) (fun w => un2_bad 8 a (by decide) (by decide) (by decide) w) (fun w => refFits2_yes 8 (by decide) w) (fun w => refFitsU_no 2 8 (by decide) (by decide) (by decide) w) (fun w => (refAr_8 2 a b wrap32 (by decide) (fun n w => refWrap2 n w) _ (fun w => shl_k2 (wrap32 a) b hx.1 hx.2 w) w).mono fun _ _ h => ⟨h.1, 0, h.2.symm⟩) (by decide) w ht
  · exact ok_form 2 9 a b _ (fun w => ar2_9 a b w) (fun w => un2_bad 9 a (by decide) (by decide) (by decide) w) (fun w => refFits2_yes 9 (by decide) w) (fun w => refFitsU_no 2 9 (by decide) (by decide) (by decide) w) (fun w => (refAr_9 2 a b wrap32 (by decide) (fun n w => refWrap2 n w) _ (fun w => shr_k2 (wrap32 a) b hx.1 hx.2 w) w).mono fun _ _ h => ⟨h.1, 0, h.2.symm⟩) (by decide) w ht
theorem walk_k3 (op a b : Int) (a0 : -9223372036854775808 ≤ a) (a1 : a ≤ 9223372036854775807) (b0 : -9223372036854775808 ≤ b) (b1 : b ≤ 9223372036854775807) (w : World) (ht : TabN w) :
    Calls Tryz.prog 4 #[.agg #[.int .i64 3, .int .i64 op, .int .i64 a, .int .i64 b]] w fun e w' => e = .returned (.bool true) ∧ Below w.heap.size w w' := by
  have hx : (-9223372036854775808) ≤ a ∧ a ≤ 9223372036854775807 := by omega
  have hy : (-9223372036854775808) ≤ b ∧ b ≤ 9223372036854775807 := by omega
  by_cases hop : op < 0 ∨ 9 < op
  · by_cases h16 : op = 16
    · subst h16
      exact form_ok 3 16 a b _ (fun w => ar3_bad 16 a b (by decide) w) (fun w => un3_16 a w) (fun w => refFits3_no 16 (by decide) w) (fun w => refFitsU3_16 w) (fun w => refUn3_16 a w) (by decide) w ht
    by_cases h17 : op = 17
    · subst h17
      exact form_ok 3 17 a b _ (fun w => ar3_bad 17 a b (by decide) w) (fun w => un3_17 a w) (fun w => refFits3_no 17 (by decide) w) (fun w => refFitsU3_17 w) (fun w => refUn3_17 a w) (by decide) w ht
    by_cases h18 : op = 18
    · subst h18
      exact form_form 3 18 a b (fun w => ar3_bad 18 a b (by decide) w) (fun w => un3_18 a w) (fun w => refFits3_no 18 (by decide) w) (fun w => refFitsU3_18 w) (by decide) w ht
    exact form_form 3 op a b (fun w => ar3_bad op a b hop w) (fun w => un3_bad op a (by simpa using h16) (by simpa using h17) (by simpa using h18) w) (fun w => refFits3_no op hop w) (fun w => refFitsU_no 3 op (by simpa using h16) (by simpa using h17) (by simpa using h18) w) (by decide) w ht
  rcases (by omega : op = 0 ∨ op = 1 ∨ op = 2 ∨ op = 3 ∨ op = 4 ∨ op = 5 ∨ op = 6 ∨ op = 7 ∨ op = 8 ∨ op = 9) with rfl | rfl | rfl | rfl | rfl | rfl | rfl | rfl | rfl | rfl
  · exact ok_form 3 0 a b _ (fun w => ar3_0 a b w) (fun w => un3_bad 0 a (by decide) (by decide) (by decide) w) (fun w => refFits3_yes 0 (by decide) w) (fun w => refFitsU_no 3 0 (by decide) (by decide) (by decide) w) (fun w => (refAr_0 3 a b (fun n => n) (by decide) (fun n w => refWrap3 n w) w).mono fun _ _ h => ⟨h.1, 0, h.2.symm⟩) (by decide) w ht
  · exact ok_form 3 1 a b _ (fun w => ar3_1 a b w) (fun w => un3_bad 1 a (by decide) (by decide) (by decide) w) (fun w => refFits3_yes 1 (by decide) w) (fun w => refFitsU_no 3 1 (by decide) (by decide) (by decide) w) (fun w => (refAr_1 3 a b (fun n => n) (by decide) (fun n w => refWrap3 n w) w).mono fun _ _ h => ⟨h.1, 0, h.2.symm⟩) (by decide) w ht
  · exact ok_form 3 2 a b _ (fun w => ar3_2 a b w) (fun w => un3_bad 2 a (by decide) (by decide) (by decide) w) (fun w => refFits3_yes 2 (by decide) w) (fun w => refFitsU_no 3 2 (by decide) (by decide) (by decide) w) (fun w => (refAr_2 3 a b (fun n => n) (by decide) (fun n w => refWrap3 n w) w).mono fun _ _ h => ⟨h.1, 0, h.2.symm⟩) (by decide) w ht
  · by_cases hz : b = 0
    · subst hz
      exact range_form 3 3 a 0 (fun w => ar3_3z a w) (fun w => un3_bad 3 a (by decide) (by decide) (by decide) w) (fun w => refFits3_yes 3 (by decide) w) (fun w => refFitsU_no 3 3 (by decide) (by decide) (by decide) w) (fun w => (refAr_3z 3 a 0 (fun n => n) (by decide) (fun n w => refWrap3 n w) (by decide) w).mono fun _ _ h => ⟨h.1, 0, h.2.symm⟩) (by decide) w ht
    · by_cases hm : b = -1
      · exact ok_form 3 3 a b _ (fun w => ar3_3 a b hz w) (fun w => un3_bad 3 a (by decide) (by decide) (by decide) w) (fun w => refFits3_yes 3 (by decide) w) (fun w => refFitsU_no 3 3 (by decide) (by decide) (by decide) w) (fun w => by
          have h' := refAr_3m 3 a b (fun n => n) (by decide) (fun n w => refWrap3 n w) (by simpa using hz) (by simpa using hm) w
          have he := quo_m1 a b hm
          rw [he] at h'
          exact h'.mono fun _ _ h => ⟨h.1, 0, h.2.symm⟩) (by decide) w ht
      · exact ok_form 3 3 a b _ (fun w => ar3_3 a b hz w) (fun w => un3_bad 3 a (by decide) (by decide) (by decide) w) (fun w => refFits3_yes 3 (by decide) w) (fun w => refFitsU_no 3 3 (by decide) (by decide) (by decide) w) (fun w => by
          have h' := refAr_3 3 a b (fun n => n) (by decide) (fun n w => refWrap3 n w) (by simpa using hz) (by simpa using hm) w
          have he := (rfl : wrap64 ((a).tdiv b) = opI 3 a b)
          rw [he] at h'
          exact h'.mono fun _ _ h => ⟨h.1, 0, h.2.symm⟩) (by decide) w ht
  · by_cases hz : b = 0
    · subst hz
      exact range_form 3 4 a 0 (fun w => ar3_4z a w) (fun w => un3_bad 4 a (by decide) (by decide) (by decide) w) (fun w => refFits3_yes 4 (by decide) w) (fun w => refFitsU_no 3 4 (by decide) (by decide) (by decide) w) (fun w => (refAr_4z 3 a 0 (fun n => n) (by decide) (fun n w => refWrap3 n w) (by decide) w).mono fun _ _ h => ⟨h.1, 0, h.2.symm⟩) (by decide) w ht
    · by_cases hm : b = -1
      · exact ok_form 3 4 a b _ (fun w => ar3_4 a b hz w) (fun w => un3_bad 4 a (by decide) (by decide) (by decide) w) (fun w => refFits3_yes 4 (by decide) w) (fun w => refFitsU_no 3 4 (by decide) (by decide) (by decide) w) (fun w => by
          have h' := refAr_4m 3 a b (fun n => n) (by decide) (fun n w => refWrap3 n w) (by simpa using hz) (by simpa using hm) w
          have he := rest_m1 a b hm (by omega) (by omega)
          rw [he] at h'
          exact h'.mono fun _ _ h => ⟨h.1, 0, h.2.symm⟩) (by decide) w ht
      · exact ok_form 3 4 a b _ (fun w => ar3_4 a b hz w) (fun w => un3_bad 4 a (by decide) (by decide) (by decide) w) (fun w => refFits3_yes 4 (by decide) w) (fun w => refFitsU_no 3 4 (by decide) (by decide) (by decide) w) (fun w => by
          have h' := refAr_4 3 a b (fun n => n) (by decide) (fun n w => refWrap3 n w) (by simpa using hz) (by simpa using hm) w
          have he := rest_any a b hz (by omega) (by omega)
          rw [he] at h'
          exact h'.mono fun _ _ h => ⟨h.1, 0, h.2.symm⟩) (by decide) w ht
  · exact ok_form 3 5 a b _ (fun w => ar3_5 a b w) (fun w => un3_bad 5 a (by decide) (by decide) (by decide) w) (fun w => refFits3_yes 5 (by decide) w) (fun w => refFitsU_no 3 5 (by decide) (by decide) (by decide) w) (fun w => (refAr_5 3 a b (fun n => n) (by decide) (fun n w => refWrap3 n w) w).mono fun _ _ h => ⟨h.1, 0, h.2.symm⟩) (by decide) w ht
  · exact ok_form 3 6 a b _ (fun w => ar3_6 a b w) (fun w => un3_bad 6 a (by decide) (by decide) (by decide) w) (fun w => refFits3_yes 6 (by decide) w) (fun w => refFitsU_no 3 6 (by decide) (by decide) (by decide) w) (fun w => (refAr_6 3 a b (fun n => n) (by decide) (fun n w => refWrap3 n w) w).mono fun _ _ h => ⟨h.1, 0, h.2.symm⟩) (by decide) w ht
  · exact ok_form 3 7 a b _ (fun w => ar3_7 a b w) (fun w => un3_bad 7 a (by decide) (by decide) (by decide) w) (fun w => refFits3_yes 7 (by decide) w) (fun w => refFitsU_no 3 7 (by decide) (by decide) (by decide) w) (fun w => (refAr_7 3 a b (fun n => n) (by decide) (fun n w => refWrap3 n w) w).mono fun _ _ h => ⟨h.1, 0, h.2.symm⟩) (by decide) w ht
  · exact ok_form 3 8 a b _ (fun w => ar3_8 a b w) (fun w => un3_bad 8 a (by decide) (by decide) (by decide) w) (fun w => refFits3_yes 8 (by decide) w) (fun w => refFitsU_no 3 8 (by decide) (by decide) (by decide) w) (fun w => (refAr_8 3 a b (fun n => n) (by decide) (fun n w => refWrap3 n w) _ (fun w => shl_k3 a b hx.1 hx.2 w) w).mono fun _ _ h => ⟨h.1, 0, h.2.symm⟩) (by decide) w ht
  · exact ok_form 3 9 a b _ (fun w => ar3_9 a b w) (fun w => un3_bad 9 a (by decide) (by decide) (by decide) w) (fun w => refFits3_yes 9 (by decide) w) (fun w => refFitsU_no 3 9 (by decide) (by decide) (by decide) w) (fun w => (refAr_9 3 a b (fun n => n) (by decide) (fun n w => refWrap3 n w) _ (fun w => shr_k3 a b hx.1 hx.2 w) w).mono fun _ _ h => ⟨h.1, 0, h.2.symm⟩) (by decide) w ht
theorem walk_k4 (op a b : Int) (a0 : -9223372036854775808 ≤ a) (a1 : a ≤ 9223372036854775807) (b0 : -9223372036854775808 ≤ b) (b1 : b ≤ 9223372036854775807) (w : World) (ht : TabN w) :
    Calls Tryz.prog 4 #[.agg #[.int .i64 4, .int .i64 op, .int .i64 a, .int .i64 b]] w fun e w' => e = .returned (.bool true) ∧ Below w.heap.size w w' := by
  by_cases hop : op < 0 ∨ 9 < op
  · by_cases h16 : op = 16
    · subst h16
      exact form_ok 4 16 a b _ (fun w => ar4_bad 16 a b (by decide) w) (fun w => un4_16 a w) (fun w => refFits4_no 16 (by decide) w) (fun w => refFitsU4_16 w) (fun w => refUn4_16 a a0 a1 w) (by decide) w ht
    by_cases h17 : op = 17
    · subst h17
      exact form_form 4 17 a b (fun w => ar4_bad 17 a b (by decide) w) (fun w => un4_17 a w) (fun w => refFits4_no 17 (by decide) w) (fun w => refFitsU4_17 w) (by decide) w ht
    by_cases h18 : op = 18
    · subst h18
      exact form_form 4 18 a b (fun w => ar4_bad 18 a b (by decide) w) (fun w => un4_18 a w) (fun w => refFits4_no 18 (by decide) w) (fun w => refFitsU4_18 w) (by decide) w ht
    exact form_form 4 op a b (fun w => ar4_bad op a b hop w) (fun w => un4_bad op a (by simpa using h16) (by simpa using h17) (by simpa using h18) w) (fun w => refFits4_no op (by omega) w) (fun w => refFitsU_no 4 op (by simpa using h16) (by simpa using h17) (by simpa using h18) w) (by decide) w ht
  rcases (by omega : op = 0 ∨ op = 1 ∨ op = 2 ∨ op = 3 ∨ op = 4 ∨ op = 5 ∨ op = 6 ∨ op = 7 ∨ op = 8 ∨ op = 9) with rfl | rfl | rfl | rfl | rfl | rfl | rfl | rfl | rfl | rfl
  · exact ok_form 4 0 a b _ (fun w => by have h' := ar4_0 a b w; rw [arR_wrR] at h'; exact h') (fun w => un4_bad 0 a (by decide) (by decide) (by decide) w) (fun w => refFits4_yes 0 (by decide) w) (fun w => refFitsU_no 4 0 (by decide) (by decide) (by decide) w) (fun w => refArR_0 a b a0 a1 b0 b1 w) (by decide) w ht
  · exact ok_form 4 1 a b _ (fun w => by have h' := ar4_1 a b w; rw [arR_wrR] at h'; exact h') (fun w => un4_bad 1 a (by decide) (by decide) (by decide) w) (fun w => refFits4_yes 1 (by decide) w) (fun w => refFitsU_no 4 1 (by decide) (by decide) (by decide) w) (fun w => refArR_1 a b a0 a1 b0 b1 w) (by decide) w ht
  · exact ok_form 4 2 a b _ (fun w => by have h' := ar4_2 a b w; rw [arR_wrR] at h'; exact h') (fun w => un4_bad 2 a (by decide) (by decide) (by decide) w) (fun w => refFits4_yes 2 (by decide) w) (fun w => refFitsU_no 4 2 (by decide) (by decide) (by decide) w) (fun w => refArR_2 a b a0 a1 b0 b1 w) (by decide) w ht
  · exact ok_form 4 3 a b _ (fun w => by have h' := ar4_3 a b w; rw [arR_wrR] at h'; exact h') (fun w => un4_bad 3 a (by decide) (by decide) (by decide) w) (fun w => refFits4_yes 3 (by decide) w) (fun w => refFitsU_no 4 3 (by decide) (by decide) (by decide) w) (fun w => refArR_3 a b a0 a1 b0 b1 w) (by decide) w ht
  · exact form_form 4 4 a b (fun w => ar4_4 a b w) (fun w => un4_bad 4 a (by decide) (by decide) (by decide) w) (fun w => refFits4_no 4 (by decide) w) (fun w => refFitsU_no 4 4 (by decide) (by decide) (by decide) w) (by decide) w ht
  · exact form_form 4 5 a b (fun w => ar4_5 a b w) (fun w => un4_bad 5 a (by decide) (by decide) (by decide) w) (fun w => refFits4_no 5 (by decide) w) (fun w => refFitsU_no 4 5 (by decide) (by decide) (by decide) w) (by decide) w ht
  · exact form_form 4 6 a b (fun w => ar4_6 a b w) (fun w => un4_bad 6 a (by decide) (by decide) (by decide) w) (fun w => refFits4_no 6 (by decide) w) (fun w => refFitsU_no 4 6 (by decide) (by decide) (by decide) w) (by decide) w ht
  · exact form_form 4 7 a b (fun w => ar4_7 a b w) (fun w => un4_bad 7 a (by decide) (by decide) (by decide) w) (fun w => refFits4_no 7 (by decide) w) (fun w => refFitsU_no 4 7 (by decide) (by decide) (by decide) w) (by decide) w ht
  · exact form_form 4 8 a b (fun w => ar4_8 a b w) (fun w => un4_bad 8 a (by decide) (by decide) (by decide) w) (fun w => refFits4_no 8 (by decide) w) (fun w => refFitsU_no 4 8 (by decide) (by decide) (by decide) w) (by decide) w ht
  · exact form_form 4 9 a b (fun w => ar4_9 a b w) (fun w => un4_bad 9 a (by decide) (by decide) (by decide) w) (fun w => refFits4_no 9 (by decide) w) (fun w => refFitsU_no 4 9 (by decide) (by decide) (by decide) w) (by decide) w ht
theorem i64_of {n : Int} (h : (Lit.int .i64 n).wf = true) : -9223372036854775808 ≤ n ∧ n ≤ 9223372036854775807 := by
  simp [Lit.wf, IntKind.min, IntKind.max, IntKind.signed, IntKind.bits] at h; omega
theorem walk (k op a b : Int) (wk : (Lit.int .i64 k).wf = true) (wop : (Lit.int .i64 op).wf = true) (wa : (Lit.int .i64 a).wf = true) (wb : (Lit.int .i64 b).wf = true) (w : World) (ht : TabN w) :
    Calls Tryz.prog 4 #[.agg #[.int .i64 k, .int .i64 op, .int .i64 a, .int .i64 b]] w fun e w' => e = .returned (.bool true) ∧ Below w.heap.size w w' := by
  obtain ⟨a0, a1⟩ := i64_of wa
  obtain ⟨b0, b1⟩ := i64_of wb
  rcases Bool.eq_false_or_eq_true (kindB k) with hk | hk
  · have hk' := hk
    simp only [kindB, decide_eq_true_eq] at hk'
    rcases (by omega : k = 1 ∨ k = 2 ∨ k = 3 ∨ k = 4) with rfl | rfl | rfl | rfl
    · exact walk_k1 op a b a0 a1 b0 b1 w ht
    · exact walk_k2 op a b a0 a1 b0 b1 w ht
    · exact walk_k3 op a b a0 a1 b0 b1 w ht
    · exact walk_k4 op a b a0 a1 b0 b1 w ht
  · exact none_walk k op a b hk w ht

set_option maxRecDepth 100000 in
theorem lifted (os : Os) (started : os.Started) (H : Type) (enc : TypeId × Value → H) :
    ReturnsInHanded {} Tryz.checked os 4 .any (fun w args => (Rows.numberReckonsSpec.pre enc Tryz.prog Tryz.f4 [] false w args ∧ laidMetH Tryz.prog laidN w) ∧ sizedMet enc Tryz.prog Tryz.f4 (OpenSpec.ofChange Rows.numberReckonsSpec) false w args)
      (Rows.numberReckonsSpec.post enc Tryz.prog Tryz.f4 false true false false) := by
  refine returnsInHanded_and_shaped (C := Tryz.checked) (X := fun w _ => laidMetH Tryz.prog laidN w) (fun _ _ _ hh h => h.of_heap hh) own started (by kernel_rfl) Tryz.func4
    (ChangeSpec.witness_shaped (enc := enc) (C := Tryz.checked) (os := os) (X := fun w _ => laidMetH Tryz.prog laidN w) false (World.laidAll Tryz.prog os laidN) #[.agg #[.int .i64 0, .int .i64 0, .int .i64 0, .int .i64 0]] 8 (World.laidAll_os _ _ _) (shaped_all os _) (by kernel_rfl) (by kernel_rfl) (by kernel_rfl) (met_all os _)) ?_
  intro W base args ds gs before hval0 hW hL hSh
  have hval : ∀ (j : Nat) t v, Tryz.f4.params[j]? = some t → args[j]? = some v → Value.okWide Tryz.prog W .any base t v := hval0
  have hW' := hW
  obtain ⟨p, q, hA0, hV, rfl, hfz, hnd⟩ := hW
  have hA : DataW.TrodAll enc Tryz.prog W 0 (fun _ => true) true Tryz.f4.params.toList args.toList ds p := hA0
  rw [Tryz.params4] at hA hval
  obtain ⟨v0, d0, rfl, rfl, h0⟩ := trodAll_one hA
  obtain ⟨rfl, rfl⟩ := trodVars_none hV
  have g0 := h0
  obtain ⟨c0, c1, c2, c3, y0, y1, y2, y3, m0, rfl, rfl, rfl, e0, e1, e2, e3⟩ := Go.Joins.open_agg4 Tryz.underlying32 (by kernel_rfl) (by kernel_rfl) (hval 0 32 _ rfl rfl) h0
  obtain ⟨x0, q0, rfl, w0⟩ := DataW.trod_int Tryz.underlying3 e0
  obtain ⟨x1, q1, rfl, w1⟩ := DataW.trod_int Tryz.underlying3 e1
  obtain ⟨x2, q2, rfl, w2⟩ := DataW.trod_int Tryz.underlying2 e2
  obtain ⟨x3, q3, rfl, w3⟩ := DataW.trod_int Tryz.underlying2 e3
  obtain rfl := (List.cons.inj q0).1
  obtain rfl := (List.cons.inj q1).1
  obtain rfl := (List.cons.inj q2).1
  obtain rfl := (List.cons.inj q3).1
  clear hA0 hval0
  have ht := of_laid hSh hL
  simp only [List.append_nil] at hW'
  refine (walk x0 x1 x2 x3 w0 w1 w2 w3 W ht).mono fun e W' ⟨he, bel⟩ => ?_
  subst he
  exact ⟨_, rfl, _, _, _, [], _, [], hW', trodAll_mk1 (shut_bool Tryz.underlying4 _), (trodAll_mk1 (Below.trod laidOut (by kernel_rfl) (of_decide_eq_true (by kernel_rfl)) g0 bel (by intro x hx; simp at hx))), rfl, bel.frame _, fun h => by cases h⟩

set_option maxHeartbeats 16000000 in
set_option maxRecDepth 100000 in
theorem joined : joinedFacts Tryz.prog 4 Tryz.f4 Rows.numberReckonsSpec Rows.numberReckonsRow = true := by
  unfold joinedFacts
  simp only [Bool.and_eq_true]
  repeat' apply And.intro
  all_goals as_aux_lemma => kernel_rfl
theorem over : Rows.numberReckonsRow.holds Tryz.pinned (OpenSpec.ofChange Rows.numberReckonsSpec) :=
  OpenClaim.holds_of_wide 4 Tryz.f4 rfl rfl rfl rfl rfl rfl rfl ⟨rfl, rfl, rfl, rfl, rfl⟩ rfl rfl rfl rfl rfl (by kernel_rfl) Tryz.func4 joined
    (of_decide_eq_true (by kernel_rfl)) (by unfold Func.isWrapper; first | (rw [if_pos (by decide +kernel)]; kernel_rfl) | (rw [if_neg (by decide +kernel)]; exact ⟨rfl, rfl⟩))
    (fun os started H enc _ => lifted os started H enc)

theorem card_holds : Rows.NumberReckonsCardSaid :=
  Claim7.holds_tied_plain_at .later [] [.data, .data, .widerDeep, .widerDeep, .data, .data, .data, .data, .data, .data, .sentinel, .sentinel, .pinned, .pinned, .pinned] true (true, "64b06c7202077d118462950218fe2974fddba9497f2cf52520b628f8eed59e5b") true
    over (fun _ h => by cases h) (by kernel_rfl) (fun _ h => by cases h) numberReckons_row_tie rfl ⟨rfl, rfl⟩ (by kernel_rfl) rfl
    (fun f fn hf hfn => by
      obtain rfl : f = 4 := Option.some.inj ((show Tryz.prog.funcNamed "acheron/acheronlaw04.NumberReckons" = some 4 by kernel_rfl).symm.trans hf) |>.symm
      obtain rfl : fn = Tryz.f4 := (Option.some.inj (Tryz.func4.symm.trans hfn)).symm
      exact ⟨by kernel_rfl, fun j t ht => by
        rw [Tryz.params4] at ht
        have hm : t ∈ [32] := by have := Array.mem_of_getElem? ht; simp at this ⊢; omega
        have hall : ([32].all fun u => !Tryz.prog.wantsStandIn u) = true := by kernel_rfl
        exact (show Tryz.prog.wantsStandIn t = false by simpa using List.all_eq_true.1 hall t hm)⟩)
    (by kernel_rfl)
end Go.Proofs.YthbmdlihfocbmaaGreatDoor.numberReckons

