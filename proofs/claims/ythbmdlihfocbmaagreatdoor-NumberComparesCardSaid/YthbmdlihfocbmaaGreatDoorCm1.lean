/-
  number.Compare of kind 1.
-/
import Derived.Test.YthbmdlihfocbmaaGreatDoorCmpA
set_option linter.unusedVariables false
namespace Go.Proofs.YthbmdlihfocbmaaGreatDoor
open Go.RowKit

set_option maxRecDepth 100000 in
theorem cm1_bad (op a b : Int) (hop : op < 10 ∨ 15 < op) (w : World) :
    Calls Tryz.prog 25 #[.int .i64 1, .int .i64 op, .int .i64 a, .int .i64 b] w fun e w' => e = .returned (.tuple #[.bool false, .int .i64 2]) ∧ Below w.heap.size w w' := by
  have HT := Lib.hid (table_yes 1 (by decide) (by decide) w)
  rcases hop with hop | hop
  all_goals
    go_enter Tryz.func25, Tryz.ntmps25
    go_wp2_with fail
    refine HT.out.mono ?_
    rintro e w1 ⟨rfl, hb⟩
    have HB := Lib.hid hb
    clear hb
    unfold tblV
    go_wp2_with (first
      | (refine wpList_store_row rfl 62 _ _ rfl w1.heap.size (tabV 1) rfl rfl 62 zero21 ?z1 ?z2 ?z3 ?z4 ?_; (case z1 => exact heap_top _ _); (case z2 => rw [tabV_size]; exact info62); (case z3 => rw [tabV_size]; rfl); (case z4 => exact tabV_one 1)))
    all_goals first
      | (go_ret2; exact ⟨rfl, below_setRow (HB.out.alloc HB.out.size _) HB.out.size _⟩)
      | (exfalso; omega)

set_option maxRecDepth 100000 in
set_option maxHeartbeats 1000000 in
theorem cm1_10 (a b : Int) (w : World) :
    Calls Tryz.prog 25 #[.int .i64 1, .int .i64 10, .int .i64 a, .int .i64 b] w fun e w' => e = .returned (.tuple #[.bool (cmpI 10 (a % 256) (b % 256)), .int .i64 0]) ∧ Below w.heap.size w w' := by
  have HT := Lib.hid (table_yes 1 (by decide) (by decide) w)
  go_enter Tryz.func25, Tryz.ntmps25
  go_wp2_with fail
  refine HT.out.mono ?_
  rintro e w1 ⟨rfl, hb⟩
  have HB := Lib.hid hb
  clear hb
  have HK := Lib.hid (setRow_heap _ _ _ (tabV 1) _ _ (heap_top w1 (.cells #[.int .i64 0, .int .i64 0, .nilFunc, .nilFunc, .nilFunc, .nilFunc, .nilFunc, .nilFunc, .nilFunc, .nilFunc, .nilFunc, .nilFunc, .nilFunc, .nilFunc, .nilFunc, .nilFunc, .nilFunc, .nilFunc, .nilFunc, .nilFunc, .nilFunc] 62)))
  have hc2 : _ = some (Value.func (.func 59) #[] #[]) := (cell_of_row _ _ 2 _ _ _ HK.out).trans rfl
  have hc16 : _ = some (Value.func (.func 72) #[] #[]) := (cell_of_row _ _ 16 _ _ _ HK.out).trans rfl
  unfold tblV
  go_wp2_with (first
    | (refine wpList_store_row rfl 62 _ _ rfl w1.heap.size (tabV 1) rfl rfl 62 zero21 ?z1 ?z2 ?z3 ?z4 ?_; (case z1 => exact heap_top _ _); (case z2 => rw [tabV_size]; exact info62); (case z3 => rw [tabV_size]; rfl); (case z4 => exact tabV_one 1)))
  go_quiet ((first | (go_at_call 59; exact Calls.quiet_of_same ((wrap1_any _ _).mono fun _ _ h => ⟨h.1, h.2.symm⟩)) | (go_at_call 72; exact Calls.quiet_of_same ((holdsI10 _ _ _).mono fun _ _ h => ⟨h.1, h.2.symm⟩))))
  go_wp2
  go_ret2
  exact ⟨rfl, below_drewN (below_setRow (HB.out.alloc HB.out.size _) HB.out.size _) _⟩

set_option maxRecDepth 100000 in
set_option maxHeartbeats 1000000 in
theorem cm1_11 (a b : Int) (w : World) :
    Calls Tryz.prog 25 #[.int .i64 1, .int .i64 11, .int .i64 a, .int .i64 b] w fun e w' => e = .returned (.tuple #[.bool (cmpI 11 (a % 256) (b % 256)), .int .i64 0]) ∧ Below w.heap.size w w' := by
  have HT := Lib.hid (table_yes 1 (by decide) (by decide) w)
  go_enter Tryz.func25, Tryz.ntmps25
  go_wp2_with fail
  refine HT.out.mono ?_
  rintro e w1 ⟨rfl, hb⟩
  have HB := Lib.hid hb
  clear hb
  have HK := Lib.hid (setRow_heap _ _ _ (tabV 1) _ _ (heap_top w1 (.cells #[.int .i64 0, .int .i64 0, .nilFunc, .nilFunc, .nilFunc, .nilFunc, .nilFunc, .nilFunc, .nilFunc, .nilFunc, .nilFunc, .nilFunc, .nilFunc, .nilFunc, .nilFunc, .nilFunc, .nilFunc, .nilFunc, .nilFunc, .nilFunc, .nilFunc] 62)))
  have hc2 : _ = some (Value.func (.func 59) #[] #[]) := (cell_of_row _ _ 2 _ _ _ HK.out).trans rfl
  have hc16 : _ = some (Value.func (.func 72) #[] #[]) := (cell_of_row _ _ 16 _ _ _ HK.out).trans rfl
  unfold tblV
  go_wp2_with (first
    | (refine wpList_store_row rfl 62 _ _ rfl w1.heap.size (tabV 1) rfl rfl 62 zero21 ?z1 ?z2 ?z3 ?z4 ?_; (case z1 => exact heap_top _ _); (case z2 => rw [tabV_size]; exact info62); (case z3 => rw [tabV_size]; rfl); (case z4 => exact tabV_one 1)))
  go_quiet ((first | (go_at_call 59; exact Calls.quiet_of_same ((wrap1_any _ _).mono fun _ _ h => ⟨h.1, h.2.symm⟩)) | (go_at_call 72; exact Calls.quiet_of_same ((holdsI11 _ _ _).mono fun _ _ h => ⟨h.1, h.2.symm⟩))))
  go_wp2
  go_ret2
  exact ⟨rfl, below_drewN (below_setRow (HB.out.alloc HB.out.size _) HB.out.size _) _⟩

set_option maxRecDepth 100000 in
set_option maxHeartbeats 1000000 in
theorem cm1_12 (a b : Int) (w : World) :
    Calls Tryz.prog 25 #[.int .i64 1, .int .i64 12, .int .i64 a, .int .i64 b] w fun e w' => e = .returned (.tuple #[.bool (cmpI 12 (a % 256) (b % 256)), .int .i64 0]) ∧ Below w.heap.size w w' := by
  have HT := Lib.hid (table_yes 1 (by decide) (by decide) w)
  go_enter Tryz.func25, Tryz.ntmps25
  go_wp2_with fail
  refine HT.out.mono ?_
  rintro e w1 ⟨rfl, hb⟩
  have HB := Lib.hid hb
  clear hb
  have HK := Lib.hid (setRow_heap _ _ _ (tabV 1) _ _ (heap_top w1 (.cells #[.int .i64 0, .int .i64 0, .nilFunc, .nilFunc, .nilFunc, .nilFunc, .nilFunc, .nilFunc, .nilFunc, .nilFunc, .nilFunc, .nilFunc, .nilFunc, .nilFunc, .nilFunc, .nilFunc, .nilFunc, .nilFunc, .nilFunc, .nilFunc, .nilFunc] 62)))
  have hc2 : _ = some (Value.func (.func 59) #[] #[]) := (cell_of_row _ _ 2 _ _ _ HK.out).trans rfl
  have hc16 : _ = some (Value.func (.func 72) #[] #[]) := (cell_of_row _ _ 16 _ _ _ HK.out).trans rfl
  unfold tblV
  go_wp2_with (first
    | (refine wpList_store_row rfl 62 _ _ rfl w1.heap.size (tabV 1) rfl rfl 62 zero21 ?z1 ?z2 ?z3 ?z4 ?_; (case z1 => exact heap_top _ _); (case z2 => rw [tabV_size]; exact info62); (case z3 => rw [tabV_size]; rfl); (case z4 => exact tabV_one 1)))
  go_quiet ((first | (go_at_call 59; exact Calls.quiet_of_same ((wrap1_any _ _).mono fun _ _ h => ⟨h.1, h.2.symm⟩)) | (go_at_call 72; exact Calls.quiet_of_same ((holdsI12 _ _ _).mono fun _ _ h => ⟨h.1, h.2.symm⟩))))
  go_wp2
  go_ret2
  exact ⟨rfl, below_drewN (below_setRow (HB.out.alloc HB.out.size _) HB.out.size _) _⟩

set_option maxRecDepth 100000 in
set_option maxHeartbeats 1000000 in
theorem cm1_13 (a b : Int) (w : World) :
    Calls Tryz.prog 25 #[.int .i64 1, .int .i64 13, .int .i64 a, .int .i64 b] w fun e w' => e = .returned (.tuple #[.bool (cmpI 13 (a % 256) (b % 256)), .int .i64 0]) ∧ Below w.heap.size w w' := by
  have HT := Lib.hid (table_yes 1 (by decide) (by decide) w)
  go_enter Tryz.func25, Tryz.ntmps25
  go_wp2_with fail
  refine HT.out.mono ?_
  rintro e w1 ⟨rfl, hb⟩
  have HB := Lib.hid hb
  clear hb
  have HK := Lib.hid (setRow_heap _ _ _ (tabV 1) _ _ (heap_top w1 (.cells #[.int .i64 0, .int .i64 0, .nilFunc, .nilFunc, .nilFunc, .nilFunc, .nilFunc, .nilFunc, .nilFunc, .nilFunc, .nilFunc, .nilFunc, .nilFunc, .nilFunc, .nilFunc, .nilFunc, .nilFunc, .nilFunc, .nilFunc, .nilFunc, .nilFunc] 62)))
  have hc2 : _ = some (Value.func (.func 59) #[] #[]) := (cell_of_row _ _ 2 _ _ _ HK.out).trans rfl
  have hc16 : _ = some (Value.func (.func 72) #[] #[]) := (cell_of_row _ _ 16 _ _ _ HK.out).trans rfl
  unfold tblV
  go_wp2_with (first
    | (refine wpList_store_row rfl 62 _ _ rfl w1.heap.size (tabV 1) rfl rfl 62 zero21 ?z1 ?z2 ?z3 ?z4 ?_; (case z1 => exact heap_top _ _); (case z2 => rw [tabV_size]; exact info62); (case z3 => rw [tabV_size]; rfl); (case z4 => exact tabV_one 1)))
  go_quiet ((first | (go_at_call 59; exact Calls.quiet_of_same ((wrap1_any _ _).mono fun _ _ h => ⟨h.1, h.2.symm⟩)) | (go_at_call 72; exact Calls.quiet_of_same ((holdsI13 _ _ _).mono fun _ _ h => ⟨h.1, h.2.symm⟩))))
  go_wp2
  go_ret2
  exact ⟨rfl, below_drewN (below_setRow (HB.out.alloc HB.out.size _) HB.out.size _) _⟩

set_option maxRecDepth 100000 in
set_option maxHeartbeats 1000000 in
theorem cm1_14 (a b : Int) (w : World) :
    Calls Tryz.prog 25 #[.int .i64 1, .int .i64 14, .int .i64 a, .int .i64 b] w fun e w' => e = .returned (.tuple #[.bool (cmpI 14 (a % 256) (b % 256)), .int .i64 0]) ∧ Below w.heap.size w w' := by
  have HT := Lib.hid (table_yes 1 (by decide) (by decide) w)
  go_enter Tryz.func25, Tryz.ntmps25
  go_wp2_with fail
  refine HT.out.mono ?_
  rintro e w1 ⟨rfl, hb⟩
  have HB := Lib.hid hb
  clear hb
  have HK := Lib.hid (setRow_heap _ _ _ (tabV 1) _ _ (heap_top w1 (.cells #[.int .i64 0, .int .i64 0, .nilFunc, .nilFunc, .nilFunc, .nilFunc, .nilFunc, .nilFunc, .nilFunc, .nilFunc, .nilFunc, .nilFunc, .nilFunc, .nilFunc, .nilFunc, .nilFunc, .nilFunc, .nilFunc, .nilFunc, .nilFunc, .nilFunc] 62)))
  have hc2 : _ = some (Value.func (.func 59) #[] #[]) := (cell_of_row _ _ 2 _ _ _ HK.out).trans rfl
  have hc16 : _ = some (Value.func (.func 72) #[] #[]) := (cell_of_row _ _ 16 _ _ _ HK.out).trans rfl
  unfold tblV
  go_wp2_with (first
    | (refine wpList_store_row rfl 62 _ _ rfl w1.heap.size (tabV 1) rfl rfl 62 zero21 ?z1 ?z2 ?z3 ?z4 ?_; (case z1 => exact heap_top _ _); (case z2 => rw [tabV_size]; exact info62); (case z3 => rw [tabV_size]; rfl); (case z4 => exact tabV_one 1)))
  go_quiet ((first | (go_at_call 59; exact Calls.quiet_of_same ((wrap1_any _ _).mono fun _ _ h => ⟨h.1, h.2.symm⟩)) | (go_at_call 72; exact Calls.quiet_of_same ((holdsI14 _ _ _).mono fun _ _ h => ⟨h.1, h.2.symm⟩))))
  go_wp2
  go_ret2
  exact ⟨rfl, below_drewN (below_setRow (HB.out.alloc HB.out.size _) HB.out.size _) _⟩

set_option maxRecDepth 100000 in
set_option maxHeartbeats 1000000 in
theorem cm1_15 (a b : Int) (w : World) :
    Calls Tryz.prog 25 #[.int .i64 1, .int .i64 15, .int .i64 a, .int .i64 b] w fun e w' => e = .returned (.tuple #[.bool (cmpI 15 (a % 256) (b % 256)), .int .i64 0]) ∧ Below w.heap.size w w' := by
  have HT := Lib.hid (table_yes 1 (by decide) (by decide) w)
  go_enter Tryz.func25, Tryz.ntmps25
  go_wp2_with fail
  refine HT.out.mono ?_
  rintro e w1 ⟨rfl, hb⟩
  have HB := Lib.hid hb
  clear hb
  have HK := Lib.hid (setRow_heap _ _ _ (tabV 1) _ _ (heap_top w1 (.cells #[.int .i64 0, .int .i64 0, .nilFunc, .nilFunc, .nilFunc, .nilFunc, .nilFunc, .nilFunc, .nilFunc, .nilFunc, .nilFunc, .nilFunc, .nilFunc, .nilFunc, .nilFunc, .nilFunc, .nilFunc, .nilFunc, .nilFunc, .nilFunc, .nilFunc] 62)))
  have hc2 : _ = some (Value.func (.func 59) #[] #[]) := (cell_of_row _ _ 2 _ _ _ HK.out).trans rfl
  have hc16 : _ = some (Value.func (.func 72) #[] #[]) := (cell_of_row _ _ 16 _ _ _ HK.out).trans rfl
  unfold tblV
  go_wp2_with (first
    | (refine wpList_store_row rfl 62 _ _ rfl w1.heap.size (tabV 1) rfl rfl 62 zero21 ?z1 ?z2 ?z3 ?z4 ?_; (case z1 => exact heap_top _ _); (case z2 => rw [tabV_size]; exact info62); (case z3 => rw [tabV_size]; rfl); (case z4 => exact tabV_one 1)))
  go_quiet ((first | (go_at_call 59; exact Calls.quiet_of_same ((wrap1_any _ _).mono fun _ _ h => ⟨h.1, h.2.symm⟩)) | (go_at_call 72; exact Calls.quiet_of_same ((holdsI15 _ _ _).mono fun _ _ h => ⟨h.1, h.2.symm⟩))))
  go_wp2
  go_ret2
  exact ⟨rfl, below_drewN (below_setRow (HB.out.alloc HB.out.size _) HB.out.size _) _⟩

end Go.Proofs.YthbmdlihfocbmaaGreatDoor
