/-
  number.Arith for the integers of kind 1.
-/
import Derived.Test.YtpgfogfejemojaaGreatDoorOps4
set_option linter.unusedVariables false
namespace Go.Proofs.YtpgfogfejemojaaGreatDoor
open Go.RowKit

theorem run_fn_nil (F : FuncId) (w : World) : (binOp .eql 55 (.func (.func F) #[] #[]) .nilFunc).run Tryz.prog w = .ok (.bool false) w := by kernel_rfl
theorem run_nil_nil (w : World) : (binOp .eql 55 .nilFunc .nilFunc).run Tryz.prog w = .ok (.bool true) w := by kernel_rfl

set_option maxRecDepth 100000 in
set_option maxHeartbeats 1000000 in
theorem ar1_0 (a b : Int) (w : World) :
    Calls Tryz.prog 19 #[.int .i64 1, .int .i64 0, .int .i64 a, .int .i64 b] w fun e w' => e = .returned (.tuple #[.int .i64 ((opI 0 (a % 256) (b % 256)) % 256), .int .i64 0]) ∧ Below w.heap.size w w' := by
  have HT := Lib.hid (table_yes 1 (by decide) (by decide) w)
  rcases Bool.eq_false_or_eq_true ((b % 256) == 0) with hb1 | hb1
  all_goals
    go_enter Tryz.func19, Tryz.ntmps19
    go_wp2_with fail
    refine HT.out.mono ?_
    rintro e w1 ⟨rfl, hb⟩
    have HB := Lib.hid hb
    clear hb
    have HK := Lib.hid (setRow_heap _ _ _ (tabV 1) _ _ (heap_top w1 (.cells #[.int .i64 0, .int .i64 0, .nilFunc, .nilFunc, .nilFunc, .nilFunc, .nilFunc, .nilFunc, .nilFunc, .nilFunc, .nilFunc, .nilFunc, .nilFunc, .nilFunc, .nilFunc, .nilFunc, .nilFunc, .nilFunc, .nilFunc, .nilFunc, .nilFunc] 62)))
    have hc2 : _ = some (Value.func (.func 59) #[] #[]) := (cell_of_row _ _ 2 _ _ _ HK.out).trans rfl
    have hc3 : _ = some (Value.func (.func 60) #[] #[]) := (cell_of_row _ _ 3 _ _ _ HK.out).trans rfl
    have he := run_fn_nil
    unfold tblV
    go_wp2_with (first
      | (refine wpList_store_row rfl 62 _ _ rfl w1.heap.size (tabV 1) rfl rfl 62 zero21 ?z1 ?z2 ?z3 ?z4 ?_; (case z1 => exact heap_top _ _); (case z2 => rw [tabV_size]; exact info62); (case z3 => rw [tabV_size]; rfl); (case z4 => exact tabV_one 1))
      | (go_at_call 59; refine (wrap1_any _ _).mono ?_; rintro e w' ⟨rfl, rfl⟩))
    go_quiet ((first | (go_at_call 59; exact Calls.quiet_of_same ((wrap1_any _ _).mono fun _ _ h => ⟨h.1, h.2.symm⟩)) | (go_at_call 60; exact Calls.quiet_of_same ((op0_any _ _ _).mono fun _ _ h => ⟨h.1, h.2.symm⟩))))
    go_wp2
    go_ret2
    exact ⟨rfl, below_drewN (below_setRow (HB.out.alloc HB.out.size _) HB.out.size _) _⟩

set_option maxRecDepth 100000 in
set_option maxHeartbeats 1000000 in
theorem ar1_1 (a b : Int) (w : World) :
    Calls Tryz.prog 19 #[.int .i64 1, .int .i64 1, .int .i64 a, .int .i64 b] w fun e w' => e = .returned (.tuple #[.int .i64 ((opI 1 (a % 256) (b % 256)) % 256), .int .i64 0]) ∧ Below w.heap.size w w' := by
  have HT := Lib.hid (table_yes 1 (by decide) (by decide) w)
  rcases Bool.eq_false_or_eq_true ((b % 256) == 0) with hb1 | hb1
  all_goals
    go_enter Tryz.func19, Tryz.ntmps19
    go_wp2_with fail
    refine HT.out.mono ?_
    rintro e w1 ⟨rfl, hb⟩
    have HB := Lib.hid hb
    clear hb
    have HK := Lib.hid (setRow_heap _ _ _ (tabV 1) _ _ (heap_top w1 (.cells #[.int .i64 0, .int .i64 0, .nilFunc, .nilFunc, .nilFunc, .nilFunc, .nilFunc, .nilFunc, .nilFunc, .nilFunc, .nilFunc, .nilFunc, .nilFunc, .nilFunc, .nilFunc, .nilFunc, .nilFunc, .nilFunc, .nilFunc, .nilFunc, .nilFunc] 62)))
    have hc2 : _ = some (Value.func (.func 59) #[] #[]) := (cell_of_row _ _ 2 _ _ _ HK.out).trans rfl
    have hc3 : _ = some (Value.func (.func 61) #[] #[]) := (cell_of_row _ _ 4 _ _ _ HK.out).trans rfl
    have he := run_fn_nil
    unfold tblV
    go_wp2_with (first
      | (refine wpList_store_row rfl 62 _ _ rfl w1.heap.size (tabV 1) rfl rfl 62 zero21 ?z1 ?z2 ?z3 ?z4 ?_; (case z1 => exact heap_top _ _); (case z2 => rw [tabV_size]; exact info62); (case z3 => rw [tabV_size]; rfl); (case z4 => exact tabV_one 1))
      | (go_at_call 59; refine (wrap1_any _ _).mono ?_; rintro e w' ⟨rfl, rfl⟩))
    go_quiet ((first | (go_at_call 59; exact Calls.quiet_of_same ((wrap1_any _ _).mono fun _ _ h => ⟨h.1, h.2.symm⟩)) | (go_at_call 61; exact Calls.quiet_of_same ((op1_any _ _ _).mono fun _ _ h => ⟨h.1, h.2.symm⟩))))
    go_wp2
    go_ret2
    exact ⟨rfl, below_drewN (below_setRow (HB.out.alloc HB.out.size _) HB.out.size _) _⟩

set_option maxRecDepth 100000 in
set_option maxHeartbeats 1000000 in
theorem ar1_2 (a b : Int) (w : World) :
    Calls Tryz.prog 19 #[.int .i64 1, .int .i64 2, .int .i64 a, .int .i64 b] w fun e w' => e = .returned (.tuple #[.int .i64 ((opI 2 (a % 256) (b % 256)) % 256), .int .i64 0]) ∧ Below w.heap.size w w' := by
  have HT := Lib.hid (table_yes 1 (by decide) (by decide) w)
  rcases Bool.eq_false_or_eq_true ((b % 256) == 0) with hb1 | hb1
  all_goals
    go_enter Tryz.func19, Tryz.ntmps19
    go_wp2_with fail
    refine HT.out.mono ?_
    rintro e w1 ⟨rfl, hb⟩
    have HB := Lib.hid hb
    clear hb
    have HK := Lib.hid (setRow_heap _ _ _ (tabV 1) _ _ (heap_top w1 (.cells #[.int .i64 0, .int .i64 0, .nilFunc, .nilFunc, .nilFunc, .nilFunc, .nilFunc, .nilFunc, .nilFunc, .nilFunc, .nilFunc, .nilFunc, .nilFunc, .nilFunc, .nilFunc, .nilFunc, .nilFunc, .nilFunc, .nilFunc, .nilFunc, .nilFunc] 62)))
    have hc2 : _ = some (Value.func (.func 59) #[] #[]) := (cell_of_row _ _ 2 _ _ _ HK.out).trans rfl
    have hc3 : _ = some (Value.func (.func 62) #[] #[]) := (cell_of_row _ _ 5 _ _ _ HK.out).trans rfl
    have he := run_fn_nil
    unfold tblV
    go_wp2_with (first
      | (refine wpList_store_row rfl 62 _ _ rfl w1.heap.size (tabV 1) rfl rfl 62 zero21 ?z1 ?z2 ?z3 ?z4 ?_; (case z1 => exact heap_top _ _); (case z2 => rw [tabV_size]; exact info62); (case z3 => rw [tabV_size]; rfl); (case z4 => exact tabV_one 1))
      | (go_at_call 59; refine (wrap1_any _ _).mono ?_; rintro e w' ⟨rfl, rfl⟩))
    go_quiet ((first | (go_at_call 59; exact Calls.quiet_of_same ((wrap1_any _ _).mono fun _ _ h => ⟨h.1, h.2.symm⟩)) | (go_at_call 62; exact Calls.quiet_of_same ((op2_any _ _ _).mono fun _ _ h => ⟨h.1, h.2.symm⟩))))
    go_wp2
    go_ret2
    exact ⟨rfl, below_drewN (below_setRow (HB.out.alloc HB.out.size _) HB.out.size _) _⟩

set_option maxRecDepth 100000 in
set_option maxHeartbeats 1000000 in
theorem ar1_3 (a b : Int) (hb : (b % 256) ≠ 0) (w : World) :
    Calls Tryz.prog 19 #[.int .i64 1, .int .i64 3, .int .i64 a, .int .i64 b] w fun e w' => e = .returned (.tuple #[.int .i64 ((opI 3 (a % 256) (b % 256)) % 256), .int .i64 0]) ∧ Below w.heap.size w w' := by
  have HT := Lib.hid (table_yes 1 (by decide) (by decide) w)
  have HB0 := Lib.hid hb
  have hb1 : ((b % 256) == 0) = false := by simpa using hb
  clear hb
  go_enter Tryz.func19, Tryz.ntmps19
  go_wp2_with fail
  refine HT.out.mono ?_
  rintro e w1 ⟨rfl, hb⟩
  have HB := Lib.hid hb
  clear hb
  have HK := Lib.hid (setRow_heap _ _ _ (tabV 1) _ _ (heap_top w1 (.cells #[.int .i64 0, .int .i64 0, .nilFunc, .nilFunc, .nilFunc, .nilFunc, .nilFunc, .nilFunc, .nilFunc, .nilFunc, .nilFunc, .nilFunc, .nilFunc, .nilFunc, .nilFunc, .nilFunc, .nilFunc, .nilFunc, .nilFunc, .nilFunc, .nilFunc] 62)))
  have hc2 : _ = some (Value.func (.func 59) #[] #[]) := (cell_of_row _ _ 2 _ _ _ HK.out).trans rfl
  have hc3 : _ = some (Value.func (.func 63) #[] #[]) := (cell_of_row _ _ 6 _ _ _ HK.out).trans rfl
  have he := run_fn_nil
  unfold tblV
  go_wp2_with (first
    | (refine wpList_store_row rfl 62 _ _ rfl w1.heap.size (tabV 1) rfl rfl 62 zero21 ?z1 ?z2 ?z3 ?z4 ?_; (case z1 => exact heap_top _ _); (case z2 => rw [tabV_size]; exact info62); (case z3 => rw [tabV_size]; rfl); (case z4 => exact tabV_one 1))
    | (go_at_call 59; refine (wrap1_any _ _).mono ?_; rintro e w' ⟨rfl, rfl⟩))
  go_quiet ((first | (go_at_call 59; exact Calls.quiet_of_same ((wrap1_any _ _).mono fun _ _ h => ⟨h.1, h.2.symm⟩)) | (go_at_call 63; exact Calls.quiet_of_same ((op3_any _ _ HB0.out _).mono fun _ _ h => ⟨h.1, h.2.symm⟩))))
  go_wp2
  go_ret2
  exact ⟨rfl, below_drewN (below_setRow (HB.out.alloc HB.out.size _) HB.out.size _) _⟩

set_option maxRecDepth 100000 in
set_option maxHeartbeats 1000000 in
theorem ar1_4 (a b : Int) (hb : (b % 256) ≠ 0) (w : World) :
    Calls Tryz.prog 19 #[.int .i64 1, .int .i64 4, .int .i64 a, .int .i64 b] w fun e w' => e = .returned (.tuple #[.int .i64 ((opI 4 (a % 256) (b % 256)) % 256), .int .i64 0]) ∧ Below w.heap.size w w' := by
  have HT := Lib.hid (table_yes 1 (by decide) (by decide) w)
  have HB0 := Lib.hid hb
  have hb1 : ((b % 256) == 0) = false := by simpa using hb
  clear hb
  go_enter Tryz.func19, Tryz.ntmps19
  go_wp2_with fail
  refine HT.out.mono ?_
  rintro e w1 ⟨rfl, hb⟩
  have HB := Lib.hid hb
  clear hb
  have HK := Lib.hid (setRow_heap _ _ _ (tabV 1) _ _ (heap_top w1 (.cells #[.int .i64 0, .int .i64 0, .nilFunc, .nilFunc, .nilFunc, .nilFunc, .nilFunc, .nilFunc, .nilFunc, .nilFunc, .nilFunc, .nilFunc, .nilFunc, .nilFunc, .nilFunc, .nilFunc, .nilFunc, .nilFunc, .nilFunc, .nilFunc, .nilFunc] 62)))
  have hc2 : _ = some (Value.func (.func 59) #[] #[]) := (cell_of_row _ _ 2 _ _ _ HK.out).trans rfl
  have hc3 : _ = some (Value.func (.func 64) #[] #[]) := (cell_of_row _ _ 7 _ _ _ HK.out).trans rfl
  have he := run_fn_nil
  unfold tblV
  go_wp2_with (first
    | (refine wpList_store_row rfl 62 _ _ rfl w1.heap.size (tabV 1) rfl rfl 62 zero21 ?z1 ?z2 ?z3 ?z4 ?_; (case z1 => exact heap_top _ _); (case z2 => rw [tabV_size]; exact info62); (case z3 => rw [tabV_size]; rfl); (case z4 => exact tabV_one 1))
    | (go_at_call 59; refine (wrap1_any _ _).mono ?_; rintro e w' ⟨rfl, rfl⟩))
  go_quiet ((first | (go_at_call 59; exact Calls.quiet_of_same ((wrap1_any _ _).mono fun _ _ h => ⟨h.1, h.2.symm⟩)) | (go_at_call 64; exact Calls.quiet_of_same ((op4_any _ _ HB0.out _).mono fun _ _ h => ⟨h.1, h.2.symm⟩))))
  go_wp2
  go_ret2
  exact ⟨rfl, below_drewN (below_setRow (HB.out.alloc HB.out.size _) HB.out.size _) _⟩

set_option maxRecDepth 100000 in
set_option maxHeartbeats 1000000 in
theorem ar1_5 (a b : Int) (w : World) :
    Calls Tryz.prog 19 #[.int .i64 1, .int .i64 5, .int .i64 a, .int .i64 b] w fun e w' => e = .returned (.tuple #[.int .i64 ((opI 5 (a % 256) (b % 256)) % 256), .int .i64 0]) ∧ Below w.heap.size w w' := by
  have HT := Lib.hid (table_yes 1 (by decide) (by decide) w)
  rcases Bool.eq_false_or_eq_true ((b % 256) == 0) with hb1 | hb1
  all_goals
    go_enter Tryz.func19, Tryz.ntmps19
    go_wp2_with fail
    refine HT.out.mono ?_
    rintro e w1 ⟨rfl, hb⟩
    have HB := Lib.hid hb
    clear hb
    have HK := Lib.hid (setRow_heap _ _ _ (tabV 1) _ _ (heap_top w1 (.cells #[.int .i64 0, .int .i64 0, .nilFunc, .nilFunc, .nilFunc, .nilFunc, .nilFunc, .nilFunc, .nilFunc, .nilFunc, .nilFunc, .nilFunc, .nilFunc, .nilFunc, .nilFunc, .nilFunc, .nilFunc, .nilFunc, .nilFunc, .nilFunc, .nilFunc] 62)))
    have hc2 : _ = some (Value.func (.func 59) #[] #[]) := (cell_of_row _ _ 2 _ _ _ HK.out).trans rfl
    have hc3 : _ = some (Value.func (.func 65) #[] #[]) := (cell_of_row _ _ 8 _ _ _ HK.out).trans rfl
    have he := run_fn_nil
    unfold tblV
    go_wp2_with (first
      | (refine wpList_store_row rfl 62 _ _ rfl w1.heap.size (tabV 1) rfl rfl 62 zero21 ?z1 ?z2 ?z3 ?z4 ?_; (case z1 => exact heap_top _ _); (case z2 => rw [tabV_size]; exact info62); (case z3 => rw [tabV_size]; rfl); (case z4 => exact tabV_one 1))
      | (go_at_call 59; refine (wrap1_any _ _).mono ?_; rintro e w' ⟨rfl, rfl⟩))
    go_quiet ((first | (go_at_call 59; exact Calls.quiet_of_same ((wrap1_any _ _).mono fun _ _ h => ⟨h.1, h.2.symm⟩)) | (go_at_call 65; exact Calls.quiet_of_same ((op5_any _ _ _).mono fun _ _ h => ⟨h.1, h.2.symm⟩))))
    go_wp2
    go_ret2
    exact ⟨rfl, below_drewN (below_setRow (HB.out.alloc HB.out.size _) HB.out.size _) _⟩

set_option maxRecDepth 100000 in
set_option maxHeartbeats 1000000 in
theorem ar1_6 (a b : Int) (w : World) :
    Calls Tryz.prog 19 #[.int .i64 1, .int .i64 6, .int .i64 a, .int .i64 b] w fun e w' => e = .returned (.tuple #[.int .i64 ((opI 6 (a % 256) (b % 256)) % 256), .int .i64 0]) ∧ Below w.heap.size w w' := by
  have HT := Lib.hid (table_yes 1 (by decide) (by decide) w)
  rcases Bool.eq_false_or_eq_true ((b % 256) == 0) with hb1 | hb1
  all_goals
    go_enter Tryz.func19, Tryz.ntmps19
    go_wp2_with fail
    refine HT.out.mono ?_
    rintro e w1 ⟨rfl, hb⟩
    have HB := Lib.hid hb
    clear hb
    have HK := Lib.hid (setRow_heap _ _ _ (tabV 1) _ _ (heap_top w1 (.cells #[.int .i64 0, .int .i64 0, .nilFunc, .nilFunc, .nilFunc, .nilFunc, .nilFunc, .nilFunc, .nilFunc, .nilFunc, .nilFunc, .nilFunc, .nilFunc, .nilFunc, .nilFunc, .nilFunc, .nilFunc, .nilFunc, .nilFunc, .nilFunc, .nilFunc] 62)))
    have hc2 : _ = some (Value.func (.func 59) #[] #[]) := (cell_of_row _ _ 2 _ _ _ HK.out).trans rfl
    have hc3 : _ = some (Value.func (.func 66) #[] #[]) := (cell_of_row _ _ 9 _ _ _ HK.out).trans rfl
    have he := run_fn_nil
    unfold tblV
    go_wp2_with (first
      | (refine wpList_store_row rfl 62 _ _ rfl w1.heap.size (tabV 1) rfl rfl 62 zero21 ?z1 ?z2 ?z3 ?z4 ?_; (case z1 => exact heap_top _ _); (case z2 => rw [tabV_size]; exact info62); (case z3 => rw [tabV_size]; rfl); (case z4 => exact tabV_one 1))
      | (go_at_call 59; refine (wrap1_any _ _).mono ?_; rintro e w' ⟨rfl, rfl⟩))
    go_quiet ((first | (go_at_call 59; exact Calls.quiet_of_same ((wrap1_any _ _).mono fun _ _ h => ⟨h.1, h.2.symm⟩)) | (go_at_call 66; exact Calls.quiet_of_same ((op6_any _ _ _).mono fun _ _ h => ⟨h.1, h.2.symm⟩))))
    go_wp2
    go_ret2
    exact ⟨rfl, below_drewN (below_setRow (HB.out.alloc HB.out.size _) HB.out.size _) _⟩

set_option maxRecDepth 100000 in
set_option maxHeartbeats 1000000 in
theorem ar1_7 (a b : Int) (w : World) :
    Calls Tryz.prog 19 #[.int .i64 1, .int .i64 7, .int .i64 a, .int .i64 b] w fun e w' => e = .returned (.tuple #[.int .i64 ((opI 7 (a % 256) (b % 256)) % 256), .int .i64 0]) ∧ Below w.heap.size w w' := by
  have HT := Lib.hid (table_yes 1 (by decide) (by decide) w)
  rcases Bool.eq_false_or_eq_true ((b % 256) == 0) with hb1 | hb1
  all_goals
    go_enter Tryz.func19, Tryz.ntmps19
    go_wp2_with fail
    refine HT.out.mono ?_
    rintro e w1 ⟨rfl, hb⟩
    have HB := Lib.hid hb
    clear hb
    have HK := Lib.hid (setRow_heap _ _ _ (tabV 1) _ _ (heap_top w1 (.cells #[.int .i64 0, .int .i64 0, .nilFunc, .nilFunc, .nilFunc, .nilFunc, .nilFunc, .nilFunc, .nilFunc, .nilFunc, .nilFunc, .nilFunc, .nilFunc, .nilFunc, .nilFunc, .nilFunc, .nilFunc, .nilFunc, .nilFunc, .nilFunc, .nilFunc] 62)))
    have hc2 : _ = some (Value.func (.func 59) #[] #[]) := (cell_of_row _ _ 2 _ _ _ HK.out).trans rfl
    have hc3 : _ = some (Value.func (.func 67) #[] #[]) := (cell_of_row _ _ 10 _ _ _ HK.out).trans rfl
    have he := run_fn_nil
    unfold tblV
    go_wp2_with (first
      | (refine wpList_store_row rfl 62 _ _ rfl w1.heap.size (tabV 1) rfl rfl 62 zero21 ?z1 ?z2 ?z3 ?z4 ?_; (case z1 => exact heap_top _ _); (case z2 => rw [tabV_size]; exact info62); (case z3 => rw [tabV_size]; rfl); (case z4 => exact tabV_one 1))
      | (go_at_call 59; refine (wrap1_any _ _).mono ?_; rintro e w' ⟨rfl, rfl⟩))
    go_quiet ((first | (go_at_call 59; exact Calls.quiet_of_same ((wrap1_any _ _).mono fun _ _ h => ⟨h.1, h.2.symm⟩)) | (go_at_call 67; exact Calls.quiet_of_same ((op7_any _ _ _).mono fun _ _ h => ⟨h.1, h.2.symm⟩))))
    go_wp2
    go_ret2
    exact ⟨rfl, below_drewN (below_setRow (HB.out.alloc HB.out.size _) HB.out.size _) _⟩

set_option maxRecDepth 100000 in
set_option maxHeartbeats 1000000 in
theorem ar1_8 (a b : Int) (w : World) :
    Calls Tryz.prog 19 #[.int .i64 1, .int .i64 8, .int .i64 a, .int .i64 b] w fun e w' => e = .returned (.tuple #[.int .i64 ((opI 8 (a % 256) b) % 256), .int .i64 0]) ∧ Below w.heap.size w w' := by
  have HT := Lib.hid (table_yes 1 (by decide) (by decide) w)
  rcases Bool.eq_false_or_eq_true (b == 0) with hb1 | hb1
  all_goals
    go_enter Tryz.func19, Tryz.ntmps19
    go_wp2_with fail
    refine HT.out.mono ?_
    rintro e w1 ⟨rfl, hb⟩
    have HB := Lib.hid hb
    clear hb
    have HK := Lib.hid (setRow_heap _ _ _ (tabV 1) _ _ (heap_top w1 (.cells #[.int .i64 0, .int .i64 0, .nilFunc, .nilFunc, .nilFunc, .nilFunc, .nilFunc, .nilFunc, .nilFunc, .nilFunc, .nilFunc, .nilFunc, .nilFunc, .nilFunc, .nilFunc, .nilFunc, .nilFunc, .nilFunc, .nilFunc, .nilFunc, .nilFunc] 62)))
    have hc2 : _ = some (Value.func (.func 59) #[] #[]) := (cell_of_row _ _ 2 _ _ _ HK.out).trans rfl
    have hc3 : _ = some (Value.func (.func 68) #[] #[]) := (cell_of_row _ _ 11 _ _ _ HK.out).trans rfl
    have he := run_fn_nil
    unfold tblV
    go_wp2_with (first
      | (refine wpList_store_row rfl 62 _ _ rfl w1.heap.size (tabV 1) rfl rfl 62 zero21 ?z1 ?z2 ?z3 ?z4 ?_; (case z1 => exact heap_top _ _); (case z2 => rw [tabV_size]; exact info62); (case z3 => rw [tabV_size]; rfl); (case z4 => exact tabV_one 1))
      | (go_at_call 59; refine (wrap1_any _ _).mono ?_; rintro e w' ⟨rfl, rfl⟩))
    go_quiet ((first | (go_at_call 59; exact Calls.quiet_of_same ((wrap1_any _ _).mono fun _ _ h => ⟨h.1, h.2.symm⟩)) | (go_at_call 68; exact Calls.quiet_of_same ((op8_any _ _ _).mono fun _ _ h => ⟨h.1, h.2.symm⟩))))
    go_wp2
    go_ret2
    exact ⟨rfl, below_drewN (below_setRow (HB.out.alloc HB.out.size _) HB.out.size _) _⟩

set_option maxRecDepth 100000 in
set_option maxHeartbeats 1000000 in
theorem ar1_9 (a b : Int) (w : World) :
    Calls Tryz.prog 19 #[.int .i64 1, .int .i64 9, .int .i64 a, .int .i64 b] w fun e w' => e = .returned (.tuple #[.int .i64 ((opI 9 (a % 256) b) % 256), .int .i64 0]) ∧ Below w.heap.size w w' := by
  have HT := Lib.hid (table_yes 1 (by decide) (by decide) w)
  rcases Bool.eq_false_or_eq_true (b == 0) with hb1 | hb1
  all_goals
    go_enter Tryz.func19, Tryz.ntmps19
    go_wp2_with fail
    refine HT.out.mono ?_
    rintro e w1 ⟨rfl, hb⟩
    have HB := Lib.hid hb
    clear hb
    have HK := Lib.hid (setRow_heap _ _ _ (tabV 1) _ _ (heap_top w1 (.cells #[.int .i64 0, .int .i64 0, .nilFunc, .nilFunc, .nilFunc, .nilFunc, .nilFunc, .nilFunc, .nilFunc, .nilFunc, .nilFunc, .nilFunc, .nilFunc, .nilFunc, .nilFunc, .nilFunc, .nilFunc, .nilFunc, .nilFunc, .nilFunc, .nilFunc] 62)))
    have hc2 : _ = some (Value.func (.func 59) #[] #[]) := (cell_of_row _ _ 2 _ _ _ HK.out).trans rfl
    have hc3 : _ = some (Value.func (.func 69) #[] #[]) := (cell_of_row _ _ 12 _ _ _ HK.out).trans rfl
    have he := run_fn_nil
    unfold tblV
    go_wp2_with (first
      | (refine wpList_store_row rfl 62 _ _ rfl w1.heap.size (tabV 1) rfl rfl 62 zero21 ?z1 ?z2 ?z3 ?z4 ?_; (case z1 => exact heap_top _ _); (case z2 => rw [tabV_size]; exact info62); (case z3 => rw [tabV_size]; rfl); (case z4 => exact tabV_one 1))
      | (go_at_call 59; refine (wrap1_any _ _).mono ?_; rintro e w' ⟨rfl, rfl⟩))
    go_quiet ((first | (go_at_call 59; exact Calls.quiet_of_same ((wrap1_any _ _).mono fun _ _ h => ⟨h.1, h.2.symm⟩)) | (go_at_call 69; exact Calls.quiet_of_same ((op9_any _ _ _).mono fun _ _ h => ⟨h.1, h.2.symm⟩))))
    go_wp2
    go_ret2
    exact ⟨rfl, below_drewN (below_setRow (HB.out.alloc HB.out.size _) HB.out.size _) _⟩

set_option maxRecDepth 100000 in
set_option maxHeartbeats 1000000 in
theorem ar1_3z (a b : Int) (hb : (b % 256) = 0) (w : World) :
    Calls Tryz.prog 19 #[.int .i64 1, .int .i64 3, .int .i64 a, .int .i64 b] w fun e w' => e = .returned (.tuple #[.int .i64 0, .int .i64 11]) ∧ Below w.heap.size w w' := by
  have HT := Lib.hid (table_yes 1 (by decide) (by decide) w)
  have hb1 : ((b % 256) == 0) = true := by simpa using hb
  clear hb
  go_enter Tryz.func19, Tryz.ntmps19
  go_wp2_with fail
  refine HT.out.mono ?_
  rintro e w1 ⟨rfl, hb⟩
  have HB := Lib.hid hb
  clear hb
  have HK := Lib.hid (setRow_heap _ _ _ (tabV 1) _ _ (heap_top w1 (.cells #[.int .i64 0, .int .i64 0, .nilFunc, .nilFunc, .nilFunc, .nilFunc, .nilFunc, .nilFunc, .nilFunc, .nilFunc, .nilFunc, .nilFunc, .nilFunc, .nilFunc, .nilFunc, .nilFunc, .nilFunc, .nilFunc, .nilFunc, .nilFunc, .nilFunc] 62)))
  have hc2 : _ = some (Value.func (.func 59) #[] #[]) := (cell_of_row _ _ 2 _ _ _ HK.out).trans rfl
  have hc3 : _ = some (Value.func (.func 63) #[] #[]) := (cell_of_row _ _ 6 _ _ _ HK.out).trans rfl
  have he := run_fn_nil
  unfold tblV
  go_wp2_with (first
    | (refine wpList_store_row rfl 62 _ _ rfl w1.heap.size (tabV 1) rfl rfl 62 zero21 ?z1 ?z2 ?z3 ?z4 ?_; (case z1 => exact heap_top _ _); (case z2 => rw [tabV_size]; exact info62); (case z3 => rw [tabV_size]; rfl); (case z4 => exact tabV_one 1))
    | (go_at_call 59; refine (wrap1_any _ _).mono ?_; rintro e w' ⟨rfl, rfl⟩))
  go_ret2
  exact ⟨rfl, below_setRow (HB.out.alloc HB.out.size _) HB.out.size _⟩

set_option maxRecDepth 100000 in
set_option maxHeartbeats 1000000 in
theorem ar1_4z (a b : Int) (hb : (b % 256) = 0) (w : World) :
    Calls Tryz.prog 19 #[.int .i64 1, .int .i64 4, .int .i64 a, .int .i64 b] w fun e w' => e = .returned (.tuple #[.int .i64 0, .int .i64 11]) ∧ Below w.heap.size w w' := by
  have HT := Lib.hid (table_yes 1 (by decide) (by decide) w)
  have hb1 : ((b % 256) == 0) = true := by simpa using hb
  clear hb
  go_enter Tryz.func19, Tryz.ntmps19
  go_wp2_with fail
  refine HT.out.mono ?_
  rintro e w1 ⟨rfl, hb⟩
  have HB := Lib.hid hb
  clear hb
  have HK := Lib.hid (setRow_heap _ _ _ (tabV 1) _ _ (heap_top w1 (.cells #[.int .i64 0, .int .i64 0, .nilFunc, .nilFunc, .nilFunc, .nilFunc, .nilFunc, .nilFunc, .nilFunc, .nilFunc, .nilFunc, .nilFunc, .nilFunc, .nilFunc, .nilFunc, .nilFunc, .nilFunc, .nilFunc, .nilFunc, .nilFunc, .nilFunc] 62)))
  have hc2 : _ = some (Value.func (.func 59) #[] #[]) := (cell_of_row _ _ 2 _ _ _ HK.out).trans rfl
  have hc3 : _ = some (Value.func (.func 64) #[] #[]) := (cell_of_row _ _ 7 _ _ _ HK.out).trans rfl
  have he := run_fn_nil
  unfold tblV
  go_wp2_with (first
    | (refine wpList_store_row rfl 62 _ _ rfl w1.heap.size (tabV 1) rfl rfl 62 zero21 ?z1 ?z2 ?z3 ?z4 ?_; (case z1 => exact heap_top _ _); (case z2 => rw [tabV_size]; exact info62); (case z3 => rw [tabV_size]; rfl); (case z4 => exact tabV_one 1))
    | (go_at_call 59; refine (wrap1_any _ _).mono ?_; rintro e w' ⟨rfl, rfl⟩))
  go_ret2
  exact ⟨rfl, below_setRow (HB.out.alloc HB.out.size _) HB.out.size _⟩

end Go.Proofs.YtpgfogfejemojaaGreatDoor
