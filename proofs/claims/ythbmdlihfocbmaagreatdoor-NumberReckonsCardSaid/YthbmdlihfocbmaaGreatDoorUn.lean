/-
  number.Unary of all kinds.
-/
import Derived.Test.YthbmdlihfocbmaaGreatDoorOps4
import Derived.Test.YthbmdlihfocbmaaGreatDoorAr1
import Derived.Test.YthbmdlihfocbmaaGreatDoorWrapA
set_option linter.unusedVariables false
namespace Go.Proofs.YthbmdlihfocbmaaGreatDoor
open Go.RowKit

/-- The operations of one integer, before the result is wrapped. -/
def unI (op : Nat) (a : Int) : Int :=
  match op with
  | 16 => wrap64 (-a)
  | 17 => bits .xor .i64 (-1) a
  | 18 => bif a == 0 then 1 else 0
  | _ => bits .xor .i64 a (-9223372036854775808)
theorem neg_any (a : Int) (w : World) : Calls Tryz.prog 70 #[.int .i64 a] w fun e w' => e = .returned (.int .i64 (unI 16 a)) ∧ w = w' := by
  go_enter Tryz.func70, Tryz.ntmps70
  go_wp2
  go_ret
  exact ⟨rfl, rfl⟩
theorem not_any (a : Int) (w : World) : Calls Tryz.prog 71 #[.int .i64 a] w fun e w' => e = .returned (.int .i64 (unI 17 a)) ∧ w = w' := by
  go_enter Tryz.func71, Tryz.ntmps71
  go_wp2
  go_ret
  exact ⟨rfl, rfl⟩
theorem isNot_any (a : Int) (w : World) : Calls Tryz.prog 48 #[.int .i64 a] w fun e w' => e = .returned (.int .i64 (unI 18 a)) ∧ w = w' := by
  rcases Bool.eq_false_or_eq_true (a == 0) with h | h
  all_goals
    have hu : unI 18 a = (bif a == 0 then 1 else 0) := rfl
    rw [h] at hu
    rw [hu]
    clear hu
    go_enter Tryz.func48, Tryz.ntmps48
    go_wp2
    go_ret
    exact ⟨rfl, rfl⟩
set_option maxRecDepth 100000 in
theorem opp_any (a : Int) (w : World) : Calls Tryz.prog 86 #[.int .i64 a] w fun e w' => e = .returned (.int .i64 (unI 19 a)) ∧ w = w' := by
  go_enter Tryz.func86, Tryz.ntmps86
  go_wp2
  go_ret
  exact ⟨rfl, rfl⟩
theorem run_fn_nil1 (F : FuncId) (w : World) : (binOp .eql 54 (.func (.func F) #[] #[]) .nilFunc).run Tryz.prog w = .ok (.bool false) w := by kernel_rfl
theorem run_nil_nil1 (w : World) : (binOp .eql 54 .nilFunc .nilFunc).run Tryz.prog w = .ok (.bool true) w := by kernel_rfl

set_option maxRecDepth 100000 in
set_option maxHeartbeats 1000000 in
theorem un1_16 (a : Int) (w : World) :
    Calls Tryz.prog 20 #[.int .i64 1, .int .i64 16, .int .i64 a] w fun e w' => e = .returned (.tuple #[.int .i64 ((unI 16 (a % 256)) % 256), .int .i64 0]) ∧ Below w.heap.size w w' := by
  have HT := Lib.hid (table_yes 1 (by decide) (by decide) w)
  go_enter Tryz.func20, Tryz.ntmps20
  go_wp2_with fail
  refine HT.out.mono ?_
  rintro e w1 ⟨rfl, hb⟩
  have HB := Lib.hid hb
  clear hb
  have HK := Lib.hid (setRow_heap _ _ _ (tabV 1) _ _ (heap_top w1 (.cells #[.int .i64 0, .int .i64 0, .nilFunc, .nilFunc, .nilFunc, .nilFunc, .nilFunc, .nilFunc, .nilFunc, .nilFunc, .nilFunc, .nilFunc, .nilFunc, .nilFunc, .nilFunc, .nilFunc, .nilFunc, .nilFunc, .nilFunc, .nilFunc, .nilFunc] 62)))
  have hc2 : _ = some (Value.func (.func 59) #[] #[]) := (cell_of_row _ _ 2 _ _ _ HK.out).trans rfl
  have hc13 : _ = some (Value.func (.func 70) #[] #[]) := (cell_of_row _ _ 13 _ _ _ HK.out).trans rfl
  have he := run_fn_nil1
  have hn := run_nil_nil1
  unfold tblV
  go_wp2_with (first
    | (refine wpList_store_row rfl 62 _ _ rfl w1.heap.size (tabV 1) rfl rfl 62 zero21 ?z1 ?z2 ?z3 ?z4 ?_; (case z1 => exact heap_top _ _); (case z2 => rw [tabV_size]; exact info62); (case z3 => rw [tabV_size]; rfl); (case z4 => exact tabV_one 1)))
  go_quiet ((first | (go_at_call 59; exact Calls.quiet_of_same ((wrap1_any _ _).mono fun _ _ h => ⟨h.1, h.2.symm⟩)) | (go_at_call 70; exact Calls.quiet_of_same ((neg_any _ _).mono fun _ _ h => ⟨h.1, h.2.symm⟩))))
  go_wp2
  go_ret2
  exact ⟨rfl, below_drewN (below_setRow (HB.out.alloc HB.out.size _) HB.out.size _) _⟩

set_option maxRecDepth 100000 in
set_option maxHeartbeats 1000000 in
theorem un1_17 (a : Int) (w : World) :
    Calls Tryz.prog 20 #[.int .i64 1, .int .i64 17, .int .i64 a] w fun e w' => e = .returned (.tuple #[.int .i64 ((unI 17 (a % 256)) % 256), .int .i64 0]) ∧ Below w.heap.size w w' := by
  have HT := Lib.hid (table_yes 1 (by decide) (by decide) w)
  go_enter Tryz.func20, Tryz.ntmps20
  go_wp2_with fail
  refine HT.out.mono ?_
  rintro e w1 ⟨rfl, hb⟩
  have HB := Lib.hid hb
  clear hb
  have HK := Lib.hid (setRow_heap _ _ _ (tabV 1) _ _ (heap_top w1 (.cells #[.int .i64 0, .int .i64 0, .nilFunc, .nilFunc, .nilFunc, .nilFunc, .nilFunc, .nilFunc, .nilFunc, .nilFunc, .nilFunc, .nilFunc, .nilFunc, .nilFunc, .nilFunc, .nilFunc, .nilFunc, .nilFunc, .nilFunc, .nilFunc, .nilFunc] 62)))
  have hc2 : _ = some (Value.func (.func 59) #[] #[]) := (cell_of_row _ _ 2 _ _ _ HK.out).trans rfl
  have hc14 : _ = some (Value.func (.func 71) #[] #[]) := (cell_of_row _ _ 14 _ _ _ HK.out).trans rfl
  have he := run_fn_nil1
  have hn := run_nil_nil1
  unfold tblV
  go_wp2_with (first
    | (refine wpList_store_row rfl 62 _ _ rfl w1.heap.size (tabV 1) rfl rfl 62 zero21 ?z1 ?z2 ?z3 ?z4 ?_; (case z1 => exact heap_top _ _); (case z2 => rw [tabV_size]; exact info62); (case z3 => rw [tabV_size]; rfl); (case z4 => exact tabV_one 1)))
  go_quiet ((first | (go_at_call 59; exact Calls.quiet_of_same ((wrap1_any _ _).mono fun _ _ h => ⟨h.1, h.2.symm⟩)) | (go_at_call 71; exact Calls.quiet_of_same ((not_any _ _).mono fun _ _ h => ⟨h.1, h.2.symm⟩))))
  go_wp2
  go_ret2
  exact ⟨rfl, below_drewN (below_setRow (HB.out.alloc HB.out.size _) HB.out.size _) _⟩

set_option maxRecDepth 100000 in
set_option maxHeartbeats 1000000 in
theorem un1_18 (a : Int) (w : World) :
    Calls Tryz.prog 20 #[.int .i64 1, .int .i64 18, .int .i64 a] w fun e w' => e = .returned (.tuple #[.int .i64 0, .int .i64 2]) ∧ Below w.heap.size w w' := by
  have HT := Lib.hid (table_yes 1 (by decide) (by decide) w)
  go_enter Tryz.func20, Tryz.ntmps20
  go_wp2_with fail
  refine HT.out.mono ?_
  rintro e w1 ⟨rfl, hb⟩
  have HB := Lib.hid hb
  clear hb
  have HK := Lib.hid (setRow_heap _ _ _ (tabV 1) _ _ (heap_top w1 (.cells #[.int .i64 0, .int .i64 0, .nilFunc, .nilFunc, .nilFunc, .nilFunc, .nilFunc, .nilFunc, .nilFunc, .nilFunc, .nilFunc, .nilFunc, .nilFunc, .nilFunc, .nilFunc, .nilFunc, .nilFunc, .nilFunc, .nilFunc, .nilFunc, .nilFunc] 62)))
  have hc2 : _ = some (Value.func (.func 59) #[] #[]) := (cell_of_row _ _ 2 _ _ _ HK.out).trans rfl
  have hc15 : _ = some (Value.nilFunc) := (cell_of_row _ _ 15 _ _ _ HK.out).trans rfl
  have he := run_fn_nil1
  have hn := run_nil_nil1
  unfold tblV
  go_wp2_with (first
    | (refine wpList_store_row rfl 62 _ _ rfl w1.heap.size (tabV 1) rfl rfl 62 zero21 ?z1 ?z2 ?z3 ?z4 ?_; (case z1 => exact heap_top _ _); (case z2 => rw [tabV_size]; exact info62); (case z3 => rw [tabV_size]; rfl); (case z4 => exact tabV_one 1)))
  go_ret2
  exact ⟨rfl, below_setRow (HB.out.alloc HB.out.size _) HB.out.size _⟩

set_option maxRecDepth 100000 in
set_option maxHeartbeats 1000000 in
theorem un1_bad (op a : Int) (h16 : (op == 16) = false) (h17 : (op == 17) = false) (h18 : (op == 18) = false) (w : World) :
    Calls Tryz.prog 20 #[.int .i64 1, .int .i64 op, .int .i64 a] w fun e w' => e = .returned (.tuple #[.int .i64 0, .int .i64 2]) ∧ Below w.heap.size w w' := by
  have HT := Lib.hid (table_yes 1 (by decide) (by decide) w)
  go_enter Tryz.func20, Tryz.ntmps20
  go_wp2_with fail
  refine HT.out.mono ?_
  rintro e w1 ⟨rfl, hb⟩
  have HB := Lib.hid hb
  clear hb
  have HK := Lib.hid (setRow_heap _ _ _ (tabV 1) _ _ (heap_top w1 (.cells #[.int .i64 0, .int .i64 0, .nilFunc, .nilFunc, .nilFunc, .nilFunc, .nilFunc, .nilFunc, .nilFunc, .nilFunc, .nilFunc, .nilFunc, .nilFunc, .nilFunc, .nilFunc, .nilFunc, .nilFunc, .nilFunc, .nilFunc, .nilFunc, .nilFunc] 62)))
  have he := run_fn_nil1
  have hn := run_nil_nil1
  unfold tblV
  go_wp2_with (first
    | (refine wpList_store_row rfl 62 _ _ rfl w1.heap.size (tabV 1) rfl rfl 62 zero21 ?z1 ?z2 ?z3 ?z4 ?_; (case z1 => exact heap_top _ _); (case z2 => rw [tabV_size]; exact info62); (case z3 => rw [tabV_size]; rfl); (case z4 => exact tabV_one 1)))
  go_ret2
  exact ⟨rfl, below_setRow (HB.out.alloc HB.out.size _) HB.out.size _⟩

set_option maxRecDepth 100000 in
set_option maxHeartbeats 1000000 in
theorem un2_16 (a : Int) (w : World) :
    Calls Tryz.prog 20 #[.int .i64 2, .int .i64 16, .int .i64 a] w fun e w' => e = .returned (.tuple #[.int .i64 (wrap32 (unI 16 (wrap32 a))), .int .i64 0]) ∧ Below w.heap.size w w' := by
  have HT := Lib.hid (table_yes 2 (by decide) (by decide) w)
  go_enter Tryz.func20, Tryz.ntmps20
  go_wp2_with fail
  refine HT.out.mono ?_
  rintro e w1 ⟨rfl, hb⟩
  have HB := Lib.hid hb
  clear hb
  have HK := Lib.hid (setRow_heap _ _ _ (tabV 2) _ _ (heap_top w1 (.cells #[.int .i64 0, .int .i64 0, .nilFunc, .nilFunc, .nilFunc, .nilFunc, .nilFunc, .nilFunc, .nilFunc, .nilFunc, .nilFunc, .nilFunc, .nilFunc, .nilFunc, .nilFunc, .nilFunc, .nilFunc, .nilFunc, .nilFunc, .nilFunc, .nilFunc] 62)))
  have hc2 : _ = some (Value.func (.func 77) #[] #[]) := (cell_of_row _ _ 2 _ _ _ HK.out).trans rfl
  have hc13 : _ = some (Value.func (.func 70) #[] #[]) := (cell_of_row _ _ 13 _ _ _ HK.out).trans rfl
  have he := run_fn_nil1
  have hn := run_nil_nil1
  unfold tblV
  go_wp2_with (first
    | (refine wpList_store_row rfl 62 _ _ rfl w1.heap.size (tabV 2) rfl rfl 62 zero21 ?z1 ?z2 ?z3 ?z4 ?_; (case z1 => exact heap_top _ _); (case z2 => rw [tabV_size]; exact info62); (case z3 => rw [tabV_size]; rfl); (case z4 => exact tabV_one 2)))
  go_quiet ((first | (go_at_call 77; exact Calls.quiet_of_same ((wrap2_any _ _).mono fun _ _ h => ⟨h.1, h.2.symm⟩)) | (go_at_call 70; exact Calls.quiet_of_same ((neg_any _ _).mono fun _ _ h => ⟨h.1, h.2.symm⟩))))
  go_wp2
  go_ret2
  exact ⟨rfl, below_drewN (below_setRow (HB.out.alloc HB.out.size _) HB.out.size _) _⟩

set_option maxRecDepth 100000 in
set_option maxHeartbeats 1000000 in
theorem un2_17 (a : Int) (w : World) :
    Calls Tryz.prog 20 #[.int .i64 2, .int .i64 17, .int .i64 a] w fun e w' => e = .returned (.tuple #[.int .i64 (wrap32 (unI 17 (wrap32 a))), .int .i64 0]) ∧ Below w.heap.size w w' := by
  have HT := Lib.hid (table_yes 2 (by decide) (by decide) w)
  go_enter Tryz.func20, Tryz.ntmps20
  go_wp2_with fail
  refine HT.out.mono ?_
  rintro e w1 ⟨rfl, hb⟩
  have HB := Lib.hid hb
  clear hb
  have HK := Lib.hid (setRow_heap _ _ _ (tabV 2) _ _ (heap_top w1 (.cells #[.int .i64 0, .int .i64 0, .nilFunc, .nilFunc, .nilFunc, .nilFunc, .nilFunc, .nilFunc, .nilFunc, .nilFunc, .nilFunc, .nilFunc, .nilFunc, .nilFunc, .nilFunc, .nilFunc, .nilFunc, .nilFunc, .nilFunc, .nilFunc, .nilFunc] 62)))
  have hc2 : _ = some (Value.func (.func 77) #[] #[]) := (cell_of_row _ _ 2 _ _ _ HK.out).trans rfl
  have hc14 : _ = some (Value.func (.func 71) #[] #[]) := (cell_of_row _ _ 14 _ _ _ HK.out).trans rfl
  have he := run_fn_nil1
  have hn := run_nil_nil1
  unfold tblV
  go_wp2_with (first
    | (refine wpList_store_row rfl 62 _ _ rfl w1.heap.size (tabV 2) rfl rfl 62 zero21 ?z1 ?z2 ?z3 ?z4 ?_; (case z1 => exact heap_top _ _); (case z2 => rw [tabV_size]; exact info62); (case z3 => rw [tabV_size]; rfl); (case z4 => exact tabV_one 2)))
  go_quiet ((first | (go_at_call 77; exact Calls.quiet_of_same ((wrap2_any _ _).mono fun _ _ h => ⟨h.1, h.2.symm⟩)) | (go_at_call 71; exact Calls.quiet_of_same ((not_any _ _).mono fun _ _ h => ⟨h.1, h.2.symm⟩))))
  go_wp2
  go_ret2
  exact ⟨rfl, below_drewN (below_setRow (HB.out.alloc HB.out.size _) HB.out.size _) _⟩

set_option maxRecDepth 100000 in
set_option maxHeartbeats 1000000 in
theorem un2_18 (a : Int) (w : World) :
    Calls Tryz.prog 20 #[.int .i64 2, .int .i64 18, .int .i64 a] w fun e w' => e = .returned (.tuple #[.int .i64 (wrap32 (unI 18 (wrap32 a))), .int .i64 0]) ∧ Below w.heap.size w w' := by
  have HT := Lib.hid (table_yes 2 (by decide) (by decide) w)
  go_enter Tryz.func20, Tryz.ntmps20
  go_wp2_with fail
  refine HT.out.mono ?_
  rintro e w1 ⟨rfl, hb⟩
  have HB := Lib.hid hb
  clear hb
  have HK := Lib.hid (setRow_heap _ _ _ (tabV 2) _ _ (heap_top w1 (.cells #[.int .i64 0, .int .i64 0, .nilFunc, .nilFunc, .nilFunc, .nilFunc, .nilFunc, .nilFunc, .nilFunc, .nilFunc, .nilFunc, .nilFunc, .nilFunc, .nilFunc, .nilFunc, .nilFunc, .nilFunc, .nilFunc, .nilFunc, .nilFunc, .nilFunc] 62)))
  have hc2 : _ = some (Value.func (.func 77) #[] #[]) := (cell_of_row _ _ 2 _ _ _ HK.out).trans rfl
  have hc15 : _ = some (Value.func (.func 48) #[] #[]) := (cell_of_row _ _ 15 _ _ _ HK.out).trans rfl
  have he := run_fn_nil1
  have hn := run_nil_nil1
  unfold tblV
  go_wp2_with (first
    | (refine wpList_store_row rfl 62 _ _ rfl w1.heap.size (tabV 2) rfl rfl 62 zero21 ?z1 ?z2 ?z3 ?z4 ?_; (case z1 => exact heap_top _ _); (case z2 => rw [tabV_size]; exact info62); (case z3 => rw [tabV_size]; rfl); (case z4 => exact tabV_one 2)))
  go_quiet ((first | (go_at_call 77; exact Calls.quiet_of_same ((wrap2_any _ _).mono fun _ _ h => ⟨h.1, h.2.symm⟩)) | (go_at_call 48; exact Calls.quiet_of_same ((isNot_any _ _).mono fun _ _ h => ⟨h.1, h.2.symm⟩))))
  go_wp2
  go_ret2
  exact ⟨rfl, below_drewN (below_setRow (HB.out.alloc HB.out.size _) HB.out.size _) _⟩

set_option maxRecDepth 100000 in
set_option maxHeartbeats 1000000 in
theorem un2_bad (op a : Int) (h16 : (op == 16) = false) (h17 : (op == 17) = false) (h18 : (op == 18) = false) (w : World) :
    Calls Tryz.prog 20 #[.int .i64 2, .int .i64 op, .int .i64 a] w fun e w' => e = .returned (.tuple #[.int .i64 0, .int .i64 2]) ∧ Below w.heap.size w w' := by
  have HT := Lib.hid (table_yes 2 (by decide) (by decide) w)
  go_enter Tryz.func20, Tryz.ntmps20
  go_wp2_with fail
  refine HT.out.mono ?_
  rintro e w1 ⟨rfl, hb⟩
  have HB := Lib.hid hb
  clear hb
  have HK := Lib.hid (setRow_heap _ _ _ (tabV 2) _ _ (heap_top w1 (.cells #[.int .i64 0, .int .i64 0, .nilFunc, .nilFunc, .nilFunc, .nilFunc, .nilFunc, .nilFunc, .nilFunc, .nilFunc, .nilFunc, .nilFunc, .nilFunc, .nilFunc, .nilFunc, .nilFunc, .nilFunc, .nilFunc, .nilFunc, .nilFunc, .nilFunc] 62)))
  have he := run_fn_nil1
  have hn := run_nil_nil1
  unfold tblV
  go_wp2_with (first
    | (refine wpList_store_row rfl 62 _ _ rfl w1.heap.size (tabV 2) rfl rfl 62 zero21 ?z1 ?z2 ?z3 ?z4 ?_; (case z1 => exact heap_top _ _); (case z2 => rw [tabV_size]; exact info62); (case z3 => rw [tabV_size]; rfl); (case z4 => exact tabV_one 2)))
  go_ret2
  exact ⟨rfl, below_setRow (HB.out.alloc HB.out.size _) HB.out.size _⟩

set_option maxRecDepth 100000 in
set_option maxHeartbeats 1000000 in
theorem un3_16 (a : Int) (w : World) :
    Calls Tryz.prog 20 #[.int .i64 3, .int .i64 16, .int .i64 a] w fun e w' => e = .returned (.tuple #[.int .i64 (unI 16 a), .int .i64 0]) ∧ Below w.heap.size w w' := by
  have HT := Lib.hid (table_yes 3 (by decide) (by decide) w)
  go_enter Tryz.func20, Tryz.ntmps20
  go_wp2_with fail
  refine HT.out.mono ?_
  rintro e w1 ⟨rfl, hb⟩
  have HB := Lib.hid hb
  clear hb
  have HK := Lib.hid (setRow_heap _ _ _ (tabV 3) _ _ (heap_top w1 (.cells #[.int .i64 0, .int .i64 0, .nilFunc, .nilFunc, .nilFunc, .nilFunc, .nilFunc, .nilFunc, .nilFunc, .nilFunc, .nilFunc, .nilFunc, .nilFunc, .nilFunc, .nilFunc, .nilFunc, .nilFunc, .nilFunc, .nilFunc, .nilFunc, .nilFunc] 62)))
  have hc2 : _ = some (Value.func (.func 78) #[] #[]) := (cell_of_row _ _ 2 _ _ _ HK.out).trans rfl
  have hc13 : _ = some (Value.func (.func 70) #[] #[]) := (cell_of_row _ _ 13 _ _ _ HK.out).trans rfl
  have he := run_fn_nil1
  have hn := run_nil_nil1
  unfold tblV
  go_wp2_with (first
    | (refine wpList_store_row rfl 62 _ _ rfl w1.heap.size (tabV 3) rfl rfl 62 zero21 ?z1 ?z2 ?z3 ?z4 ?_; (case z1 => exact heap_top _ _); (case z2 => rw [tabV_size]; exact info62); (case z3 => rw [tabV_size]; rfl); (case z4 => exact tabV_one 3)))
  go_quiet ((first | (go_at_call 78; exact Calls.quiet_of_same ((wrap3_any _ _).mono fun _ _ h => ⟨h.1, h.2.symm⟩)) | (go_at_call 70; exact Calls.quiet_of_same ((neg_any _ _).mono fun _ _ h => ⟨h.1, h.2.symm⟩))))
  go_wp2
  go_ret2
  exact ⟨rfl, below_drewN (below_setRow (HB.out.alloc HB.out.size _) HB.out.size _) _⟩

set_option maxRecDepth 100000 in
set_option maxHeartbeats 1000000 in
theorem un3_17 (a : Int) (w : World) :
    Calls Tryz.prog 20 #[.int .i64 3, .int .i64 17, .int .i64 a] w fun e w' => e = .returned (.tuple #[.int .i64 (unI 17 a), .int .i64 0]) ∧ Below w.heap.size w w' := by
  have HT := Lib.hid (table_yes 3 (by decide) (by decide) w)
  go_enter Tryz.func20, Tryz.ntmps20
  go_wp2_with fail
  refine HT.out.mono ?_
  rintro e w1 ⟨rfl, hb⟩
  have HB := Lib.hid hb
  clear hb
  have HK := Lib.hid (setRow_heap _ _ _ (tabV 3) _ _ (heap_top w1 (.cells #[.int .i64 0, .int .i64 0, .nilFunc, .nilFunc, .nilFunc, .nilFunc, .nilFunc, .nilFunc, .nilFunc, .nilFunc, .nilFunc, .nilFunc, .nilFunc, .nilFunc, .nilFunc, .nilFunc, .nilFunc, .nilFunc, .nilFunc, .nilFunc, .nilFunc] 62)))
  have hc2 : _ = some (Value.func (.func 78) #[] #[]) := (cell_of_row _ _ 2 _ _ _ HK.out).trans rfl
  have hc14 : _ = some (Value.func (.func 71) #[] #[]) := (cell_of_row _ _ 14 _ _ _ HK.out).trans rfl
  have he := run_fn_nil1
  have hn := run_nil_nil1
  unfold tblV
  go_wp2_with (first
    | (refine wpList_store_row rfl 62 _ _ rfl w1.heap.size (tabV 3) rfl rfl 62 zero21 ?z1 ?z2 ?z3 ?z4 ?_; (case z1 => exact heap_top _ _); (case z2 => rw [tabV_size]; exact info62); (case z3 => rw [tabV_size]; rfl); (case z4 => exact tabV_one 3)))
  go_quiet ((first | (go_at_call 78; exact Calls.quiet_of_same ((wrap3_any _ _).mono fun _ _ h => ⟨h.1, h.2.symm⟩)) | (go_at_call 71; exact Calls.quiet_of_same ((not_any _ _).mono fun _ _ h => ⟨h.1, h.2.symm⟩))))
  go_wp2
  go_ret2
  exact ⟨rfl, below_drewN (below_setRow (HB.out.alloc HB.out.size _) HB.out.size _) _⟩

set_option maxRecDepth 100000 in
set_option maxHeartbeats 1000000 in
theorem un3_18 (a : Int) (w : World) :
    Calls Tryz.prog 20 #[.int .i64 3, .int .i64 18, .int .i64 a] w fun e w' => e = .returned (.tuple #[.int .i64 0, .int .i64 2]) ∧ Below w.heap.size w w' := by
  have HT := Lib.hid (table_yes 3 (by decide) (by decide) w)
  go_enter Tryz.func20, Tryz.ntmps20
  go_wp2_with fail
  refine HT.out.mono ?_
  rintro e w1 ⟨rfl, hb⟩
  have HB := Lib.hid hb
  clear hb
  have HK := Lib.hid (setRow_heap _ _ _ (tabV 3) _ _ (heap_top w1 (.cells #[.int .i64 0, .int .i64 0, .nilFunc, .nilFunc, .nilFunc, .nilFunc, .nilFunc, .nilFunc, .nilFunc, .nilFunc, .nilFunc, .nilFunc, .nilFunc, .nilFunc, .nilFunc, .nilFunc, .nilFunc, .nilFunc, .nilFunc, .nilFunc, .nilFunc] 62)))
  have hc2 : _ = some (Value.func (.func 78) #[] #[]) := (cell_of_row _ _ 2 _ _ _ HK.out).trans rfl
  have hc15 : _ = some (Value.nilFunc) := (cell_of_row _ _ 15 _ _ _ HK.out).trans rfl
  have he := run_fn_nil1
  have hn := run_nil_nil1
  unfold tblV
  go_wp2_with (first
    | (refine wpList_store_row rfl 62 _ _ rfl w1.heap.size (tabV 3) rfl rfl 62 zero21 ?z1 ?z2 ?z3 ?z4 ?_; (case z1 => exact heap_top _ _); (case z2 => rw [tabV_size]; exact info62); (case z3 => rw [tabV_size]; rfl); (case z4 => exact tabV_one 3)))
  go_ret2
  exact ⟨rfl, below_setRow (HB.out.alloc HB.out.size _) HB.out.size _⟩

set_option maxRecDepth 100000 in
set_option maxHeartbeats 1000000 in
theorem un3_bad (op a : Int) (h16 : (op == 16) = false) (h17 : (op == 17) = false) (h18 : (op == 18) = false) (w : World) :
    Calls Tryz.prog 20 #[.int .i64 3, .int .i64 op, .int .i64 a] w fun e w' => e = .returned (.tuple #[.int .i64 0, .int .i64 2]) ∧ Below w.heap.size w w' := by
  have HT := Lib.hid (table_yes 3 (by decide) (by decide) w)
  go_enter Tryz.func20, Tryz.ntmps20
  go_wp2_with fail
  refine HT.out.mono ?_
  rintro e w1 ⟨rfl, hb⟩
  have HB := Lib.hid hb
  clear hb
  have HK := Lib.hid (setRow_heap _ _ _ (tabV 3) _ _ (heap_top w1 (.cells #[.int .i64 0, .int .i64 0, .nilFunc, .nilFunc, .nilFunc, .nilFunc, .nilFunc, .nilFunc, .nilFunc, .nilFunc, .nilFunc, .nilFunc, .nilFunc, .nilFunc, .nilFunc, .nilFunc, .nilFunc, .nilFunc, .nilFunc, .nilFunc, .nilFunc] 62)))
  have he := run_fn_nil1
  have hn := run_nil_nil1
  unfold tblV
  go_wp2_with (first
    | (refine wpList_store_row rfl 62 _ _ rfl w1.heap.size (tabV 3) rfl rfl 62 zero21 ?z1 ?z2 ?z3 ?z4 ?_; (case z1 => exact heap_top _ _); (case z2 => rw [tabV_size]; exact info62); (case z3 => rw [tabV_size]; rfl); (case z4 => exact tabV_one 3)))
  go_ret2
  exact ⟨rfl, below_setRow (HB.out.alloc HB.out.size _) HB.out.size _⟩

set_option maxRecDepth 100000 in
set_option maxHeartbeats 1000000 in
theorem un4_16 (a : Int) (w : World) :
    Calls Tryz.prog 20 #[.int .i64 4, .int .i64 16, .int .i64 a] w fun e w' => e = .returned (.tuple #[.int .i64 (wrR (unI 19 (wrR a))), .int .i64 0]) ∧ Below w.heap.size w w' := by
  have HT := Lib.hid (table_yes 4 (by decide) (by decide) w)
  go_enter Tryz.func20, Tryz.ntmps20
  go_wp2_with fail
  refine HT.out.mono ?_
  rintro e w1 ⟨rfl, hb⟩
  have HB := Lib.hid hb
  clear hb
  have HK := Lib.hid (setRow_heap _ _ _ (tabV 4) _ _ (heap_top w1 (.cells #[.int .i64 0, .int .i64 0, .nilFunc, .nilFunc, .nilFunc, .nilFunc, .nilFunc, .nilFunc, .nilFunc, .nilFunc, .nilFunc, .nilFunc, .nilFunc, .nilFunc, .nilFunc, .nilFunc, .nilFunc, .nilFunc, .nilFunc, .nilFunc, .nilFunc] 62)))
  have hc2 : _ = some (Value.func (.func 79) #[] #[]) := (cell_of_row _ _ 2 _ _ _ HK.out).trans rfl
  have hc13 : _ = some (Value.func (.func 86) #[] #[]) := (cell_of_row _ _ 13 _ _ _ HK.out).trans rfl
  have he := run_fn_nil1
  have hn := run_nil_nil1
  unfold tblV
  go_wp2_with (first
    | (refine wpList_store_row rfl 62 _ _ rfl w1.heap.size (tabV 4) rfl rfl 62 zero21 ?z1 ?z2 ?z3 ?z4 ?_; (case z1 => exact heap_top _ _); (case z2 => rw [tabV_size]; exact info62); (case z3 => rw [tabV_size]; rfl); (case z4 => exact tabV_one 4)))
  go_quiet ((first | (go_at_call 79; exact Calls.quiet_of_same ((wrap4_any _ _).mono fun _ _ h => ⟨h.1, h.2.symm⟩)) | (go_at_call 86; exact Calls.quiet_of_same ((opp_any _ _).mono fun _ _ h => ⟨h.1, h.2.symm⟩))))
  go_wp2
  go_ret2
  exact ⟨rfl, below_drewN (below_setRow (HB.out.alloc HB.out.size _) HB.out.size _) _⟩

set_option maxRecDepth 100000 in
set_option maxHeartbeats 1000000 in
theorem un4_17 (a : Int) (w : World) :
    Calls Tryz.prog 20 #[.int .i64 4, .int .i64 17, .int .i64 a] w fun e w' => e = .returned (.tuple #[.int .i64 0, .int .i64 2]) ∧ Below w.heap.size w w' := by
  have HT := Lib.hid (table_yes 4 (by decide) (by decide) w)
  go_enter Tryz.func20, Tryz.ntmps20
  go_wp2_with fail
  refine HT.out.mono ?_
  rintro e w1 ⟨rfl, hb⟩
  have HB := Lib.hid hb
  clear hb
  have HK := Lib.hid (setRow_heap _ _ _ (tabV 4) _ _ (heap_top w1 (.cells #[.int .i64 0, .int .i64 0, .nilFunc, .nilFunc, .nilFunc, .nilFunc, .nilFunc, .nilFunc, .nilFunc, .nilFunc, .nilFunc, .nilFunc, .nilFunc, .nilFunc, .nilFunc, .nilFunc, .nilFunc, .nilFunc, .nilFunc, .nilFunc, .nilFunc] 62)))
  have hc2 : _ = some (Value.func (.func 79) #[] #[]) := (cell_of_row _ _ 2 _ _ _ HK.out).trans rfl
  have hc14 : _ = some (Value.nilFunc) := (cell_of_row _ _ 14 _ _ _ HK.out).trans rfl
  have he := run_fn_nil1
  have hn := run_nil_nil1
  unfold tblV
  go_wp2_with (first
    | (refine wpList_store_row rfl 62 _ _ rfl w1.heap.size (tabV 4) rfl rfl 62 zero21 ?z1 ?z2 ?z3 ?z4 ?_; (case z1 => exact heap_top _ _); (case z2 => rw [tabV_size]; exact info62); (case z3 => rw [tabV_size]; rfl); (case z4 => exact tabV_one 4)))
  go_ret2
  exact ⟨rfl, below_setRow (HB.out.alloc HB.out.size _) HB.out.size _⟩

set_option maxRecDepth 100000 in
set_option maxHeartbeats 1000000 in
theorem un4_18 (a : Int) (w : World) :
    Calls Tryz.prog 20 #[.int .i64 4, .int .i64 18, .int .i64 a] w fun e w' => e = .returned (.tuple #[.int .i64 0, .int .i64 2]) ∧ Below w.heap.size w w' := by
  have HT := Lib.hid (table_yes 4 (by decide) (by decide) w)
  go_enter Tryz.func20, Tryz.ntmps20
  go_wp2_with fail
  refine HT.out.mono ?_
  rintro e w1 ⟨rfl, hb⟩
  have HB := Lib.hid hb
  clear hb
  have HK := Lib.hid (setRow_heap _ _ _ (tabV 4) _ _ (heap_top w1 (.cells #[.int .i64 0, .int .i64 0, .nilFunc, .nilFunc, .nilFunc, .nilFunc, .nilFunc, .nilFunc, .nilFunc, .nilFunc, .nilFunc, .nilFunc, .nilFunc, .nilFunc, .nilFunc, .nilFunc, .nilFunc, .nilFunc, .nilFunc, .nilFunc, .nilFunc] 62)))
  have hc2 : _ = some (Value.func (.func 79) #[] #[]) := (cell_of_row _ _ 2 _ _ _ HK.out).trans rfl
  have hc15 : _ = some (Value.nilFunc) := (cell_of_row _ _ 15 _ _ _ HK.out).trans rfl
  have he := run_fn_nil1
  have hn := run_nil_nil1
  unfold tblV
  go_wp2_with (first
    | (refine wpList_store_row rfl 62 _ _ rfl w1.heap.size (tabV 4) rfl rfl 62 zero21 ?z1 ?z2 ?z3 ?z4 ?_; (case z1 => exact heap_top _ _); (case z2 => rw [tabV_size]; exact info62); (case z3 => rw [tabV_size]; rfl); (case z4 => exact tabV_one 4)))
  go_ret2
  exact ⟨rfl, below_setRow (HB.out.alloc HB.out.size _) HB.out.size _⟩

set_option maxRecDepth 100000 in
set_option maxHeartbeats 1000000 in
theorem un4_bad (op a : Int) (h16 : (op == 16) = false) (h17 : (op == 17) = false) (h18 : (op == 18) = false) (w : World) :
    Calls Tryz.prog 20 #[.int .i64 4, .int .i64 op, .int .i64 a] w fun e w' => e = .returned (.tuple #[.int .i64 0, .int .i64 2]) ∧ Below w.heap.size w w' := by
  have HT := Lib.hid (table_yes 4 (by decide) (by decide) w)
  go_enter Tryz.func20, Tryz.ntmps20
  go_wp2_with fail
  refine HT.out.mono ?_
  rintro e w1 ⟨rfl, hb⟩
  have HB := Lib.hid hb
  clear hb
  have HK := Lib.hid (setRow_heap _ _ _ (tabV 4) _ _ (heap_top w1 (.cells #[.int .i64 0, .int .i64 0, .nilFunc, .nilFunc, .nilFunc, .nilFunc, .nilFunc, .nilFunc, .nilFunc, .nilFunc, .nilFunc, .nilFunc, .nilFunc, .nilFunc, .nilFunc, .nilFunc, .nilFunc, .nilFunc, .nilFunc, .nilFunc, .nilFunc] 62)))
  have he := run_fn_nil1
  have hn := run_nil_nil1
  unfold tblV
  go_wp2_with (first
    | (refine wpList_store_row rfl 62 _ _ rfl w1.heap.size (tabV 4) rfl rfl 62 zero21 ?z1 ?z2 ?z3 ?z4 ?_; (case z1 => exact heap_top _ _); (case z2 => rw [tabV_size]; exact info62); (case z3 => rw [tabV_size]; rfl); (case z4 => exact tabV_one 4)))
  go_ret2
  exact ⟨rfl, below_setRow (HB.out.alloc HB.out.size _) HB.out.size _⟩

end Go.Proofs.YthbmdlihfocbmaaGreatDoor
