/-
  number.Wrap, number.One; a kind that is none.
-/
import Derived.Test.YtpgfogfejemojaaGreatDoorOps4
set_option linter.unusedVariables false
namespace Go.Proofs.YtpgfogfejemojaaGreatDoor
open Go.RowKit

set_option maxRecDepth 100000 in
theorem Wrap1 (n : Int) (w : World) : Calls Tryz.prog 13 #[.int .i64 1, .int .i64 n] w fun e w' => e = .returned (.tuple #[.int .i64 (n % 256), .int .i64 0]) ∧ Below w.heap.size w w' := by
  have HT := Lib.hid (table_yes 1 (by decide) (by decide) w)
  go_enter Tryz.func13, Tryz.ntmps13
  go_wp2_with fail
  refine HT.out.mono ?_
  rintro e w1 ⟨rfl, hb⟩
  have HB := Lib.hid hb
  clear hb
  have HK := Lib.hid (setRow_heap _ _ _ (tabV 1) _ _ (heap_top w1 (.cells #[.int .i64 0, .int .i64 0, .nilFunc, .nilFunc, .nilFunc, .nilFunc, .nilFunc, .nilFunc, .nilFunc, .nilFunc, .nilFunc, .nilFunc, .nilFunc, .nilFunc, .nilFunc, .nilFunc, .nilFunc, .nilFunc, .nilFunc, .nilFunc, .nilFunc] 62)))
  have hc2 : _ = some (Value.func (.func 59) #[] #[]) := (cell_of_row _ _ 2 _ _ _ HK.out).trans rfl
  unfold tblV
  go_wp2_with (first
    | (refine wpList_store_row rfl 62 _ _ rfl w1.heap.size (tabV 1) rfl rfl 62 zero21 ?z1 ?z2 ?z3 ?z4 ?_; (case z1 => exact heap_top _ _); (case z2 => rw [tabV_size]; exact info62); (case z3 => rw [tabV_size]; rfl); (case z4 => exact tabV_one 1))
    | (go_at_call 59; refine (wrap1_any _ _).mono ?_; rintro e w' ⟨rfl, rfl⟩))
  go_ret2
  exact ⟨rfl, below_setRow (HB.out.alloc HB.out.size _) HB.out.size _⟩

set_option maxRecDepth 100000 in
theorem One1 (w : World) : Calls Tryz.prog 14 #[.int .i64 1] w fun e w' => e = .returned (.tuple #[.int .i64 1, .int .i64 0]) ∧ Below w.heap.size w w' := by
  have HT := Lib.hid (table_yes 1 (by decide) (by decide) w)
  go_enter Tryz.func14, Tryz.ntmps14
  go_wp2_with fail
  refine HT.out.mono ?_
  rintro e w1 ⟨rfl, hb⟩
  have HB := Lib.hid hb
  clear hb
  have HK := Lib.hid (setRow_heap _ _ _ (tabV 1) _ _ (heap_top w1 (.cells #[.int .i64 0, .int .i64 0, .nilFunc, .nilFunc, .nilFunc, .nilFunc, .nilFunc, .nilFunc, .nilFunc, .nilFunc, .nilFunc, .nilFunc, .nilFunc, .nilFunc, .nilFunc, .nilFunc, .nilFunc, .nilFunc, .nilFunc, .nilFunc, .nilFunc] 62)))
  have hc0 : _ = some (Value.int .i64 1) := (cell_of_row _ _ 0 _ _ _ HK.out).trans rfl
  unfold tblV
  go_wp2_with (first
    | (refine wpList_store_row rfl 62 _ _ rfl w1.heap.size (tabV 1) rfl rfl 62 zero21 ?z1 ?z2 ?z3 ?z4 ?_; (case z1 => exact heap_top _ _); (case z2 => rw [tabV_size]; exact info62); (case z3 => rw [tabV_size]; rfl); (case z4 => exact tabV_one 1)))
  go_ret2
  exact ⟨rfl, below_setRow (HB.out.alloc HB.out.size _) HB.out.size _⟩

set_option maxRecDepth 100000 in
theorem Wrap2 (n : Int) (w : World) : Calls Tryz.prog 13 #[.int .i64 2, .int .i64 n] w fun e w' => e = .returned (.tuple #[.int .i64 (wrap32 n), .int .i64 0]) ∧ Below w.heap.size w w' := by
  have HT := Lib.hid (table_yes 2 (by decide) (by decide) w)
  go_enter Tryz.func13, Tryz.ntmps13
  go_wp2_with fail
  refine HT.out.mono ?_
  rintro e w1 ⟨rfl, hb⟩
  have HB := Lib.hid hb
  clear hb
  have HK := Lib.hid (setRow_heap _ _ _ (tabV 2) _ _ (heap_top w1 (.cells #[.int .i64 0, .int .i64 0, .nilFunc, .nilFunc, .nilFunc, .nilFunc, .nilFunc, .nilFunc, .nilFunc, .nilFunc, .nilFunc, .nilFunc, .nilFunc, .nilFunc, .nilFunc, .nilFunc, .nilFunc, .nilFunc, .nilFunc, .nilFunc, .nilFunc] 62)))
  have hc2 : _ = some (Value.func (.func 77) #[] #[]) := (cell_of_row _ _ 2 _ _ _ HK.out).trans rfl
  unfold tblV
  go_wp2_with (first
    | (refine wpList_store_row rfl 62 _ _ rfl w1.heap.size (tabV 2) rfl rfl 62 zero21 ?z1 ?z2 ?z3 ?z4 ?_; (case z1 => exact heap_top _ _); (case z2 => rw [tabV_size]; exact info62); (case z3 => rw [tabV_size]; rfl); (case z4 => exact tabV_one 2))
    | (go_at_call 77; refine (wrap2_any _ _).mono ?_; rintro e w' ⟨rfl, rfl⟩))
  go_ret2
  exact ⟨rfl, below_setRow (HB.out.alloc HB.out.size _) HB.out.size _⟩

set_option maxRecDepth 100000 in
theorem One2 (w : World) : Calls Tryz.prog 14 #[.int .i64 2] w fun e w' => e = .returned (.tuple #[.int .i64 1, .int .i64 0]) ∧ Below w.heap.size w w' := by
  have HT := Lib.hid (table_yes 2 (by decide) (by decide) w)
  go_enter Tryz.func14, Tryz.ntmps14
  go_wp2_with fail
  refine HT.out.mono ?_
  rintro e w1 ⟨rfl, hb⟩
  have HB := Lib.hid hb
  clear hb
  have HK := Lib.hid (setRow_heap _ _ _ (tabV 2) _ _ (heap_top w1 (.cells #[.int .i64 0, .int .i64 0, .nilFunc, .nilFunc, .nilFunc, .nilFunc, .nilFunc, .nilFunc, .nilFunc, .nilFunc, .nilFunc, .nilFunc, .nilFunc, .nilFunc, .nilFunc, .nilFunc, .nilFunc, .nilFunc, .nilFunc, .nilFunc, .nilFunc] 62)))
  have hc0 : _ = some (Value.int .i64 1) := (cell_of_row _ _ 0 _ _ _ HK.out).trans rfl
  unfold tblV
  go_wp2_with (first
    | (refine wpList_store_row rfl 62 _ _ rfl w1.heap.size (tabV 2) rfl rfl 62 zero21 ?z1 ?z2 ?z3 ?z4 ?_; (case z1 => exact heap_top _ _); (case z2 => rw [tabV_size]; exact info62); (case z3 => rw [tabV_size]; rfl); (case z4 => exact tabV_one 2)))
  go_ret2
  exact ⟨rfl, below_setRow (HB.out.alloc HB.out.size _) HB.out.size _⟩

set_option maxRecDepth 100000 in
theorem Wrap3 (n : Int) (w : World) : Calls Tryz.prog 13 #[.int .i64 3, .int .i64 n] w fun e w' => e = .returned (.tuple #[.int .i64 n, .int .i64 0]) ∧ Below w.heap.size w w' := by
  have HT := Lib.hid (table_yes 3 (by decide) (by decide) w)
  go_enter Tryz.func13, Tryz.ntmps13
  go_wp2_with fail
  refine HT.out.mono ?_
  rintro e w1 ⟨rfl, hb⟩
  have HB := Lib.hid hb
  clear hb
  have HK := Lib.hid (setRow_heap _ _ _ (tabV 3) _ _ (heap_top w1 (.cells #[.int .i64 0, .int .i64 0, .nilFunc, .nilFunc, .nilFunc, .nilFunc, .nilFunc, .nilFunc, .nilFunc, .nilFunc, .nilFunc, .nilFunc, .nilFunc, .nilFunc, .nilFunc, .nilFunc, .nilFunc, .nilFunc, .nilFunc, .nilFunc, .nilFunc] 62)))
  have hc2 : _ = some (Value.func (.func 78) #[] #[]) := (cell_of_row _ _ 2 _ _ _ HK.out).trans rfl
  unfold tblV
  go_wp2_with (first
    | (refine wpList_store_row rfl 62 _ _ rfl w1.heap.size (tabV 3) rfl rfl 62 zero21 ?z1 ?z2 ?z3 ?z4 ?_; (case z1 => exact heap_top _ _); (case z2 => rw [tabV_size]; exact info62); (case z3 => rw [tabV_size]; rfl); (case z4 => exact tabV_one 3))
    | (go_at_call 78; refine (wrap3_any _ _).mono ?_; rintro e w' ⟨rfl, rfl⟩))
  go_ret2
  exact ⟨rfl, below_setRow (HB.out.alloc HB.out.size _) HB.out.size _⟩

set_option maxRecDepth 100000 in
theorem One3 (w : World) : Calls Tryz.prog 14 #[.int .i64 3] w fun e w' => e = .returned (.tuple #[.int .i64 1, .int .i64 0]) ∧ Below w.heap.size w w' := by
  have HT := Lib.hid (table_yes 3 (by decide) (by decide) w)
  go_enter Tryz.func14, Tryz.ntmps14
  go_wp2_with fail
  refine HT.out.mono ?_
  rintro e w1 ⟨rfl, hb⟩
  have HB := Lib.hid hb
  clear hb
  have HK := Lib.hid (setRow_heap _ _ _ (tabV 3) _ _ (heap_top w1 (.cells #[.int .i64 0, .int .i64 0, .nilFunc, .nilFunc, .nilFunc, .nilFunc, .nilFunc, .nilFunc, .nilFunc, .nilFunc, .nilFunc, .nilFunc, .nilFunc, .nilFunc, .nilFunc, .nilFunc, .nilFunc, .nilFunc, .nilFunc, .nilFunc, .nilFunc] 62)))
  have hc0 : _ = some (Value.int .i64 1) := (cell_of_row _ _ 0 _ _ _ HK.out).trans rfl
  unfold tblV
  go_wp2_with (first
    | (refine wpList_store_row rfl 62 _ _ rfl w1.heap.size (tabV 3) rfl rfl 62 zero21 ?z1 ?z2 ?z3 ?z4 ?_; (case z1 => exact heap_top _ _); (case z2 => rw [tabV_size]; exact info62); (case z3 => rw [tabV_size]; rfl); (case z4 => exact tabV_one 3)))
  go_ret2
  exact ⟨rfl, below_setRow (HB.out.alloc HB.out.size _) HB.out.size _⟩

set_option maxRecDepth 100000 in
theorem Wrap4 (n : Int) (w : World) : Calls Tryz.prog 13 #[.int .i64 4, .int .i64 n] w fun e w' => e = .returned (.tuple #[.int .i64 (wrR n), .int .i64 0]) ∧ Below w.heap.size w w' := by
  have HT := Lib.hid (table_yes 4 (by decide) (by decide) w)
  go_enter Tryz.func13, Tryz.ntmps13
  go_wp2_with fail
  refine HT.out.mono ?_
  rintro e w1 ⟨rfl, hb⟩
  have HB := Lib.hid hb
  clear hb
  have HK := Lib.hid (setRow_heap _ _ _ (tabV 4) _ _ (heap_top w1 (.cells #[.int .i64 0, .int .i64 0, .nilFunc, .nilFunc, .nilFunc, .nilFunc, .nilFunc, .nilFunc, .nilFunc, .nilFunc, .nilFunc, .nilFunc, .nilFunc, .nilFunc, .nilFunc, .nilFunc, .nilFunc, .nilFunc, .nilFunc, .nilFunc, .nilFunc] 62)))
  have hc2 : _ = some (Value.func (.func 79) #[] #[]) := (cell_of_row _ _ 2 _ _ _ HK.out).trans rfl
  unfold tblV
  go_wp2_with (first
    | (refine wpList_store_row rfl 62 _ _ rfl w1.heap.size (tabV 4) rfl rfl 62 zero21 ?z1 ?z2 ?z3 ?z4 ?_; (case z1 => exact heap_top _ _); (case z2 => rw [tabV_size]; exact info62); (case z3 => rw [tabV_size]; rfl); (case z4 => exact tabV_one 4))
    | (go_at_call 79; refine (wrap4_any _ _).mono ?_; rintro e w' ⟨rfl, rfl⟩))
  go_ret2
  exact ⟨rfl, below_setRow (HB.out.alloc HB.out.size _) HB.out.size _⟩

set_option maxRecDepth 100000 in
theorem One4 (w : World) : Calls Tryz.prog 14 #[.int .i64 4] w fun e w' => e = .returned (.tuple #[.int .i64 4607182418800017408, .int .i64 0]) ∧ Below w.heap.size w w' := by
  have HT := Lib.hid (table_yes 4 (by decide) (by decide) w)
  go_enter Tryz.func14, Tryz.ntmps14
  go_wp2_with fail
  refine HT.out.mono ?_
  rintro e w1 ⟨rfl, hb⟩
  have HB := Lib.hid hb
  clear hb
  have HK := Lib.hid (setRow_heap _ _ _ (tabV 4) _ _ (heap_top w1 (.cells #[.int .i64 0, .int .i64 0, .nilFunc, .nilFunc, .nilFunc, .nilFunc, .nilFunc, .nilFunc, .nilFunc, .nilFunc, .nilFunc, .nilFunc, .nilFunc, .nilFunc, .nilFunc, .nilFunc, .nilFunc, .nilFunc, .nilFunc, .nilFunc, .nilFunc] 62)))
  have hc0 : _ = some (Value.int .i64 4607182418800017408) := (cell_of_row _ _ 0 _ _ _ HK.out).trans rfl
  unfold tblV
  go_wp2_with (first
    | (refine wpList_store_row rfl 62 _ _ rfl w1.heap.size (tabV 4) rfl rfl 62 zero21 ?z1 ?z2 ?z3 ?z4 ?_; (case z1 => exact heap_top _ _); (case z2 => rw [tabV_size]; exact info62); (case z3 => rw [tabV_size]; rfl); (case z4 => exact tabV_one 4)))
  go_ret2
  exact ⟨rfl, below_setRow (HB.out.alloc HB.out.size _) HB.out.size _⟩

set_option maxRecDepth 100000 in
theorem Wrap_no (k : Int) (n : Int) (hk : kindB k = false) (w : World) : Calls Tryz.prog 13 #[.int .i64 k, .int .i64 n] w fun e w' => e = .returned (.tuple #[.int .i64 0, .int .i64 13]) ∧ Below w.heap.size w w' := by
  have HT := Lib.hid (table_no k hk w)
  clear hk
  go_enter Tryz.func13, Tryz.ntmps13
  go_wp2_with fail
  refine HT.out.mono ?_
  rintro e w1 ⟨rfl, hb⟩
  have HB := Lib.hid hb
  clear hb
  have HK := Lib.hid (setRow_heap _ _ _ zero21 _ _ (heap_top w1 (.cells #[.int .i64 0, .int .i64 0, .nilFunc, .nilFunc, .nilFunc, .nilFunc, .nilFunc, .nilFunc, .nilFunc, .nilFunc, .nilFunc, .nilFunc, .nilFunc, .nilFunc, .nilFunc, .nilFunc, .nilFunc, .nilFunc, .nilFunc, .nilFunc, .nilFunc] 62)))
  go_wp2_with (first
    | (refine wpList_store_row rfl 62 _ _ rfl w1.heap.size zero21 rfl rfl 62 zero21 ?z1 ?z2 ?z3 ?z4 ?_; (case z1 => exact heap_top _ _); (case z2 => exact info62); (case z3 => rfl); (case z4 => exact one0)))
  go_ret2
  exact ⟨rfl, below_setRow (HB.out.alloc HB.out.size _) HB.out.size _⟩

set_option maxRecDepth 100000 in
theorem One_no (k : Int) (hk : kindB k = false) (w : World) : Calls Tryz.prog 14 #[.int .i64 k] w fun e w' => e = .returned (.tuple #[.int .i64 0, .int .i64 13]) ∧ Below w.heap.size w w' := by
  have HT := Lib.hid (table_no k hk w)
  clear hk
  go_enter Tryz.func14, Tryz.ntmps14
  go_wp2_with fail
  refine HT.out.mono ?_
  rintro e w1 ⟨rfl, hb⟩
  have HB := Lib.hid hb
  clear hb
  have HK := Lib.hid (setRow_heap _ _ _ zero21 _ _ (heap_top w1 (.cells #[.int .i64 0, .int .i64 0, .nilFunc, .nilFunc, .nilFunc, .nilFunc, .nilFunc, .nilFunc, .nilFunc, .nilFunc, .nilFunc, .nilFunc, .nilFunc, .nilFunc, .nilFunc, .nilFunc, .nilFunc, .nilFunc, .nilFunc, .nilFunc, .nilFunc] 62)))
  have hc0 : _ = some (Value.int .i64 0) := (cell_of_row _ _ 0 _ _ _ HK.out).trans rfl
  go_wp2_with (first
    | (refine wpList_store_row rfl 62 _ _ rfl w1.heap.size zero21 rfl rfl 62 zero21 ?z1 ?z2 ?z3 ?z4 ?_; (case z1 => exact heap_top _ _); (case z2 => exact info62); (case z3 => rfl); (case z4 => exact one0)))
  go_ret2
  exact ⟨rfl, below_setRow (HB.out.alloc HB.out.size _) HB.out.size _⟩

set_option maxRecDepth 100000 in
theorem Arith_no (k : Int) (op a b : Int) (hk : kindB k = false) (w : World) : Calls Tryz.prog 19 #[.int .i64 k, .int .i64 op, .int .i64 a, .int .i64 b] w fun e w' => e = .returned (.tuple #[.int .i64 0, .int .i64 13]) ∧ Below w.heap.size w w' := by
  have HT := Lib.hid (table_no k hk w)
  clear hk
  go_enter Tryz.func19, Tryz.ntmps19
  go_wp2_with fail
  refine HT.out.mono ?_
  rintro e w1 ⟨rfl, hb⟩
  have HB := Lib.hid hb
  clear hb
  have HK := Lib.hid (setRow_heap _ _ _ zero21 _ _ (heap_top w1 (.cells #[.int .i64 0, .int .i64 0, .nilFunc, .nilFunc, .nilFunc, .nilFunc, .nilFunc, .nilFunc, .nilFunc, .nilFunc, .nilFunc, .nilFunc, .nilFunc, .nilFunc, .nilFunc, .nilFunc, .nilFunc, .nilFunc, .nilFunc, .nilFunc, .nilFunc] 62)))
  go_wp2_with (first
    | (refine wpList_store_row rfl 62 _ _ rfl w1.heap.size zero21 rfl rfl 62 zero21 ?z1 ?z2 ?z3 ?z4 ?_; (case z1 => exact heap_top _ _); (case z2 => exact info62); (case z3 => rfl); (case z4 => exact one0)))
  go_ret2
  exact ⟨rfl, below_setRow (HB.out.alloc HB.out.size _) HB.out.size _⟩

set_option maxRecDepth 100000 in
theorem Unary_no (k : Int) (op a : Int) (hk : kindB k = false) (w : World) : Calls Tryz.prog 20 #[.int .i64 k, .int .i64 op, .int .i64 a] w fun e w' => e = .returned (.tuple #[.int .i64 0, .int .i64 13]) ∧ Below w.heap.size w w' := by
  have HT := Lib.hid (table_no k hk w)
  clear hk
  go_enter Tryz.func20, Tryz.ntmps20
  go_wp2_with fail
  refine HT.out.mono ?_
  rintro e w1 ⟨rfl, hb⟩
  have HB := Lib.hid hb
  clear hb
  have HK := Lib.hid (setRow_heap _ _ _ zero21 _ _ (heap_top w1 (.cells #[.int .i64 0, .int .i64 0, .nilFunc, .nilFunc, .nilFunc, .nilFunc, .nilFunc, .nilFunc, .nilFunc, .nilFunc, .nilFunc, .nilFunc, .nilFunc, .nilFunc, .nilFunc, .nilFunc, .nilFunc, .nilFunc, .nilFunc, .nilFunc, .nilFunc] 62)))
  go_wp2_with (first
    | (refine wpList_store_row rfl 62 _ _ rfl w1.heap.size zero21 rfl rfl 62 zero21 ?z1 ?z2 ?z3 ?z4 ?_; (case z1 => exact heap_top _ _); (case z2 => exact info62); (case z3 => rfl); (case z4 => exact one0)))
  go_ret2
  exact ⟨rfl, below_setRow (HB.out.alloc HB.out.size _) HB.out.size _⟩

set_option maxRecDepth 100000 in
theorem Compare_no (k : Int) (op a b : Int) (hk : kindB k = false) (w : World) : Calls Tryz.prog 25 #[.int .i64 k, .int .i64 op, .int .i64 a, .int .i64 b] w fun e w' => e = .returned (.tuple #[.bool false, .int .i64 13]) ∧ Below w.heap.size w w' := by
  have HT := Lib.hid (table_no k hk w)
  clear hk
  go_enter Tryz.func25, Tryz.ntmps25
  go_wp2_with fail
  refine HT.out.mono ?_
  rintro e w1 ⟨rfl, hb⟩
  have HB := Lib.hid hb
  clear hb
  have HK := Lib.hid (setRow_heap _ _ _ zero21 _ _ (heap_top w1 (.cells #[.int .i64 0, .int .i64 0, .nilFunc, .nilFunc, .nilFunc, .nilFunc, .nilFunc, .nilFunc, .nilFunc, .nilFunc, .nilFunc, .nilFunc, .nilFunc, .nilFunc, .nilFunc, .nilFunc, .nilFunc, .nilFunc, .nilFunc, .nilFunc, .nilFunc] 62)))
  go_wp2_with (first
    | (refine wpList_store_row rfl 62 _ _ rfl w1.heap.size zero21 rfl rfl 62 zero21 ?z1 ?z2 ?z3 ?z4 ?_; (case z1 => exact heap_top _ _); (case z2 => exact info62); (case z3 => rfl); (case z4 => exact one0)))
  go_ret2
  exact ⟨rfl, below_setRow (HB.out.alloc HB.out.size _) HB.out.size _⟩

set_option maxRecDepth 100000 in
theorem Convert_no (k : Int) (to n : Int) (hk : kindB k = false) (w : World) : Calls Tryz.prog 28 #[.int .i64 k, .int .i64 to, .int .i64 n] w fun e w' => e = .returned (.tuple #[.int .i64 0, .int .i64 13]) ∧ Below w.heap.size w w' := by
  have HT := Lib.hid (table_no k hk w)
  clear hk
  go_enter Tryz.func28, Tryz.ntmps28
  go_wp2_with fail
  refine HT.out.mono ?_
  rintro e w1 ⟨rfl, hb⟩
  have HB := Lib.hid hb
  clear hb
  have HK := Lib.hid (setRow_heap _ _ _ zero21 _ _ (heap_top w1 (.cells #[.int .i64 0, .int .i64 0, .nilFunc, .nilFunc, .nilFunc, .nilFunc, .nilFunc, .nilFunc, .nilFunc, .nilFunc, .nilFunc, .nilFunc, .nilFunc, .nilFunc, .nilFunc, .nilFunc, .nilFunc, .nilFunc, .nilFunc, .nilFunc, .nilFunc] 62)))
  go_wp2_with (first
    | (refine wpList_store_row rfl 62 _ _ rfl w1.heap.size zero21 rfl rfl 62 zero21 ?z1 ?z2 ?z3 ?z4 ?_; (case z1 => exact heap_top _ _); (case z2 => exact info62); (case z3 => rfl); (case z4 => exact one0)))
  go_ret2
  exact ⟨rfl, below_setRow (HB.out.alloc HB.out.size _) HB.out.size _⟩

set_option maxRecDepth 100000 in
theorem Text_no (k : Int) (n : Int) (hk : kindB k = false) (w : World) : Calls Tryz.prog 30 #[.int .i64 k, .int .i64 n] w fun e w' => e = .returned (.tuple #[.string ⟨#[]⟩, .int .i64 13]) ∧ Below w.heap.size w w' := by
  have HT := Lib.hid (table_no k hk w)
  clear hk
  go_enter Tryz.func30, Tryz.ntmps30
  go_wp2_with fail
  refine HT.out.mono ?_
  rintro e w1 ⟨rfl, hb⟩
  have HB := Lib.hid hb
  clear hb
  have HK := Lib.hid (setRow_heap _ _ _ zero21 _ _ (heap_top w1 (.cells #[.int .i64 0, .int .i64 0, .nilFunc, .nilFunc, .nilFunc, .nilFunc, .nilFunc, .nilFunc, .nilFunc, .nilFunc, .nilFunc, .nilFunc, .nilFunc, .nilFunc, .nilFunc, .nilFunc, .nilFunc, .nilFunc, .nilFunc, .nilFunc, .nilFunc] 62)))
  go_wp2_with (first
    | (refine wpList_store_row rfl 62 _ _ rfl w1.heap.size zero21 rfl rfl 62 zero21 ?z1 ?z2 ?z3 ?z4 ?_; (case z1 => exact heap_top _ _); (case z2 => exact info62); (case z3 => rfl); (case z4 => exact one0)))
  go_ret2
  exact ⟨rfl, below_setRow (HB.out.alloc HB.out.size _) HB.out.size _⟩

set_option maxRecDepth 100000 in
theorem Parse_no (k : Int) (s : ByteArray) (hk : kindB k = false) (w : World) : Calls Tryz.prog 32 #[.int .i64 k, .string s] w fun e w' => e = .returned (.tuple #[.int .i64 0, .int .i64 13]) ∧ Below w.heap.size w w' := by
  have HT := Lib.hid (table_no k hk w)
  clear hk
  go_enter Tryz.func32, Tryz.ntmps32
  go_wp2_with fail
  refine HT.out.mono ?_
  rintro e w1 ⟨rfl, hb⟩
  have HB := Lib.hid hb
  clear hb
  have HK := Lib.hid (setRow_heap _ _ _ zero21 _ _ (heap_top w1 (.cells #[.int .i64 0, .int .i64 0, .nilFunc, .nilFunc, .nilFunc, .nilFunc, .nilFunc, .nilFunc, .nilFunc, .nilFunc, .nilFunc, .nilFunc, .nilFunc, .nilFunc, .nilFunc, .nilFunc, .nilFunc, .nilFunc, .nilFunc, .nilFunc, .nilFunc] 62)))
  go_wp2_with (first
    | (refine wpList_store_row rfl 62 _ _ rfl w1.heap.size zero21 rfl rfl 62 zero21 ?z1 ?z2 ?z3 ?z4 ?_; (case z1 => exact heap_top _ _); (case z2 => exact info62); (case z3 => rfl); (case z4 => exact one0)))
  go_ret2
  exact ⟨rfl, below_setRow (HB.out.alloc HB.out.size _) HB.out.size _⟩

end Go.Proofs.YtpgfogfejemojaaGreatDoor
