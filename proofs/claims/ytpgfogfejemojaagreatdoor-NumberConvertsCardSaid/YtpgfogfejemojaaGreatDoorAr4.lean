/-
  number.Arith of reals, and of operators that are none.
-/
import Derived.Test.YtpgfogfejemojaaGreatDoorOps4
import Derived.Test.YtpgfogfejemojaaGreatDoorAr1
import Derived.Test.YtpgfogfejemojaaGreatDoorWrapA
import Derived.Test.YtpgfogfejemojaaGreatDoorRef1
import Derived.Laws.FloatArith
set_option linter.unusedVariables false
namespace Go.Proofs.YtpgfogfejemojaaGreatDoor
open Go.RowKit

/-- The bits that an operation without a number gives at a world. -/
def nanAt (w : World) (x y : Nat) : Nat := (Question.nanBits .f64 x y).cut (w.tape w.drawn (Question.nanBits .f64 x y))
theorem nanAt_nan (w : World) (x y : Nat) : nanB (nanAt w x y) = true := by
  rw [nanB_eq]
  unfold nanAt
  generalize w.tape w.drawn (Question.nanBits .f64 x y) = t
  apply decide_eq_true
  show 9218868437227405312 < ((t % 2) * 9223372036854775808 + 9218868437227405312 + 1 + (t / 2) % 4503599627370495) % 9223372036854775808
  have hz : t / 2 % 4503599627370495 < 4503599627370495 := Nat.mod_lt _ (by decide)
  generalize t / 2 % 4503599627370495 = z at *
  rcases Nat.mod_two_eq_zero_or_one t with h | h <;> rw [h] <;> omega
theorem run_float_none (op : BinOp) (hop : op = .add ∨ op = .sub ∨ op = .mul ∨ op = .quo) (t : TypeId) (x y : Nat) (h : floatBits op .f64 x y = none) (w : World) :
    (binOp op t (.float .f64 x) (.float .f64 y)).run Tryz.prog w = .ok (.float .f64 (nanAt w x y)) w.drew := by
  unfold floatBits at h
  rcases hop with rfl | rfl | rfl | rfl <;> simp only at h <;> simp [binOp, Op.floatArith, h, nanAt, Question.forced]
/-- The bits of an operation on two reals, with one NaN alone. -/
def arR (op : BinOp) (x y : Nat) : Int :=
  match floatBits op .f64 x y with
  | some r => bitsV r
  | none => 9221120237041090561
set_option maxRecDepth 100000 in
theorem opR0_any (a b : Int) (w : World) : Calls Tryz.prog 82 #[.int .i64 a, .int .i64 b] w fun e w' => e = .returned (.int .i64 (arR .add (bitsN a) (bitsN b))) ∧ ∃ m, w' = w.drewN m := by
  cases h : floatBits .add .f64 (bitsN a) (bitsN b) with
  | some r =>
    have hr : arR .add (bitsN a) (bitsN b) = bitsV r := by unfold arR; rw [h]
    have hop : ∀ w, (binOp .add 69 (.float .f64 (bitsN a)) (.float .f64 (bitsN b))).run Tryz.prog w = .ok (.float .f64 r) w := fun w => run_float_arith w .add 69 .f64 _ _ r h
    rw [hr]
    clear h hr
    go_enter Tryz.func82, Tryz.ntmps82
    go_wp2_with (first
      | (go_at_call 81; refine (realOf_any _ _).mono ?_; rintro e w' ⟨rfl, rfl⟩)
      | (go_at_call 80; refine (bitsOf_any _ _).mono ?_; rintro e w' ⟨rfl, rfl⟩))
    go_ret
    exact ⟨rfl, 0, rfl⟩
  | none =>
    have hr : arR .add (bitsN a) (bitsN b) = 9221120237041090561 := by unfold arR; rw [h]
    have hop : ∀ w, (binOp .add 69 (.float .f64 (bitsN a)) (.float .f64 (bitsN b))).run Tryz.prog w = .ok (.float .f64 (nanAt w (bitsN a) (bitsN b))) w.drew := run_float_none .add (by simp) 69 _ _ h
    rw [hr]
    have HV : Hid (∀ w, bitsV (nanAt w (bitsN a) (bitsN b)) = 9221120237041090561) := Lib.hid (fun w => by unfold bitsV; rw [if_pos (nanAt_nan _ _ _)])
    clear h hr
    go_enter Tryz.func82, Tryz.ntmps82
    go_wp2_with (first
      | (go_at_call 81; refine (realOf_any _ _).mono ?_; rintro e w' ⟨rfl, rfl⟩)
      | (go_at_call 80; refine (bitsOf_any _ _).mono ?_; rintro e w' ⟨rfl, rfl⟩))
    go_ret
    exact ⟨ret_int (HV.out _), 1, rfl⟩
set_option maxRecDepth 100000 in
theorem opR1_any (a b : Int) (w : World) : Calls Tryz.prog 83 #[.int .i64 a, .int .i64 b] w fun e w' => e = .returned (.int .i64 (arR .sub (bitsN a) (bitsN b))) ∧ ∃ m, w' = w.drewN m := by
  cases h : floatBits .sub .f64 (bitsN a) (bitsN b) with
  | some r =>
    have hr : arR .sub (bitsN a) (bitsN b) = bitsV r := by unfold arR; rw [h]
    have hop : ∀ w, (binOp .sub 69 (.float .f64 (bitsN a)) (.float .f64 (bitsN b))).run Tryz.prog w = .ok (.float .f64 r) w := fun w => run_float_arith w .sub 69 .f64 _ _ r h
    rw [hr]
    clear h hr
    go_enter Tryz.func83, Tryz.ntmps83
    go_wp2_with (first
      | (go_at_call 81; refine (realOf_any _ _).mono ?_; rintro e w' ⟨rfl, rfl⟩)
      | (go_at_call 80; refine (bitsOf_any _ _).mono ?_; rintro e w' ⟨rfl, rfl⟩))
    go_ret
    exact ⟨rfl, 0, rfl⟩
  | none =>
    have hr : arR .sub (bitsN a) (bitsN b) = 9221120237041090561 := by unfold arR; rw [h]
    have hop : ∀ w, (binOp .sub 69 (.float .f64 (bitsN a)) (.float .f64 (bitsN b))).run Tryz.prog w = .ok (.float .f64 (nanAt w (bitsN a) (bitsN b))) w.drew := run_float_none .sub (by simp) 69 _ _ h
    rw [hr]
    have HV : Hid (∀ w, bitsV (nanAt w (bitsN a) (bitsN b)) = 9221120237041090561) := Lib.hid (fun w => by unfold bitsV; rw [if_pos (nanAt_nan _ _ _)])
    clear h hr
    go_enter Tryz.func83, Tryz.ntmps83
    go_wp2_with (first
      | (go_at_call 81; refine (realOf_any _ _).mono ?_; rintro e w' ⟨rfl, rfl⟩)
      | (go_at_call 80; refine (bitsOf_any _ _).mono ?_; rintro e w' ⟨rfl, rfl⟩))
    go_ret
    exact ⟨ret_int (HV.out _), 1, rfl⟩
set_option maxRecDepth 100000 in
theorem opR2_any (a b : Int) (w : World) : Calls Tryz.prog 84 #[.int .i64 a, .int .i64 b] w fun e w' => e = .returned (.int .i64 (arR .mul (bitsN a) (bitsN b))) ∧ ∃ m, w' = w.drewN m := by
  cases h : floatBits .mul .f64 (bitsN a) (bitsN b) with
  | some r =>
    have hr : arR .mul (bitsN a) (bitsN b) = bitsV r := by unfold arR; rw [h]
    have hop : ∀ w, (binOp .mul 69 (.float .f64 (bitsN a)) (.float .f64 (bitsN b))).run Tryz.prog w = .ok (.float .f64 r) w := fun w => run_float_arith w .mul 69 .f64 _ _ r h
    rw [hr]
    clear h hr
    go_enter Tryz.func84, Tryz.ntmps84
    go_wp2_with (first
      | (go_at_call 81; refine (realOf_any _ _).mono ?_; rintro e w' ⟨rfl, rfl⟩)
      | (go_at_call 80; refine (bitsOf_any _ _).mono ?_; rintro e w' ⟨rfl, rfl⟩))
    go_ret
    exact ⟨rfl, 0, rfl⟩
  | none =>
    have hr : arR .mul (bitsN a) (bitsN b) = 9221120237041090561 := by unfold arR; rw [h]
    have hop : ∀ w, (binOp .mul 69 (.float .f64 (bitsN a)) (.float .f64 (bitsN b))).run Tryz.prog w = .ok (.float .f64 (nanAt w (bitsN a) (bitsN b))) w.drew := run_float_none .mul (by simp) 69 _ _ h
    rw [hr]
    have HV : Hid (∀ w, bitsV (nanAt w (bitsN a) (bitsN b)) = 9221120237041090561) := Lib.hid (fun w => by unfold bitsV; rw [if_pos (nanAt_nan _ _ _)])
    clear h hr
    go_enter Tryz.func84, Tryz.ntmps84
    go_wp2_with (first
      | (go_at_call 81; refine (realOf_any _ _).mono ?_; rintro e w' ⟨rfl, rfl⟩)
      | (go_at_call 80; refine (bitsOf_any _ _).mono ?_; rintro e w' ⟨rfl, rfl⟩))
    go_ret
    exact ⟨ret_int (HV.out _), 1, rfl⟩
set_option maxRecDepth 100000 in
theorem opR3_any (a b : Int) (w : World) : Calls Tryz.prog 85 #[.int .i64 a, .int .i64 b] w fun e w' => e = .returned (.int .i64 (arR .quo (bitsN a) (bitsN b))) ∧ ∃ m, w' = w.drewN m := by
  cases h : floatBits .quo .f64 (bitsN a) (bitsN b) with
  | some r =>
    have hr : arR .quo (bitsN a) (bitsN b) = bitsV r := by unfold arR; rw [h]
    have hop : ∀ w, (binOp .quo 69 (.float .f64 (bitsN a)) (.float .f64 (bitsN b))).run Tryz.prog w = .ok (.float .f64 r) w := fun w => run_float_arith w .quo 69 .f64 _ _ r h
    rw [hr]
    clear h hr
    go_enter Tryz.func85, Tryz.ntmps85
    go_wp2_with (first
      | (go_at_call 81; refine (realOf_any _ _).mono ?_; rintro e w' ⟨rfl, rfl⟩)
      | (go_at_call 80; refine (bitsOf_any _ _).mono ?_; rintro e w' ⟨rfl, rfl⟩))
    go_ret
    exact ⟨rfl, 0, rfl⟩
  | none =>
    have hr : arR .quo (bitsN a) (bitsN b) = 9221120237041090561 := by unfold arR; rw [h]
    have hop : ∀ w, (binOp .quo 69 (.float .f64 (bitsN a)) (.float .f64 (bitsN b))).run Tryz.prog w = .ok (.float .f64 (nanAt w (bitsN a) (bitsN b))) w.drew := run_float_none .quo (by simp) 69 _ _ h
    rw [hr]
    have HV : Hid (∀ w, bitsV (nanAt w (bitsN a) (bitsN b)) = 9221120237041090561) := Lib.hid (fun w => by unfold bitsV; rw [if_pos (nanAt_nan _ _ _)])
    clear h hr
    go_enter Tryz.func85, Tryz.ntmps85
    go_wp2_with (first
      | (go_at_call 81; refine (realOf_any _ _).mono ?_; rintro e w' ⟨rfl, rfl⟩)
      | (go_at_call 80; refine (bitsOf_any _ _).mono ?_; rintro e w' ⟨rfl, rfl⟩))
    go_ret
    exact ⟨ret_int (HV.out _), 1, rfl⟩
set_option maxRecDepth 100000 in
set_option maxHeartbeats 1000000 in
theorem ar1_bad (op a b : Int) (hop : op < 0 ∨ 9 < op) (w : World) :
    Calls Tryz.prog 19 #[.int .i64 1, .int .i64 op, .int .i64 a, .int .i64 b] w fun e w' => e = .returned (.tuple #[.int .i64 0, .int .i64 2]) ∧ Below w.heap.size w w' := by
  have HT := Lib.hid (table_yes 1 (by decide) (by decide) w)
  rcases hop with hop | hop
  all_goals
    go_enter Tryz.func19, Tryz.ntmps19
    go_wp2_with fail
    refine HT.out.mono ?_
    rintro e w1 ⟨rfl, hb⟩
    have HB := Lib.hid hb
    clear hb
    have HK := Lib.hid (setRow_heap _ _ _ (tabV 1) _ _ (heap_top w1 (.cells #[.int .i64 0, .int .i64 0, .nilFunc, .nilFunc, .nilFunc, .nilFunc, .nilFunc, .nilFunc, .nilFunc, .nilFunc, .nilFunc, .nilFunc, .nilFunc, .nilFunc, .nilFunc, .nilFunc, .nilFunc, .nilFunc, .nilFunc, .nilFunc, .nilFunc] 62)))
    have he := run_fn_nil
    have hn := run_nil_nil
    unfold tblV
    go_wp2_with (first
      | (refine wpList_store_row rfl 62 _ _ rfl w1.heap.size (tabV 1) rfl rfl 62 zero21 ?z1 ?z2 ?z3 ?z4 ?_; (case z1 => exact heap_top _ _); (case z2 => rw [tabV_size]; exact info62); (case z3 => rw [tabV_size]; rfl); (case z4 => exact tabV_one 1))
      | (go_at_call 59; refine (wrap1_any _ _).mono ?_; rintro e w' ⟨rfl, rfl⟩))
    all_goals first
      | (go_ret2; exact ⟨rfl, below_setRow (HB.out.alloc HB.out.size _) HB.out.size _⟩)
      | (exfalso; omega)

set_option maxRecDepth 100000 in
set_option maxHeartbeats 1000000 in
theorem ar2_bad (op a b : Int) (hop : op < 0 ∨ 9 < op) (w : World) :
    Calls Tryz.prog 19 #[.int .i64 2, .int .i64 op, .int .i64 a, .int .i64 b] w fun e w' => e = .returned (.tuple #[.int .i64 0, .int .i64 2]) ∧ Below w.heap.size w w' := by
  have HT := Lib.hid (table_yes 2 (by decide) (by decide) w)
  rcases hop with hop | hop
  all_goals
    go_enter Tryz.func19, Tryz.ntmps19
    go_wp2_with fail
    refine HT.out.mono ?_
    rintro e w1 ⟨rfl, hb⟩
    have HB := Lib.hid hb
    clear hb
    have HK := Lib.hid (setRow_heap _ _ _ (tabV 2) _ _ (heap_top w1 (.cells #[.int .i64 0, .int .i64 0, .nilFunc, .nilFunc, .nilFunc, .nilFunc, .nilFunc, .nilFunc, .nilFunc, .nilFunc, .nilFunc, .nilFunc, .nilFunc, .nilFunc, .nilFunc, .nilFunc, .nilFunc, .nilFunc, .nilFunc, .nilFunc, .nilFunc] 62)))
    have he := run_fn_nil
    have hn := run_nil_nil
    unfold tblV
    go_wp2_with (first
      | (refine wpList_store_row rfl 62 _ _ rfl w1.heap.size (tabV 2) rfl rfl 62 zero21 ?z1 ?z2 ?z3 ?z4 ?_; (case z1 => exact heap_top _ _); (case z2 => rw [tabV_size]; exact info62); (case z3 => rw [tabV_size]; rfl); (case z4 => exact tabV_one 2))
      | (go_at_call 77; refine (wrap2_any _ _).mono ?_; rintro e w' ⟨rfl, rfl⟩))
    all_goals first
      | (go_ret2; exact ⟨rfl, below_setRow (HB.out.alloc HB.out.size _) HB.out.size _⟩)
      | (exfalso; omega)

set_option maxRecDepth 100000 in
set_option maxHeartbeats 1000000 in
theorem ar3_bad (op a b : Int) (hop : op < 0 ∨ 9 < op) (w : World) :
    Calls Tryz.prog 19 #[.int .i64 3, .int .i64 op, .int .i64 a, .int .i64 b] w fun e w' => e = .returned (.tuple #[.int .i64 0, .int .i64 2]) ∧ Below w.heap.size w w' := by
  have HT := Lib.hid (table_yes 3 (by decide) (by decide) w)
  rcases hop with hop | hop
  all_goals
    go_enter Tryz.func19, Tryz.ntmps19
    go_wp2_with fail
    refine HT.out.mono ?_
    rintro e w1 ⟨rfl, hb⟩
    have HB := Lib.hid hb
    clear hb
    have HK := Lib.hid (setRow_heap _ _ _ (tabV 3) _ _ (heap_top w1 (.cells #[.int .i64 0, .int .i64 0, .nilFunc, .nilFunc, .nilFunc, .nilFunc, .nilFunc, .nilFunc, .nilFunc, .nilFunc, .nilFunc, .nilFunc, .nilFunc, .nilFunc, .nilFunc, .nilFunc, .nilFunc, .nilFunc, .nilFunc, .nilFunc, .nilFunc] 62)))
    have he := run_fn_nil
    have hn := run_nil_nil
    unfold tblV
    go_wp2_with (first
      | (refine wpList_store_row rfl 62 _ _ rfl w1.heap.size (tabV 3) rfl rfl 62 zero21 ?z1 ?z2 ?z3 ?z4 ?_; (case z1 => exact heap_top _ _); (case z2 => rw [tabV_size]; exact info62); (case z3 => rw [tabV_size]; rfl); (case z4 => exact tabV_one 3))
      | (go_at_call 78; refine (wrap3_any _ _).mono ?_; rintro e w' ⟨rfl, rfl⟩))
    all_goals first
      | (go_ret2; exact ⟨rfl, below_setRow (HB.out.alloc HB.out.size _) HB.out.size _⟩)
      | (exfalso; omega)

set_option maxRecDepth 100000 in
set_option maxHeartbeats 1000000 in
theorem ar4_bad (op a b : Int) (hop : op < 0 ∨ 9 < op) (w : World) :
    Calls Tryz.prog 19 #[.int .i64 4, .int .i64 op, .int .i64 a, .int .i64 b] w fun e w' => e = .returned (.tuple #[.int .i64 0, .int .i64 2]) ∧ Below w.heap.size w w' := by
  have HT := Lib.hid (table_yes 4 (by decide) (by decide) w)
  rcases hop with hop | hop
  all_goals
    go_enter Tryz.func19, Tryz.ntmps19
    go_wp2_with fail
    refine HT.out.mono ?_
    rintro e w1 ⟨rfl, hb⟩
    have HB := Lib.hid hb
    clear hb
    have HK := Lib.hid (setRow_heap _ _ _ (tabV 4) _ _ (heap_top w1 (.cells #[.int .i64 0, .int .i64 0, .nilFunc, .nilFunc, .nilFunc, .nilFunc, .nilFunc, .nilFunc, .nilFunc, .nilFunc, .nilFunc, .nilFunc, .nilFunc, .nilFunc, .nilFunc, .nilFunc, .nilFunc, .nilFunc, .nilFunc, .nilFunc, .nilFunc] 62)))
    have he := run_fn_nil
    have hn := run_nil_nil
    unfold tblV
    go_wp2_with (first
      | (refine wpList_store_row rfl 62 _ _ rfl w1.heap.size (tabV 4) rfl rfl 62 zero21 ?z1 ?z2 ?z3 ?z4 ?_; (case z1 => exact heap_top _ _); (case z2 => rw [tabV_size]; exact info62); (case z3 => rw [tabV_size]; rfl); (case z4 => exact tabV_one 4))
      | (go_at_call 79; refine (wrap4_any _ _).mono ?_; rintro e w' ⟨rfl, rfl⟩))
    all_goals first
      | (go_ret2; exact ⟨rfl, below_setRow (HB.out.alloc HB.out.size _) HB.out.size _⟩)
      | (exfalso; omega)

set_option maxRecDepth 100000 in
set_option maxHeartbeats 1000000 in
theorem ar4_4 (a b : Int) (w : World) :
    Calls Tryz.prog 19 #[.int .i64 4, .int .i64 4, .int .i64 a, .int .i64 b] w fun e w' => e = .returned (.tuple #[.int .i64 0, .int .i64 2]) ∧ Below w.heap.size w w' := by
  have HT := Lib.hid (table_yes 4 (by decide) (by decide) w)
  go_enter Tryz.func19, Tryz.ntmps19
  go_wp2_with fail
  refine HT.out.mono ?_
  rintro e w1 ⟨rfl, hb⟩
  have HB := Lib.hid hb
  clear hb
  have HK := Lib.hid (setRow_heap _ _ _ (tabV 4) _ _ (heap_top w1 (.cells #[.int .i64 0, .int .i64 0, .nilFunc, .nilFunc, .nilFunc, .nilFunc, .nilFunc, .nilFunc, .nilFunc, .nilFunc, .nilFunc, .nilFunc, .nilFunc, .nilFunc, .nilFunc, .nilFunc, .nilFunc, .nilFunc, .nilFunc, .nilFunc, .nilFunc] 62)))
  have hc3 : _ = some Value.nilFunc := (cell_of_row _ _ 7 _ _ _ HK.out).trans rfl
  have he := run_fn_nil
  have hn := run_nil_nil
  unfold tblV
  go_wp2_with (first
    | (refine wpList_store_row rfl 62 _ _ rfl w1.heap.size (tabV 4) rfl rfl 62 zero21 ?z1 ?z2 ?z3 ?z4 ?_; (case z1 => exact heap_top _ _); (case z2 => rw [tabV_size]; exact info62); (case z3 => rw [tabV_size]; rfl); (case z4 => exact tabV_one 4))
    | (go_at_call 79; refine (wrap4_any _ _).mono ?_; rintro e w' ⟨rfl, rfl⟩))
  go_ret2
  exact ⟨rfl, below_setRow (HB.out.alloc HB.out.size _) HB.out.size _⟩

set_option maxRecDepth 100000 in
set_option maxHeartbeats 1000000 in
theorem ar4_5 (a b : Int) (w : World) :
    Calls Tryz.prog 19 #[.int .i64 4, .int .i64 5, .int .i64 a, .int .i64 b] w fun e w' => e = .returned (.tuple #[.int .i64 0, .int .i64 2]) ∧ Below w.heap.size w w' := by
  have HT := Lib.hid (table_yes 4 (by decide) (by decide) w)
  go_enter Tryz.func19, Tryz.ntmps19
  go_wp2_with fail
  refine HT.out.mono ?_
  rintro e w1 ⟨rfl, hb⟩
  have HB := Lib.hid hb
  clear hb
  have HK := Lib.hid (setRow_heap _ _ _ (tabV 4) _ _ (heap_top w1 (.cells #[.int .i64 0, .int .i64 0, .nilFunc, .nilFunc, .nilFunc, .nilFunc, .nilFunc, .nilFunc, .nilFunc, .nilFunc, .nilFunc, .nilFunc, .nilFunc, .nilFunc, .nilFunc, .nilFunc, .nilFunc, .nilFunc, .nilFunc, .nilFunc, .nilFunc] 62)))
  have hc3 : _ = some Value.nilFunc := (cell_of_row _ _ 8 _ _ _ HK.out).trans rfl
  have he := run_fn_nil
  have hn := run_nil_nil
  unfold tblV
  go_wp2_with (first
    | (refine wpList_store_row rfl 62 _ _ rfl w1.heap.size (tabV 4) rfl rfl 62 zero21 ?z1 ?z2 ?z3 ?z4 ?_; (case z1 => exact heap_top _ _); (case z2 => rw [tabV_size]; exact info62); (case z3 => rw [tabV_size]; rfl); (case z4 => exact tabV_one 4))
    | (go_at_call 79; refine (wrap4_any _ _).mono ?_; rintro e w' ⟨rfl, rfl⟩))
  go_ret2
  exact ⟨rfl, below_setRow (HB.out.alloc HB.out.size _) HB.out.size _⟩

set_option maxRecDepth 100000 in
set_option maxHeartbeats 1000000 in
theorem ar4_6 (a b : Int) (w : World) :
    Calls Tryz.prog 19 #[.int .i64 4, .int .i64 6, .int .i64 a, .int .i64 b] w fun e w' => e = .returned (.tuple #[.int .i64 0, .int .i64 2]) ∧ Below w.heap.size w w' := by
  have HT := Lib.hid (table_yes 4 (by decide) (by decide) w)
  go_enter Tryz.func19, Tryz.ntmps19
  go_wp2_with fail
  refine HT.out.mono ?_
  rintro e w1 ⟨rfl, hb⟩
  have HB := Lib.hid hb
  clear hb
  have HK := Lib.hid (setRow_heap _ _ _ (tabV 4) _ _ (heap_top w1 (.cells #[.int .i64 0, .int .i64 0, .nilFunc, .nilFunc, .nilFunc, .nilFunc, .nilFunc, .nilFunc, .nilFunc, .nilFunc, .nilFunc, .nilFunc, .nilFunc, .nilFunc, .nilFunc, .nilFunc, .nilFunc, .nilFunc, .nilFunc, .nilFunc, .nilFunc] 62)))
  have hc3 : _ = some Value.nilFunc := (cell_of_row _ _ 9 _ _ _ HK.out).trans rfl
  have he := run_fn_nil
  have hn := run_nil_nil
  unfold tblV
  go_wp2_with (first
    | (refine wpList_store_row rfl 62 _ _ rfl w1.heap.size (tabV 4) rfl rfl 62 zero21 ?z1 ?z2 ?z3 ?z4 ?_; (case z1 => exact heap_top _ _); (case z2 => rw [tabV_size]; exact info62); (case z3 => rw [tabV_size]; rfl); (case z4 => exact tabV_one 4))
    | (go_at_call 79; refine (wrap4_any _ _).mono ?_; rintro e w' ⟨rfl, rfl⟩))
  go_ret2
  exact ⟨rfl, below_setRow (HB.out.alloc HB.out.size _) HB.out.size _⟩

set_option maxRecDepth 100000 in
set_option maxHeartbeats 1000000 in
theorem ar4_7 (a b : Int) (w : World) :
    Calls Tryz.prog 19 #[.int .i64 4, .int .i64 7, .int .i64 a, .int .i64 b] w fun e w' => e = .returned (.tuple #[.int .i64 0, .int .i64 2]) ∧ Below w.heap.size w w' := by
  have HT := Lib.hid (table_yes 4 (by decide) (by decide) w)
  go_enter Tryz.func19, Tryz.ntmps19
  go_wp2_with fail
  refine HT.out.mono ?_
  rintro e w1 ⟨rfl, hb⟩
  have HB := Lib.hid hb
  clear hb
  have HK := Lib.hid (setRow_heap _ _ _ (tabV 4) _ _ (heap_top w1 (.cells #[.int .i64 0, .int .i64 0, .nilFunc, .nilFunc, .nilFunc, .nilFunc, .nilFunc, .nilFunc, .nilFunc, .nilFunc, .nilFunc, .nilFunc, .nilFunc, .nilFunc, .nilFunc, .nilFunc, .nilFunc, .nilFunc, .nilFunc, .nilFunc, .nilFunc] 62)))
  have hc3 : _ = some Value.nilFunc := (cell_of_row _ _ 10 _ _ _ HK.out).trans rfl
  have he := run_fn_nil
  have hn := run_nil_nil
  unfold tblV
  go_wp2_with (first
    | (refine wpList_store_row rfl 62 _ _ rfl w1.heap.size (tabV 4) rfl rfl 62 zero21 ?z1 ?z2 ?z3 ?z4 ?_; (case z1 => exact heap_top _ _); (case z2 => rw [tabV_size]; exact info62); (case z3 => rw [tabV_size]; rfl); (case z4 => exact tabV_one 4))
    | (go_at_call 79; refine (wrap4_any _ _).mono ?_; rintro e w' ⟨rfl, rfl⟩))
  go_ret2
  exact ⟨rfl, below_setRow (HB.out.alloc HB.out.size _) HB.out.size _⟩

set_option maxRecDepth 100000 in
set_option maxHeartbeats 1000000 in
theorem ar4_8 (a b : Int) (w : World) :
    Calls Tryz.prog 19 #[.int .i64 4, .int .i64 8, .int .i64 a, .int .i64 b] w fun e w' => e = .returned (.tuple #[.int .i64 0, .int .i64 2]) ∧ Below w.heap.size w w' := by
  have HT := Lib.hid (table_yes 4 (by decide) (by decide) w)
  go_enter Tryz.func19, Tryz.ntmps19
  go_wp2_with fail
  refine HT.out.mono ?_
  rintro e w1 ⟨rfl, hb⟩
  have HB := Lib.hid hb
  clear hb
  have HK := Lib.hid (setRow_heap _ _ _ (tabV 4) _ _ (heap_top w1 (.cells #[.int .i64 0, .int .i64 0, .nilFunc, .nilFunc, .nilFunc, .nilFunc, .nilFunc, .nilFunc, .nilFunc, .nilFunc, .nilFunc, .nilFunc, .nilFunc, .nilFunc, .nilFunc, .nilFunc, .nilFunc, .nilFunc, .nilFunc, .nilFunc, .nilFunc] 62)))
  have hc3 : _ = some Value.nilFunc := (cell_of_row _ _ 11 _ _ _ HK.out).trans rfl
  have he := run_fn_nil
  have hn := run_nil_nil
  unfold tblV
  go_wp2_with (first
    | (refine wpList_store_row rfl 62 _ _ rfl w1.heap.size (tabV 4) rfl rfl 62 zero21 ?z1 ?z2 ?z3 ?z4 ?_; (case z1 => exact heap_top _ _); (case z2 => rw [tabV_size]; exact info62); (case z3 => rw [tabV_size]; rfl); (case z4 => exact tabV_one 4))
    | (go_at_call 79; refine (wrap4_any _ _).mono ?_; rintro e w' ⟨rfl, rfl⟩))
  go_ret2
  exact ⟨rfl, below_setRow (HB.out.alloc HB.out.size _) HB.out.size _⟩

set_option maxRecDepth 100000 in
set_option maxHeartbeats 1000000 in
theorem ar4_9 (a b : Int) (w : World) :
    Calls Tryz.prog 19 #[.int .i64 4, .int .i64 9, .int .i64 a, .int .i64 b] w fun e w' => e = .returned (.tuple #[.int .i64 0, .int .i64 2]) ∧ Below w.heap.size w w' := by
  have HT := Lib.hid (table_yes 4 (by decide) (by decide) w)
  go_enter Tryz.func19, Tryz.ntmps19
  go_wp2_with fail
  refine HT.out.mono ?_
  rintro e w1 ⟨rfl, hb⟩
  have HB := Lib.hid hb
  clear hb
  have HK := Lib.hid (setRow_heap _ _ _ (tabV 4) _ _ (heap_top w1 (.cells #[.int .i64 0, .int .i64 0, .nilFunc, .nilFunc, .nilFunc, .nilFunc, .nilFunc, .nilFunc, .nilFunc, .nilFunc, .nilFunc, .nilFunc, .nilFunc, .nilFunc, .nilFunc, .nilFunc, .nilFunc, .nilFunc, .nilFunc, .nilFunc, .nilFunc] 62)))
  have hc3 : _ = some Value.nilFunc := (cell_of_row _ _ 12 _ _ _ HK.out).trans rfl
  have he := run_fn_nil
  have hn := run_nil_nil
  unfold tblV
  go_wp2_with (first
    | (refine wpList_store_row rfl 62 _ _ rfl w1.heap.size (tabV 4) rfl rfl 62 zero21 ?z1 ?z2 ?z3 ?z4 ?_; (case z1 => exact heap_top _ _); (case z2 => rw [tabV_size]; exact info62); (case z3 => rw [tabV_size]; rfl); (case z4 => exact tabV_one 4))
    | (go_at_call 79; refine (wrap4_any _ _).mono ?_; rintro e w' ⟨rfl, rfl⟩))
  go_ret2
  exact ⟨rfl, below_setRow (HB.out.alloc HB.out.size _) HB.out.size _⟩

set_option maxRecDepth 100000 in
set_option maxHeartbeats 1000000 in
theorem ar4_0 (a b : Int) (w : World) :
    Calls Tryz.prog 19 #[.int .i64 4, .int .i64 0, .int .i64 a, .int .i64 b] w fun e w' => e = .returned (.tuple #[.int .i64 (wrR (arR .add (bitsN (wrR a)) (bitsN (wrR b)))), .int .i64 0]) ∧ Below w.heap.size w w' := by
  have HT := Lib.hid (table_yes 4 (by decide) (by decide) w)
  go_enter Tryz.func19, Tryz.ntmps19
  go_wp2_with fail
  refine HT.out.mono ?_
  rintro e w1 ⟨rfl, hb⟩
  have HB := Lib.hid hb
  clear hb
  have HK := Lib.hid (setRow_heap _ _ _ (tabV 4) _ _ (heap_top w1 (.cells #[.int .i64 0, .int .i64 0, .nilFunc, .nilFunc, .nilFunc, .nilFunc, .nilFunc, .nilFunc, .nilFunc, .nilFunc, .nilFunc, .nilFunc, .nilFunc, .nilFunc, .nilFunc, .nilFunc, .nilFunc, .nilFunc, .nilFunc, .nilFunc, .nilFunc] 62)))
  have hc2 : _ = some (Value.func (.func 79) #[] #[]) := (cell_of_row _ _ 2 _ _ _ HK.out).trans rfl
  have hc3 : _ = some (Value.func (.func 82) #[] #[]) := (cell_of_row _ _ 3 _ _ _ HK.out).trans rfl
  have he := run_fn_nil
  have hn := run_nil_nil
  unfold tblV
  go_wp2_with (first
    | (refine wpList_store_row rfl 62 _ _ rfl w1.heap.size (tabV 4) rfl rfl 62 zero21 ?z1 ?z2 ?z3 ?z4 ?_; (case z1 => exact heap_top _ _); (case z2 => rw [tabV_size]; exact info62); (case z3 => rw [tabV_size]; rfl); (case z4 => exact tabV_one 4))
    | (go_at_call 79; refine (wrap4_any _ _).mono ?_; rintro e w' ⟨rfl, rfl⟩))
  go_quiet ((first | (go_at_call 79; exact Calls.quiet_of_same ((wrap4_any _ _).mono fun _ _ h => ⟨h.1, h.2.symm⟩)) | (go_at_call 82; exact Calls.quiet_of (opR0_any _ _ _))))
  go_wp2
  go_ret2
  exact ⟨rfl, below_drewN (below_setRow (HB.out.alloc HB.out.size _) HB.out.size _) _⟩

set_option maxRecDepth 100000 in
set_option maxHeartbeats 1000000 in
theorem ar4_1 (a b : Int) (w : World) :
    Calls Tryz.prog 19 #[.int .i64 4, .int .i64 1, .int .i64 a, .int .i64 b] w fun e w' => e = .returned (.tuple #[.int .i64 (wrR (arR .sub (bitsN (wrR a)) (bitsN (wrR b)))), .int .i64 0]) ∧ Below w.heap.size w w' := by
  have HT := Lib.hid (table_yes 4 (by decide) (by decide) w)
  go_enter Tryz.func19, Tryz.ntmps19
  go_wp2_with fail
  refine HT.out.mono ?_
  rintro e w1 ⟨rfl, hb⟩
  have HB := Lib.hid hb
  clear hb
  have HK := Lib.hid (setRow_heap _ _ _ (tabV 4) _ _ (heap_top w1 (.cells #[.int .i64 0, .int .i64 0, .nilFunc, .nilFunc, .nilFunc, .nilFunc, .nilFunc, .nilFunc, .nilFunc, .nilFunc, .nilFunc, .nilFunc, .nilFunc, .nilFunc, .nilFunc, .nilFunc, .nilFunc, .nilFunc, .nilFunc, .nilFunc, .nilFunc] 62)))
  have hc2 : _ = some (Value.func (.func 79) #[] #[]) := (cell_of_row _ _ 2 _ _ _ HK.out).trans rfl
  have hc3 : _ = some (Value.func (.func 83) #[] #[]) := (cell_of_row _ _ 4 _ _ _ HK.out).trans rfl
  have he := run_fn_nil
  have hn := run_nil_nil
  unfold tblV
  go_wp2_with (first
    | (refine wpList_store_row rfl 62 _ _ rfl w1.heap.size (tabV 4) rfl rfl 62 zero21 ?z1 ?z2 ?z3 ?z4 ?_; (case z1 => exact heap_top _ _); (case z2 => rw [tabV_size]; exact info62); (case z3 => rw [tabV_size]; rfl); (case z4 => exact tabV_one 4))
    | (go_at_call 79; refine (wrap4_any _ _).mono ?_; rintro e w' ⟨rfl, rfl⟩))
  go_quiet ((first | (go_at_call 79; exact Calls.quiet_of_same ((wrap4_any _ _).mono fun _ _ h => ⟨h.1, h.2.symm⟩)) | (go_at_call 83; exact Calls.quiet_of (opR1_any _ _ _))))
  go_wp2
  go_ret2
  exact ⟨rfl, below_drewN (below_setRow (HB.out.alloc HB.out.size _) HB.out.size _) _⟩

set_option maxRecDepth 100000 in
set_option maxHeartbeats 1000000 in
theorem ar4_2 (a b : Int) (w : World) :
    Calls Tryz.prog 19 #[.int .i64 4, .int .i64 2, .int .i64 a, .int .i64 b] w fun e w' => e = .returned (.tuple #[.int .i64 (wrR (arR .mul (bitsN (wrR a)) (bitsN (wrR b)))), .int .i64 0]) ∧ Below w.heap.size w w' := by
  have HT := Lib.hid (table_yes 4 (by decide) (by decide) w)
  go_enter Tryz.func19, Tryz.ntmps19
  go_wp2_with fail
  refine HT.out.mono ?_
  rintro e w1 ⟨rfl, hb⟩
  have HB := Lib.hid hb
  clear hb
  have HK := Lib.hid (setRow_heap _ _ _ (tabV 4) _ _ (heap_top w1 (.cells #[.int .i64 0, .int .i64 0, .nilFunc, .nilFunc, .nilFunc, .nilFunc, .nilFunc, .nilFunc, .nilFunc, .nilFunc, .nilFunc, .nilFunc, .nilFunc, .nilFunc, .nilFunc, .nilFunc, .nilFunc, .nilFunc, .nilFunc, .nilFunc, .nilFunc] 62)))
  have hc2 : _ = some (Value.func (.func 79) #[] #[]) := (cell_of_row _ _ 2 _ _ _ HK.out).trans rfl
  have hc3 : _ = some (Value.func (.func 84) #[] #[]) := (cell_of_row _ _ 5 _ _ _ HK.out).trans rfl
  have he := run_fn_nil
  have hn := run_nil_nil
  unfold tblV
  go_wp2_with (first
    | (refine wpList_store_row rfl 62 _ _ rfl w1.heap.size (tabV 4) rfl rfl 62 zero21 ?z1 ?z2 ?z3 ?z4 ?_; (case z1 => exact heap_top _ _); (case z2 => rw [tabV_size]; exact info62); (case z3 => rw [tabV_size]; rfl); (case z4 => exact tabV_one 4))
    | (go_at_call 79; refine (wrap4_any _ _).mono ?_; rintro e w' ⟨rfl, rfl⟩))
  go_quiet ((first | (go_at_call 79; exact Calls.quiet_of_same ((wrap4_any _ _).mono fun _ _ h => ⟨h.1, h.2.symm⟩)) | (go_at_call 84; exact Calls.quiet_of (opR2_any _ _ _))))
  go_wp2
  go_ret2
  exact ⟨rfl, below_drewN (below_setRow (HB.out.alloc HB.out.size _) HB.out.size _) _⟩

set_option maxRecDepth 100000 in
set_option maxHeartbeats 1000000 in
theorem ar4_3 (a b : Int) (w : World) :
    Calls Tryz.prog 19 #[.int .i64 4, .int .i64 3, .int .i64 a, .int .i64 b] w fun e w' => e = .returned (.tuple #[.int .i64 (wrR (arR .quo (bitsN (wrR a)) (bitsN (wrR b)))), .int .i64 0]) ∧ Below w.heap.size w w' := by
  have HT := Lib.hid (table_yes 4 (by decide) (by decide) w)
  go_enter Tryz.func19, Tryz.ntmps19
  go_wp2_with fail
  refine HT.out.mono ?_
  rintro e w1 ⟨rfl, hb⟩
  have HB := Lib.hid hb
  clear hb
  have HK := Lib.hid (setRow_heap _ _ _ (tabV 4) _ _ (heap_top w1 (.cells #[.int .i64 0, .int .i64 0, .nilFunc, .nilFunc, .nilFunc, .nilFunc, .nilFunc, .nilFunc, .nilFunc, .nilFunc, .nilFunc, .nilFunc, .nilFunc, .nilFunc, .nilFunc, .nilFunc, .nilFunc, .nilFunc, .nilFunc, .nilFunc, .nilFunc] 62)))
  have hc2 : _ = some (Value.func (.func 79) #[] #[]) := (cell_of_row _ _ 2 _ _ _ HK.out).trans rfl
  have hc3 : _ = some (Value.func (.func 85) #[] #[]) := (cell_of_row _ _ 6 _ _ _ HK.out).trans rfl
  have he := run_fn_nil
  have hn := run_nil_nil
  unfold tblV
  go_wp2_with (first
    | (refine wpList_store_row rfl 62 _ _ rfl w1.heap.size (tabV 4) rfl rfl 62 zero21 ?z1 ?z2 ?z3 ?z4 ?_; (case z1 => exact heap_top _ _); (case z2 => rw [tabV_size]; exact info62); (case z3 => rw [tabV_size]; rfl); (case z4 => exact tabV_one 4))
    | (go_at_call 79; refine (wrap4_any _ _).mono ?_; rintro e w' ⟨rfl, rfl⟩))
  go_quiet ((first | (go_at_call 79; exact Calls.quiet_of_same ((wrap4_any _ _).mono fun _ _ h => ⟨h.1, h.2.symm⟩)) | (go_at_call 85; exact Calls.quiet_of (opR3_any _ _ _))))
  go_wp2
  go_ret2
  exact ⟨rfl, below_drewN (below_setRow (HB.out.alloc HB.out.size _) HB.out.size _) _⟩

end Go.Proofs.YtpgfogfejemojaaGreatDoor
