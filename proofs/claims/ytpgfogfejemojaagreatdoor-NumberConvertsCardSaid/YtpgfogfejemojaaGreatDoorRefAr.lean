/-
  acheronref04.Arith.
-/
import Derived.Test.YtpgfogfejemojaaGreatDoorRef1
import Derived.Test.YtpgfogfejemojaaGreatDoorRefCmp
import Derived.Test.YtpgfogfejemojaaGreatDoorAr4
set_option linter.unusedVariables false
namespace Go.Proofs.YtpgfogfejemojaaGreatDoor
open Go.RowKit

set_option maxRecDepth 100000 in
theorem refAr_0 (k a b : Int) (wr : Int → Int) (k4 : (k == 4) = false) (hw : ∀ n w, Calls Tryz.prog 17 #[.int .i64 k, .int .i64 n] w fun e w' => e = .returned (.int .i64 (wr n)) ∧ w = w') (w : World) :
    Calls Tryz.prog 22 #[.int .i64 k, .int .i64 0, .int .i64 a, .int .i64 b] w fun e w' => e = .returned (.tuple #[.int .i64 (wr (opI 0 (wr a) (wr b))), .bool true]) ∧ w = w' := by
  have HW := Lib.hid hw
  clear hw
  go_enter Tryz.func22, Tryz.ntmps22
  go_wp2_with fail
  refine (HW.out _ _).mono ?_
  rintro e w1 ⟨rfl, rfl⟩
  go_wp2_with fail
  refine (HW.out _ _).mono ?_
  rintro e w2 ⟨rfl, rfl⟩
  go_wp2_with fail
  refine (HW.out _ _).mono ?_
  rintro e w3 ⟨rfl, rfl⟩
  go_wp2_with fail
  go_ret2
  exact ⟨rfl, rfl⟩
set_option maxRecDepth 100000 in
theorem refAr_1 (k a b : Int) (wr : Int → Int) (k4 : (k == 4) = false) (hw : ∀ n w, Calls Tryz.prog 17 #[.int .i64 k, .int .i64 n] w fun e w' => e = .returned (.int .i64 (wr n)) ∧ w = w') (w : World) :
    Calls Tryz.prog 22 #[.int .i64 k, .int .i64 1, .int .i64 a, .int .i64 b] w fun e w' => e = .returned (.tuple #[.int .i64 (wr (opI 1 (wr a) (wr b))), .bool true]) ∧ w = w' := by
  have HW := Lib.hid hw
  clear hw
  go_enter Tryz.func22, Tryz.ntmps22
  go_wp2_with fail
  refine (HW.out _ _).mono ?_
  rintro e w1 ⟨rfl, rfl⟩
  go_wp2_with fail
  refine (HW.out _ _).mono ?_
  rintro e w2 ⟨rfl, rfl⟩
  go_wp2_with fail
  refine (HW.out _ _).mono ?_
  rintro e w3 ⟨rfl, rfl⟩
  go_wp2_with fail
  go_ret2
  exact ⟨rfl, rfl⟩
set_option maxRecDepth 100000 in
theorem refAr_2 (k a b : Int) (wr : Int → Int) (k4 : (k == 4) = false) (hw : ∀ n w, Calls Tryz.prog 17 #[.int .i64 k, .int .i64 n] w fun e w' => e = .returned (.int .i64 (wr n)) ∧ w = w') (w : World) :
    Calls Tryz.prog 22 #[.int .i64 k, .int .i64 2, .int .i64 a, .int .i64 b] w fun e w' => e = .returned (.tuple #[.int .i64 (wr (opI 2 (wr a) (wr b))), .bool true]) ∧ w = w' := by
  have HW := Lib.hid hw
  clear hw
  go_enter Tryz.func22, Tryz.ntmps22
  go_wp2_with fail
  refine (HW.out _ _).mono ?_
  rintro e w1 ⟨rfl, rfl⟩
  go_wp2_with fail
  refine (HW.out _ _).mono ?_
  rintro e w2 ⟨rfl, rfl⟩
  go_wp2_with fail
  refine (HW.out _ _).mono ?_
  rintro e w3 ⟨rfl, rfl⟩
  go_wp2_with fail
  go_ret2
  exact ⟨rfl, rfl⟩
set_option maxRecDepth 100000 in
theorem refAr_5 (k a b : Int) (wr : Int → Int) (k4 : (k == 4) = false) (hw : ∀ n w, Calls Tryz.prog 17 #[.int .i64 k, .int .i64 n] w fun e w' => e = .returned (.int .i64 (wr n)) ∧ w = w') (w : World) :
    Calls Tryz.prog 22 #[.int .i64 k, .int .i64 5, .int .i64 a, .int .i64 b] w fun e w' => e = .returned (.tuple #[.int .i64 (wr (opI 5 (wr a) (wr b))), .bool true]) ∧ w = w' := by
  have HW := Lib.hid hw
  clear hw
  go_enter Tryz.func22, Tryz.ntmps22
  go_wp2_with fail
  refine (HW.out _ _).mono ?_
  rintro e w1 ⟨rfl, rfl⟩
  go_wp2_with fail
  refine (HW.out _ _).mono ?_
  rintro e w2 ⟨rfl, rfl⟩
  go_wp2_with fail
  refine (HW.out _ _).mono ?_
  rintro e w3 ⟨rfl, rfl⟩
  go_wp2_with fail
  go_ret2
  exact ⟨rfl, rfl⟩
set_option maxRecDepth 100000 in
theorem refAr_6 (k a b : Int) (wr : Int → Int) (k4 : (k == 4) = false) (hw : ∀ n w, Calls Tryz.prog 17 #[.int .i64 k, .int .i64 n] w fun e w' => e = .returned (.int .i64 (wr n)) ∧ w = w') (w : World) :
    Calls Tryz.prog 22 #[.int .i64 k, .int .i64 6, .int .i64 a, .int .i64 b] w fun e w' => e = .returned (.tuple #[.int .i64 (wr (opI 6 (wr a) (wr b))), .bool true]) ∧ w = w' := by
  have HW := Lib.hid hw
  clear hw
  go_enter Tryz.func22, Tryz.ntmps22
  go_wp2_with fail
  refine (HW.out _ _).mono ?_
  rintro e w1 ⟨rfl, rfl⟩
  go_wp2_with fail
  refine (HW.out _ _).mono ?_
  rintro e w2 ⟨rfl, rfl⟩
  go_wp2_with fail
  refine (HW.out _ _).mono ?_
  rintro e w3 ⟨rfl, rfl⟩
  go_wp2_with fail
  go_ret2
  exact ⟨rfl, rfl⟩
set_option maxRecDepth 100000 in
theorem refAr_7 (k a b : Int) (wr : Int → Int) (k4 : (k == 4) = false) (hw : ∀ n w, Calls Tryz.prog 17 #[.int .i64 k, .int .i64 n] w fun e w' => e = .returned (.int .i64 (wr n)) ∧ w = w') (w : World) :
    Calls Tryz.prog 22 #[.int .i64 k, .int .i64 7, .int .i64 a, .int .i64 b] w fun e w' => e = .returned (.tuple #[.int .i64 (wr (opI 7 (wr a) (wr b))), .bool true]) ∧ w = w' := by
  have HW := Lib.hid hw
  clear hw
  go_enter Tryz.func22, Tryz.ntmps22
  go_wp2_with fail
  refine (HW.out _ _).mono ?_
  rintro e w1 ⟨rfl, rfl⟩
  go_wp2_with fail
  refine (HW.out _ _).mono ?_
  rintro e w2 ⟨rfl, rfl⟩
  go_wp2_with fail
  refine (HW.out _ _).mono ?_
  rintro e w3 ⟨rfl, rfl⟩
  go_wp2_with fail
  go_ret2
  exact ⟨rfl, rfl⟩
set_option maxRecDepth 100000 in
theorem refAr_3z (k a b : Int) (wr : Int → Int) (k4 : (k == 4) = false) (hw : ∀ n w, Calls Tryz.prog 17 #[.int .i64 k, .int .i64 n] w fun e w' => e = .returned (.int .i64 (wr n)) ∧ w = w') (h0 : (wr b == 0) = true) (w : World) :
    Calls Tryz.prog 22 #[.int .i64 k, .int .i64 3, .int .i64 a, .int .i64 b] w fun e w' => e = .returned (.tuple #[.int .i64 0, .bool false]) ∧ w = w' := by
  have HW := Lib.hid hw
  clear hw
  go_enter Tryz.func22, Tryz.ntmps22
  go_wp2_with fail
  refine (HW.out _ _).mono ?_
  rintro e w1 ⟨rfl, rfl⟩
  go_wp2_with fail
  refine (HW.out _ _).mono ?_
  rintro e w2 ⟨rfl, rfl⟩
  go_wp2_with fail
  go_ret2
  exact ⟨rfl, rfl⟩
set_option maxRecDepth 100000 in
theorem refAr_3m (k a b : Int) (wr : Int → Int) (k4 : (k == 4) = false) (hw : ∀ n w, Calls Tryz.prog 17 #[.int .i64 k, .int .i64 n] w fun e w' => e = .returned (.int .i64 (wr n)) ∧ w = w') (h0 : (wr b == 0) = false) (h1 : (wr b == -1) = true) (w : World) :
    Calls Tryz.prog 22 #[.int .i64 k, .int .i64 3, .int .i64 a, .int .i64 b] w fun e w' => e = .returned (.tuple #[.int .i64 (wr (wrap64 (-(wr a)))), .bool true]) ∧ w = w' := by
  have HW := Lib.hid hw
  clear hw
  go_enter Tryz.func22, Tryz.ntmps22
  go_wp2_with fail
  refine (HW.out _ _).mono ?_
  rintro e w1 ⟨rfl, rfl⟩
  go_wp2_with fail
  refine (HW.out _ _).mono ?_
  rintro e w2 ⟨rfl, rfl⟩
  go_wp2_with fail
  skip
  refine (HW.out _ _).mono ?_
  rintro e w3 ⟨rfl, rfl⟩
  go_wp2_with fail
  go_ret2
  exact ⟨rfl, rfl⟩
set_option maxRecDepth 100000 in
theorem refAr_3 (k a b : Int) (wr : Int → Int) (k4 : (k == 4) = false) (hw : ∀ n w, Calls Tryz.prog 17 #[.int .i64 k, .int .i64 n] w fun e w' => e = .returned (.int .i64 (wr n)) ∧ w = w') (h0 : (wr b == 0) = false) (h1 : (wr b == -1) = false) (w : World) :
    Calls Tryz.prog 22 #[.int .i64 k, .int .i64 3, .int .i64 a, .int .i64 b] w fun e w' => e = .returned (.tuple #[.int .i64 (wr (wrap64 ((wr a).tdiv (wr b)))), .bool true]) ∧ w = w' := by
  have HW := Lib.hid hw
  clear hw
  have hne : wr b ≠ 0 := by simpa using h0
  go_enter Tryz.func22, Tryz.ntmps22
  go_wp2_with fail
  refine (HW.out _ _).mono ?_
  rintro e w1 ⟨rfl, rfl⟩
  go_wp2_with fail
  refine (HW.out _ _).mono ?_
  rintro e w2 ⟨rfl, rfl⟩
  go_wp2_with fail
  skip
  refine (HW.out _ _).mono ?_
  rintro e w3 ⟨rfl, rfl⟩
  go_wp2_with fail
  go_ret2
  exact ⟨rfl, rfl⟩
set_option maxRecDepth 100000 in
theorem refAr_4z (k a b : Int) (wr : Int → Int) (k4 : (k == 4) = false) (hw : ∀ n w, Calls Tryz.prog 17 #[.int .i64 k, .int .i64 n] w fun e w' => e = .returned (.int .i64 (wr n)) ∧ w = w') (h0 : (wr b == 0) = true) (w : World) :
    Calls Tryz.prog 22 #[.int .i64 k, .int .i64 4, .int .i64 a, .int .i64 b] w fun e w' => e = .returned (.tuple #[.int .i64 0, .bool false]) ∧ w = w' := by
  have HW := Lib.hid hw
  clear hw
  go_enter Tryz.func22, Tryz.ntmps22
  go_wp2_with fail
  refine (HW.out _ _).mono ?_
  rintro e w1 ⟨rfl, rfl⟩
  go_wp2_with fail
  refine (HW.out _ _).mono ?_
  rintro e w2 ⟨rfl, rfl⟩
  go_wp2_with fail
  go_ret2
  exact ⟨rfl, rfl⟩
set_option maxRecDepth 100000 in
theorem refAr_4m (k a b : Int) (wr : Int → Int) (k4 : (k == 4) = false) (hw : ∀ n w, Calls Tryz.prog 17 #[.int .i64 k, .int .i64 n] w fun e w' => e = .returned (.int .i64 (wr n)) ∧ w = w') (h0 : (wr b == 0) = false) (h1 : (wr b == -1) = true) (w : World) :
    Calls Tryz.prog 22 #[.int .i64 k, .int .i64 4, .int .i64 a, .int .i64 b] w fun e w' => e = .returned (.tuple #[.int .i64 (wr (wrap64 (wr a - wrap64 (wr b * wrap64 (-(wr a)))))), .bool true]) ∧ w = w' := by
  have HW := Lib.hid hw
  clear hw
  go_enter Tryz.func22, Tryz.ntmps22
  go_wp2_with fail
  refine (HW.out _ _).mono ?_
  rintro e w1 ⟨rfl, rfl⟩
  go_wp2_with fail
  refine (HW.out _ _).mono ?_
  rintro e w2 ⟨rfl, rfl⟩
  go_wp2_with fail
  skip
  refine (HW.out _ _).mono ?_
  rintro e w3 ⟨rfl, rfl⟩
  go_wp2_with fail
  go_ret2
  exact ⟨rfl, rfl⟩
set_option maxRecDepth 100000 in
theorem refAr_4 (k a b : Int) (wr : Int → Int) (k4 : (k == 4) = false) (hw : ∀ n w, Calls Tryz.prog 17 #[.int .i64 k, .int .i64 n] w fun e w' => e = .returned (.int .i64 (wr n)) ∧ w = w') (h0 : (wr b == 0) = false) (h1 : (wr b == -1) = false) (w : World) :
    Calls Tryz.prog 22 #[.int .i64 k, .int .i64 4, .int .i64 a, .int .i64 b] w fun e w' => e = .returned (.tuple #[.int .i64 (wr (wrap64 (wr a - wrap64 (wr b * wrap64 ((wr a).tdiv (wr b)))))), .bool true]) ∧ w = w' := by
  have HW := Lib.hid hw
  clear hw
  have hne : wr b ≠ 0 := by simpa using h0
  go_enter Tryz.func22, Tryz.ntmps22
  go_wp2_with fail
  refine (HW.out _ _).mono ?_
  rintro e w1 ⟨rfl, rfl⟩
  go_wp2_with fail
  refine (HW.out _ _).mono ?_
  rintro e w2 ⟨rfl, rfl⟩
  go_wp2_with fail
  skip
  refine (HW.out _ _).mono ?_
  rintro e w3 ⟨rfl, rfl⟩
  go_wp2_with fail
  go_ret2
  exact ⟨rfl, rfl⟩
set_option maxRecDepth 100000 in
theorem refAr_8 (k a b : Int) (wr : Int → Int) (k4 : (k == 4) = false) (hw : ∀ n w, Calls Tryz.prog 17 #[.int .i64 k, .int .i64 n] w fun e w' => e = .returned (.int .i64 (wr n)) ∧ w = w') (r : Int) (hs : ∀ w, Calls Tryz.prog 36 #[.int .i64 k, .int .i64 8, .int .i64 (wr a), .int .i64 (wrap32 b)] w fun e w' => e = .returned (.int .i64 r) ∧ w = w') (w : World) :
    Calls Tryz.prog 22 #[.int .i64 k, .int .i64 8, .int .i64 a, .int .i64 b] w fun e w' => e = .returned (.tuple #[.int .i64 r, .bool true]) ∧ w = w' := by
  have HW := Lib.hid hw
  clear hw
  have HS := Lib.hid hs
  clear hs
  go_enter Tryz.func22, Tryz.ntmps22
  go_wp2_with fail
  refine (HW.out _ _).mono ?_
  rintro e w1 ⟨rfl, rfl⟩
  go_wp2_with fail
  refine (refWrap2 _ _).mono ?_
  rintro e w2 ⟨rfl, rfl⟩
  go_wp2_with fail
  refine (HS.out _).mono ?_
  rintro e w3 ⟨rfl, rfl⟩
  go_wp2_with fail
  go_ret2
  exact ⟨rfl, rfl⟩
set_option maxRecDepth 100000 in
theorem refAr_9 (k a b : Int) (wr : Int → Int) (k4 : (k == 4) = false) (hw : ∀ n w, Calls Tryz.prog 17 #[.int .i64 k, .int .i64 n] w fun e w' => e = .returned (.int .i64 (wr n)) ∧ w = w') (r : Int) (hs : ∀ w, Calls Tryz.prog 36 #[.int .i64 k, .int .i64 9, .int .i64 (wr a), .int .i64 (wrap32 b)] w fun e w' => e = .returned (.int .i64 r) ∧ w = w') (w : World) :
    Calls Tryz.prog 22 #[.int .i64 k, .int .i64 9, .int .i64 a, .int .i64 b] w fun e w' => e = .returned (.tuple #[.int .i64 r, .bool true]) ∧ w = w' := by
  have HW := Lib.hid hw
  clear hw
  have HS := Lib.hid hs
  clear hs
  go_enter Tryz.func22, Tryz.ntmps22
  go_wp2_with fail
  refine (HW.out _ _).mono ?_
  rintro e w1 ⟨rfl, rfl⟩
  go_wp2_with fail
  refine (refWrap2 _ _).mono ?_
  rintro e w2 ⟨rfl, rfl⟩
  go_wp2_with fail
  refine (HS.out _).mono ?_
  rintro e w3 ⟨rfl, rfl⟩
  go_wp2_with fail
  go_ret2
  exact ⟨rfl, rfl⟩
theorem wrR_wrap (r : Nat) (h : r < 18446744073709551616) : wrR (wrap64 r) = bitsV r := by
  unfold wrR
  have : bitsN (wrap64 r) = r := by unfold bitsN wrap64; rw [IntKind.wrap_u64]; omega
  rw [this]
theorem bitsV_rng (r : Nat) : -9223372036854775808 ≤ bitsV r ∧ bitsV r ≤ 9223372036854775807 := by
  unfold bitsV; split
  · decide
  · unfold wrap64; omega
theorem wrR_bitsV (r : Nat) (h : r < 18446744073709551616) : wrR (bitsV r) = bitsV r := by
  by_cases hn : nanB r = true
  · have : bitsV r = 9221120237041090561 := by unfold bitsV; rw [if_pos hn]
    rw [this]; decide +kernel
  · have : bitsV r = wrap64 r := by unfold bitsV; rw [if_neg hn]
    rw [this, wrR_wrap r h, this]
theorem nanAt_lt (w : World) (x y : Nat) : nanAt w x y < 18446744073709551616 := by
  unfold nanAt
  generalize w.tape w.drawn (Question.nanBits .f64 x y) = t
  show (t % 2) * 9223372036854775808 + 9218868437227405312 + 1 + (t / 2) % 4503599627370495 < 18446744073709551616
  have hz : t / 2 % 4503599627370495 < 4503599627370495 := Nat.mod_lt _ (by decide)
  generalize t / 2 % 4503599627370495 = z at *
  rcases Nat.mod_two_eq_zero_or_one t with h | h <;> rw [h] <;> omega
theorem floatBits_lt {op : BinOp} {x y r : Nat} (h : floatBits op .f64 x y = some r) : r < 18446744073709551616 := by
  have := floatBits_wf h
  simpa [Lit.wf] using this
set_option maxRecDepth 100000 in
theorem refBits_any (r : Nat) (h : r < 18446744073709551616) (w : World) : Calls Tryz.prog 40 #[.float .f64 r] w fun e w' => e = .returned (.int .i64 (bitsV r)) ∧ w = w' := by
  have h1 := run_bits
  have HW : Hid (∀ w, Calls Tryz.prog 17 #[.int .i64 4, .int .i64 (wrap64 r)] w fun e w' => e = .returned (.int .i64 (bitsV r)) ∧ w = w') := Lib.hid (fun w => by
    rw [← wrR_wrap r h]; exact refWrap4 _ (by unfold wrap64; omega) (by unfold wrap64; omega) w)
  clear h
  go_enter Tryz.func40, Tryz.ntmps40
  go_wp2_with fail
  skip
  refine (HW.out _).mono ?_
  rintro e w3 ⟨rfl, rfl⟩
  go_wp2_with fail
  go_ret
  exact ⟨rfl, rfl⟩
set_option maxRecDepth 100000 in
theorem refReals_0 (x y : Nat) (w : World) : Calls Tryz.prog 37 #[.int .i64 0, .float .f64 x, .float .f64 y] w fun e w' => e = .returned (.int .i64 (arR .add x y)) ∧ ∃ m, w' = w.drewN m := by
  cases h : floatBits .add .f64 x y with
  | some r =>
    have hr : arR .add x y = bitsV r := by unfold arR; rw [h]
    have hop : ∀ w, (binOp .add 69 (.float .f64 x) (.float .f64 y)).run Tryz.prog w = .ok (.float .f64 r) w := fun w => run_float_arith w .add 69 .f64 _ _ r h
    have HB := Lib.hid (fun w => refBits_any r (floatBits_lt h) w)
    rw [hr]
    clear h hr
    go_enter Tryz.func37, Tryz.ntmps37
    go_wp2_with fail
    skip
    refine (HB.out _).mono ?_
    rintro e w3 ⟨rfl, rfl⟩
    go_wp2_with fail
    go_ret
    exact ⟨rfl, 0, rfl⟩
  | none =>
    have hr : arR .add x y = 9221120237041090561 := by unfold arR; rw [h]
    have hop : ∀ w, (binOp .add 69 (.float .f64 x) (.float .f64 y)).run Tryz.prog w = .ok (.float .f64 (nanAt w x y)) w.drew := run_float_none .add (by simp) 69 _ _ h
    rw [hr]
    have HB : Hid (∀ w' w, Calls Tryz.prog 40 #[.float .f64 (nanAt w' x y)] w fun e w'' => e = .returned (.int .i64 9221120237041090561) ∧ w = w'') := Lib.hid (fun w' w => by
      have hv : bitsV (nanAt w' x y) = 9221120237041090561 := by unfold bitsV; rw [if_pos (nanAt_nan _ _ _)]
      rw [← hv]; exact refBits_any _ (nanAt_lt _ _ _) w)
    clear h hr
    go_enter Tryz.func37, Tryz.ntmps37
    go_wp2_with fail
    refine (HB.out _ _).mono ?_
    rintro e w3 ⟨rfl, rfl⟩
    go_wp2_with fail
    go_ret
    exact ⟨rfl, 1, rfl⟩
set_option maxRecDepth 100000 in
theorem refArR_0 (a b : Int) (a0 : -9223372036854775808 ≤ a) (a1 : a ≤ 9223372036854775807) (b0 : -9223372036854775808 ≤ b) (b1 : b ≤ 9223372036854775807) (w : World) :
    Calls Tryz.prog 22 #[.int .i64 4, .int .i64 0, .int .i64 a, .int .i64 b] w fun e w' => e = .returned (.tuple #[.int .i64 (arR .add (bitsN (wrR a)) (bitsN (wrR b))), .bool true]) ∧ ∃ m, w' = w.drewN m := by
  have HA := Lib.hid (fun w => refWrap4 a a0 a1 w)
  have HB := Lib.hid (fun w => refWrap4 b b0 b1 w)
  clear a0 a1 b0 b1
  go_enter Tryz.func22, Tryz.ntmps22
  go_wp2_with fail
  refine (HA.out _).mono ?_
  rintro e w1 ⟨rfl, rfl⟩
  go_wp2_with fail
  refine (HB.out _).mono ?_
  rintro e w2 ⟨rfl, rfl⟩
  go_wp2_with fail
  refine (refValue_any _ _).mono ?_
  rintro e w3 ⟨rfl, rfl⟩
  go_wp2_with fail
  refine (refValue_any _ _).mono ?_
  rintro e w4 ⟨rfl, rfl⟩
  go_wp2_with fail
  refine (refReals_0 _ _ _).mono ?_
  rintro e w5 ⟨rfl, m, rfl⟩
  go_wp2_with fail
  go_ret2
  exact ⟨rfl, m, rfl⟩
set_option maxRecDepth 100000 in
theorem refReals_1 (x y : Nat) (w : World) : Calls Tryz.prog 37 #[.int .i64 1, .float .f64 x, .float .f64 y] w fun e w' => e = .returned (.int .i64 (arR .sub x y)) ∧ ∃ m, w' = w.drewN m := by
  cases h : floatBits .sub .f64 x y with
  | some r =>
    have hr : arR .sub x y = bitsV r := by unfold arR; rw [h]
    have hop : ∀ w, (binOp .sub 69 (.float .f64 x) (.float .f64 y)).run Tryz.prog w = .ok (.float .f64 r) w := fun w => run_float_arith w .sub 69 .f64 _ _ r h
    have HB := Lib.hid (fun w => refBits_any r (floatBits_lt h) w)
    rw [hr]
    clear h hr
    go_enter Tryz.func37, Tryz.ntmps37
    go_wp2_with fail
    skip
    refine (HB.out _).mono ?_
    rintro e w3 ⟨rfl, rfl⟩
    go_wp2_with fail
    go_ret
    exact ⟨rfl, 0, rfl⟩
  | none =>
    have hr : arR .sub x y = 9221120237041090561 := by unfold arR; rw [h]
    have hop : ∀ w, (binOp .sub 69 (.float .f64 x) (.float .f64 y)).run Tryz.prog w = .ok (.float .f64 (nanAt w x y)) w.drew := run_float_none .sub (by simp) 69 _ _ h
    rw [hr]
    have HB : Hid (∀ w' w, Calls Tryz.prog 40 #[.float .f64 (nanAt w' x y)] w fun e w'' => e = .returned (.int .i64 9221120237041090561) ∧ w = w'') := Lib.hid (fun w' w => by
      have hv : bitsV (nanAt w' x y) = 9221120237041090561 := by unfold bitsV; rw [if_pos (nanAt_nan _ _ _)]
      rw [← hv]; exact refBits_any _ (nanAt_lt _ _ _) w)
    clear h hr
    go_enter Tryz.func37, Tryz.ntmps37
    go_wp2_with fail
    refine (HB.out _ _).mono ?_
    rintro e w3 ⟨rfl, rfl⟩
    go_wp2_with fail
    go_ret
    exact ⟨rfl, 1, rfl⟩
set_option maxRecDepth 100000 in
theorem refArR_1 (a b : Int) (a0 : -9223372036854775808 ≤ a) (a1 : a ≤ 9223372036854775807) (b0 : -9223372036854775808 ≤ b) (b1 : b ≤ 9223372036854775807) (w : World) :
    Calls Tryz.prog 22 #[.int .i64 4, .int .i64 1, .int .i64 a, .int .i64 b] w fun e w' => e = .returned (.tuple #[.int .i64 (arR .sub (bitsN (wrR a)) (bitsN (wrR b))), .bool true]) ∧ ∃ m, w' = w.drewN m := by
  have HA := Lib.hid (fun w => refWrap4 a a0 a1 w)
  have HB := Lib.hid (fun w => refWrap4 b b0 b1 w)
  clear a0 a1 b0 b1
  go_enter Tryz.func22, Tryz.ntmps22
  go_wp2_with fail
  refine (HA.out _).mono ?_
  rintro e w1 ⟨rfl, rfl⟩
  go_wp2_with fail
  refine (HB.out _).mono ?_
  rintro e w2 ⟨rfl, rfl⟩
  go_wp2_with fail
  refine (refValue_any _ _).mono ?_
  rintro e w3 ⟨rfl, rfl⟩
  go_wp2_with fail
  refine (refValue_any _ _).mono ?_
  rintro e w4 ⟨rfl, rfl⟩
  go_wp2_with fail
  refine (refReals_1 _ _ _).mono ?_
  rintro e w5 ⟨rfl, m, rfl⟩
  go_wp2_with fail
  go_ret2
  exact ⟨rfl, m, rfl⟩
set_option maxRecDepth 100000 in
theorem refReals_2 (x y : Nat) (w : World) : Calls Tryz.prog 37 #[.int .i64 2, .float .f64 x, .float .f64 y] w fun e w' => e = .returned (.int .i64 (arR .mul x y)) ∧ ∃ m, w' = w.drewN m := by
  cases h : floatBits .mul .f64 x y with
  | some r =>
    have hr : arR .mul x y = bitsV r := by unfold arR; rw [h]
    have hop : ∀ w, (binOp .mul 69 (.float .f64 x) (.float .f64 y)).run Tryz.prog w = .ok (.float .f64 r) w := fun w => run_float_arith w .mul 69 .f64 _ _ r h
    have HB := Lib.hid (fun w => refBits_any r (floatBits_lt h) w)
    rw [hr]
    clear h hr
    go_enter Tryz.func37, Tryz.ntmps37
    go_wp2_with fail
    skip
    refine (HB.out _).mono ?_
    rintro e w3 ⟨rfl, rfl⟩
    go_wp2_with fail
    go_ret
    exact ⟨rfl, 0, rfl⟩
  | none =>
    have hr : arR .mul x y = 9221120237041090561 := by unfold arR; rw [h]
    have hop : ∀ w, (binOp .mul 69 (.float .f64 x) (.float .f64 y)).run Tryz.prog w = .ok (.float .f64 (nanAt w x y)) w.drew := run_float_none .mul (by simp) 69 _ _ h
    rw [hr]
    have HB : Hid (∀ w' w, Calls Tryz.prog 40 #[.float .f64 (nanAt w' x y)] w fun e w'' => e = .returned (.int .i64 9221120237041090561) ∧ w = w'') := Lib.hid (fun w' w => by
      have hv : bitsV (nanAt w' x y) = 9221120237041090561 := by unfold bitsV; rw [if_pos (nanAt_nan _ _ _)]
      rw [← hv]; exact refBits_any _ (nanAt_lt _ _ _) w)
    clear h hr
    go_enter Tryz.func37, Tryz.ntmps37
    go_wp2_with fail
    refine (HB.out _ _).mono ?_
    rintro e w3 ⟨rfl, rfl⟩
    go_wp2_with fail
    go_ret
    exact ⟨rfl, 1, rfl⟩
set_option maxRecDepth 100000 in
theorem refArR_2 (a b : Int) (a0 : -9223372036854775808 ≤ a) (a1 : a ≤ 9223372036854775807) (b0 : -9223372036854775808 ≤ b) (b1 : b ≤ 9223372036854775807) (w : World) :
    Calls Tryz.prog 22 #[.int .i64 4, .int .i64 2, .int .i64 a, .int .i64 b] w fun e w' => e = .returned (.tuple #[.int .i64 (arR .mul (bitsN (wrR a)) (bitsN (wrR b))), .bool true]) ∧ ∃ m, w' = w.drewN m := by
  have HA := Lib.hid (fun w => refWrap4 a a0 a1 w)
  have HB := Lib.hid (fun w => refWrap4 b b0 b1 w)
  clear a0 a1 b0 b1
  go_enter Tryz.func22, Tryz.ntmps22
  go_wp2_with fail
  refine (HA.out _).mono ?_
  rintro e w1 ⟨rfl, rfl⟩
  go_wp2_with fail
  refine (HB.out _).mono ?_
  rintro e w2 ⟨rfl, rfl⟩
  go_wp2_with fail
  refine (refValue_any _ _).mono ?_
  rintro e w3 ⟨rfl, rfl⟩
  go_wp2_with fail
  refine (refValue_any _ _).mono ?_
  rintro e w4 ⟨rfl, rfl⟩
  go_wp2_with fail
  refine (refReals_2 _ _ _).mono ?_
  rintro e w5 ⟨rfl, m, rfl⟩
  go_wp2_with fail
  go_ret2
  exact ⟨rfl, m, rfl⟩
set_option maxRecDepth 100000 in
theorem refReals_3 (x y : Nat) (w : World) : Calls Tryz.prog 37 #[.int .i64 3, .float .f64 x, .float .f64 y] w fun e w' => e = .returned (.int .i64 (arR .quo x y)) ∧ ∃ m, w' = w.drewN m := by
  cases h : floatBits .quo .f64 x y with
  | some r =>
    have hr : arR .quo x y = bitsV r := by unfold arR; rw [h]
    have hop : ∀ w, (binOp .quo 69 (.float .f64 x) (.float .f64 y)).run Tryz.prog w = .ok (.float .f64 r) w := fun w => run_float_arith w .quo 69 .f64 _ _ r h
    have HB := Lib.hid (fun w => refBits_any r (floatBits_lt h) w)
    rw [hr]
    clear h hr
    go_enter Tryz.func37, Tryz.ntmps37
    go_wp2_with fail
    skip
    refine (HB.out _).mono ?_
    rintro e w3 ⟨rfl, rfl⟩
    go_wp2_with fail
    go_ret
    exact ⟨rfl, 0, rfl⟩
  | none =>
    have hr : arR .quo x y = 9221120237041090561 := by unfold arR; rw [h]
    have hop : ∀ w, (binOp .quo 69 (.float .f64 x) (.float .f64 y)).run Tryz.prog w = .ok (.float .f64 (nanAt w x y)) w.drew := run_float_none .quo (by simp) 69 _ _ h
    rw [hr]
    have HB : Hid (∀ w' w, Calls Tryz.prog 40 #[.float .f64 (nanAt w' x y)] w fun e w'' => e = .returned (.int .i64 9221120237041090561) ∧ w = w'') := Lib.hid (fun w' w => by
      have hv : bitsV (nanAt w' x y) = 9221120237041090561 := by unfold bitsV; rw [if_pos (nanAt_nan _ _ _)]
      rw [← hv]; exact refBits_any _ (nanAt_lt _ _ _) w)
    clear h hr
    go_enter Tryz.func37, Tryz.ntmps37
    go_wp2_with fail
    refine (HB.out _ _).mono ?_
    rintro e w3 ⟨rfl, rfl⟩
    go_wp2_with fail
    go_ret
    exact ⟨rfl, 1, rfl⟩
set_option maxRecDepth 100000 in
theorem refArR_3 (a b : Int) (a0 : -9223372036854775808 ≤ a) (a1 : a ≤ 9223372036854775807) (b0 : -9223372036854775808 ≤ b) (b1 : b ≤ 9223372036854775807) (w : World) :
    Calls Tryz.prog 22 #[.int .i64 4, .int .i64 3, .int .i64 a, .int .i64 b] w fun e w' => e = .returned (.tuple #[.int .i64 (arR .quo (bitsN (wrR a)) (bitsN (wrR b))), .bool true]) ∧ ∃ m, w' = w.drewN m := by
  have HA := Lib.hid (fun w => refWrap4 a a0 a1 w)
  have HB := Lib.hid (fun w => refWrap4 b b0 b1 w)
  clear a0 a1 b0 b1
  go_enter Tryz.func22, Tryz.ntmps22
  go_wp2_with fail
  refine (HA.out _).mono ?_
  rintro e w1 ⟨rfl, rfl⟩
  go_wp2_with fail
  refine (HB.out _).mono ?_
  rintro e w2 ⟨rfl, rfl⟩
  go_wp2_with fail
  refine (refValue_any _ _).mono ?_
  rintro e w3 ⟨rfl, rfl⟩
  go_wp2_with fail
  refine (refValue_any _ _).mono ?_
  rintro e w4 ⟨rfl, rfl⟩
  go_wp2_with fail
  refine (refReals_3 _ _ _).mono ?_
  rintro e w5 ⟨rfl, m, rfl⟩
  go_wp2_with fail
  go_ret2
  exact ⟨rfl, m, rfl⟩
end Go.Proofs.YtpgfogfejemojaaGreatDoor
