/-
  acheronref04.Convert, but of reals to integers.
-/
import Derived.Test.YtpgfogfejemojaaGreatDoorRef1
import Derived.Test.YtpgfogfejemojaaGreatDoorRefAr
set_option linter.unusedVariables false
namespace Go.Proofs.YtpgfogfejemojaaGreatDoor
open Go.RowKit

theorem floatOfInt_lt (n : Int) : floatOfInt .f64 n < 18446744073709551616 := by
  have := floatOfInt_wf .f64 n
  simpa [Lit.wf] using this
set_option maxRecDepth 100000 in
theorem refCv_ints (f t n : Int) (x y : Int) (f4 : (f == 4) = false) (t4 : (t == 4) = false)
    (hx : ∀ w, Calls Tryz.prog 17 #[.int .i64 f, .int .i64 n] w fun e w' => e = .returned (.int .i64 x) ∧ w = w')
    (hy : ∀ w, Calls Tryz.prog 17 #[.int .i64 t, .int .i64 x] w fun e w' => e = .returned (.int .i64 y) ∧ w = w') (w : World) :
    Calls Tryz.prog 29 #[.int .i64 f, .int .i64 t, .int .i64 n] w fun e w' => e = .returned (.int .i64 y) ∧ w = w' := by
  have HX := Lib.hid hx
  have HY := Lib.hid hy
  clear hx hy
  go_enter Tryz.func29, Tryz.ntmps29
  go_wp2_with fail
  refine (HX.out _).mono ?_
  rintro e w1 ⟨rfl, rfl⟩
  go_wp2_with fail
  refine (HY.out _).mono ?_
  rintro e w2 ⟨rfl, rfl⟩
  go_wp2_with fail
  go_ret
  exact ⟨rfl, rfl⟩
set_option maxRecDepth 100000 in
theorem refCv_real (f n : Int) (x : Int) (f4 : (f == 4) = false)
    (hx : ∀ w, Calls Tryz.prog 17 #[.int .i64 f, .int .i64 n] w fun e w' => e = .returned (.int .i64 x) ∧ w = w') (w : World) :
    Calls Tryz.prog 29 #[.int .i64 f, .int .i64 4, .int .i64 n] w fun e w' => e = .returned (.int .i64 (bitsV (floatOfInt .f64 x))) ∧ w = w' := by
  have HX := Lib.hid hx
  have HB := Lib.hid (fun w => refBits_any (floatOfInt .f64 x) (floatOfInt_lt x) w)
  clear hx
  go_enter Tryz.func29, Tryz.ntmps29
  go_wp2_with fail
  refine (HX.out _).mono ?_
  rintro e w1 ⟨rfl, rfl⟩
  go_wp2_with fail
  refine (HB.out _).mono ?_
  rintro e w2 ⟨rfl, rfl⟩
  go_wp2_with fail
  go_ret
  exact ⟨rfl, rfl⟩
set_option maxRecDepth 100000 in
theorem refCv_reals (n : Int) (h0 : -9223372036854775808 ≤ n) (h1 : n ≤ 9223372036854775807) (w : World) :
    Calls Tryz.prog 29 #[.int .i64 4, .int .i64 4, .int .i64 n] w fun e w' => e = .returned (.int .i64 (wrR n)) ∧ w = w' := by
  have HX := Lib.hid (fun w => refWrap4 n h0 h1 w)
  clear h0 h1
  go_enter Tryz.func29, Tryz.ntmps29
  go_wp2_with fail
  refine (HX.out _).mono ?_
  rintro e w1 ⟨rfl, rfl⟩
  go_wp2_with fail
  go_ret
  exact ⟨rfl, rfl⟩
theorem bitsN_lt (n : Int) : bitsN n < 18446744073709551616 := by
  unfold bitsN; rw [IntKind.wrap_u64]; omega
theorem wrR_wrR (n : Int) : wrR (wrR n) = wrR n := wrR_bitsV _ (bitsN_lt n)
theorem cvReals_eq (n : Int) : wrR (bitsV (bitsN (wrR n))) = wrR n := by
  show wrR (wrR (wrR n)) = _
  rw [wrR_wrR, wrR_wrR]
theorem cvReal_eq (x : Int) : wrR (bitsV (floatOfInt .f64 x)) = bitsV (floatOfInt .f64 x) := wrR_bitsV _ (floatOfInt_lt x)
end Go.Proofs.YtpgfogfejemojaaGreatDoor
