/-
  acheronref04.Convert of reals to integers.
-/
import Derived.Test.YtpgfogfejemojaaGreatDoorRefCv
import Derived.Test.YtpgfogfejemojaaGreatDoorRefCmp
import Derived.Test.YtpgfogfejemojaaGreatDoorCvR
set_option linter.unusedVariables false
namespace Go.Proofs.YtpgfogfejemojaaGreatDoor
open Go.RowKit

theorem nearI_range (lo hi : Int) (b : Nat) (h0 : lo ≤ 0) (h1 : 0 ≤ hi) : lo ≤ nearI lo hi b ∧ nearI lo hi b ≤ hi := by
  unfold nearI
  generalize sgn (sB b) (roundU b) = v
  split
  · exact ⟨h0, h1⟩
  · split
    · split <;> omega
    · omega
theorem wrap32_near (b : Nat) : wrap32 (nearI (-2147483648) 2147483647 b) = nearI (-2147483648) 2147483647 b := by
  have := nearI_range (-2147483648) 2147483647 b (by decide) (by decide)
  generalize nearI (-2147483648) 2147483647 b = v at *
  unfold wrap32
  omega
set_option maxRecDepth 100000 in
theorem refCvR1 (n : Int) (h0 : -9223372036854775808 ≤ n) (h1 : n ≤ 9223372036854775807) (w : World) :
    Calls Tryz.prog 29 #[.int .i64 4, .int .i64 1, .int .i64 n] w fun e w' => e = .returned (.int .i64 ((nearI (-2147483648) 2147483647 (bitsN (wrR n))) % 256)) ∧ w = w' := by
  have HX := Lib.hid (fun w => refWrap4 n h0 h1 w)
  have HV := Lib.hid (fun w => refValue_any (wrR n) w)
  have HN := Lib.hid (fun w => refNear2_any (bitsN (wrR n)) (bitsN_lt2 _) w)
  have HW := Lib.hid (fun w => refWrap1 (nearI (-2147483648) 2147483647 (bitsN (wrR n))) w)
  clear h0 h1
  go_enter Tryz.func29, Tryz.ntmps29
  go_wp2_with fail
  refine (HX.out _).mono ?_
  rintro e w1 ⟨rfl, rfl⟩
  go_wp2_with fail
  refine (HV.out _).mono ?_
  rintro e w2 ⟨rfl, rfl⟩
  go_wp2_with fail
  refine (HN.out _).mono ?_
  rintro e w3 ⟨rfl, rfl⟩
  go_wp2_with fail
  refine (HW.out _).mono ?_
  rintro e w4 ⟨rfl, rfl⟩
  go_wp2_with fail
  go_ret
  exact ⟨rfl, rfl⟩
set_option maxRecDepth 100000 in
theorem refCvR2 (n : Int) (h0 : -9223372036854775808 ≤ n) (h1 : n ≤ 9223372036854775807) (w : World) :
    Calls Tryz.prog 29 #[.int .i64 4, .int .i64 2, .int .i64 n] w fun e w' => e = .returned (.int .i64 (nearI (-2147483648) 2147483647 (bitsN (wrR n)))) ∧ w = w' := by
  have HX := Lib.hid (fun w => refWrap4 n h0 h1 w)
  have HV := Lib.hid (fun w => refValue_any (wrR n) w)
  have HN := Lib.hid (fun w => refNear2_any (bitsN (wrR n)) (bitsN_lt2 _) w)
  clear h0 h1
  go_enter Tryz.func29, Tryz.ntmps29
  go_wp2_with fail
  refine (HX.out _).mono ?_
  rintro e w1 ⟨rfl, rfl⟩
  go_wp2_with fail
  refine (HV.out _).mono ?_
  rintro e w2 ⟨rfl, rfl⟩
  go_wp2_with fail
  refine (HN.out _).mono ?_
  rintro e w3 ⟨rfl, rfl⟩
  go_wp2_with fail
  go_ret
  exact ⟨rfl, rfl⟩
set_option maxRecDepth 100000 in
theorem refCvR3 (n : Int) (h0 : -9223372036854775808 ≤ n) (h1 : n ≤ 9223372036854775807) (w : World) :
    Calls Tryz.prog 29 #[.int .i64 4, .int .i64 3, .int .i64 n] w fun e w' => e = .returned (.int .i64 (nearI (-9223372036854775808) 9223372036854775807 (bitsN (wrR n)))) ∧ w = w' := by
  have HX := Lib.hid (fun w => refWrap4 n h0 h1 w)
  have HV := Lib.hid (fun w => refValue_any (wrR n) w)
  have HN := Lib.hid (fun w => refNear3_any (bitsN (wrR n)) (bitsN_lt2 _) w)
  clear h0 h1
  go_enter Tryz.func29, Tryz.ntmps29
  go_wp2_with fail
  refine (HX.out _).mono ?_
  rintro e w1 ⟨rfl, rfl⟩
  go_wp2_with fail
  refine (HV.out _).mono ?_
  rintro e w2 ⟨rfl, rfl⟩
  go_wp2_with fail
  refine (HN.out _).mono ?_
  rintro e w3 ⟨rfl, rfl⟩
  go_wp2_with fail
  go_ret
  exact ⟨rfl, rfl⟩
end Go.Proofs.YtpgfogfejemojaaGreatDoor
