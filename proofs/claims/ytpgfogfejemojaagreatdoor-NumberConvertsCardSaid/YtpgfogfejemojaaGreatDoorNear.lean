/-
  number.nearestInteger and acheronref04.nearest, by their ways.
-/
import Derived.Test.YtpgfogfejemojaaGreatDoorFlt2
import Derived.Test.YtpgfogfejemojaaGreatDoorRnd
set_option linter.unusedVariables false
namespace Go.Proofs.YtpgfogfejemojaaGreatDoor
open Go.RowKit

set_option maxRecDepth 100000 in
theorem near32_nan (b r : Nat) (hr : ∀ w, Calls Tryz.prog 96 #[.float .f64 b] w fun e w' => e = .returned (.float .f64 r) ∧ w = w') (hn : nanB r = true) (w : World) :
    Calls Tryz.prog 74 #[.float .f64 b, .int .i64 32] w fun e w' => e = .returned (.int .i64 0) ∧ w = w' := by
  have HR := Lib.hid hr
  have hf : floatOfInt .f64 (-2147483648) = 13970166044103278592 := by decide +kernel
  have hu : ∀ w, (Op.unary .neg (.float .f64 13970166044103278592)).run Tryz.prog w = .ok (.float .f64 4746794007248502784) w := fun w => by
    show Result.ok (Value.float .f64 (Op.negFloat .f64 13970166044103278592)) w = _
    rw [show Op.negFloat .f64 13970166044103278592 = 4746794007248502784 from by decide +kernel]
  have HN := Lib.hid (fun w => hn ▸ isNaN_any r w)
  clear hr hn
  go_enter Tryz.func74, Tryz.ntmps74
  go_wp2_with fail
  refine (HR.out _).mono ?_
  rintro e w1 ⟨rfl, rfl⟩
  go_wp2_with fail
  refine (HN.out _).mono ?_
  rintro e w2 ⟨rfl, rfl⟩
  go_wp2_with fail
  go_ret
  exact ⟨rfl, rfl⟩
set_option maxRecDepth 100000 in
theorem near32_lt (b r : Nat) (hr : ∀ w, Calls Tryz.prog 96 #[.float .f64 b] w fun e w' => e = .returned (.float .f64 r) ∧ w = w') (hn : nanB r = false) (c1 : (FloatKind.f64.format.order r 13970166044103278592 == some .lt) = true) (w : World) :
    Calls Tryz.prog 74 #[.float .f64 b, .int .i64 32] w fun e w' => e = .returned (.int .i64 (-2147483648)) ∧ w = w' := by
  have HR := Lib.hid hr
  have hf : floatOfInt .f64 (-2147483648) = 13970166044103278592 := by decide +kernel
  have hu : ∀ w, (Op.unary .neg (.float .f64 13970166044103278592)).run Tryz.prog w = .ok (.float .f64 4746794007248502784) w := fun w => by
    show Result.ok (Value.float .f64 (Op.negFloat .f64 13970166044103278592)) w = _
    rw [show Op.negFloat .f64 13970166044103278592 = 4746794007248502784 from by decide +kernel]
  have HN := Lib.hid (fun w => hn ▸ isNaN_any r w)
  clear hr hn
  go_enter Tryz.func74, Tryz.ntmps74
  go_wp2_with fail
  refine (HR.out _).mono ?_
  rintro e w1 ⟨rfl, rfl⟩
  go_wp2_with fail
  refine (HN.out _).mono ?_
  rintro e w2 ⟨rfl, rfl⟩
  go_wp2_with fail
  go_ret
  exact ⟨rfl, rfl⟩
set_option maxRecDepth 100000 in
theorem near32_ge (b r : Nat) (hr : ∀ w, Calls Tryz.prog 96 #[.float .f64 b] w fun e w' => e = .returned (.float .f64 r) ∧ w = w') (hn : nanB r = false) (c1 : (FloatKind.f64.format.order r 13970166044103278592 == some .lt) = false) (c2 : (FloatKind.f64.format.order r 4746794007248502784 == some .gt || FloatKind.f64.format.order r 4746794007248502784 == some .eq) = true) (w : World) :
    Calls Tryz.prog 74 #[.float .f64 b, .int .i64 32] w fun e w' => e = .returned (.int .i64 2147483647) ∧ w = w' := by
  have HR := Lib.hid hr
  have hf : floatOfInt .f64 (-2147483648) = 13970166044103278592 := by decide +kernel
  have hu : ∀ w, (Op.unary .neg (.float .f64 13970166044103278592)).run Tryz.prog w = .ok (.float .f64 4746794007248502784) w := fun w => by
    show Result.ok (Value.float .f64 (Op.negFloat .f64 13970166044103278592)) w = _
    rw [show Op.negFloat .f64 13970166044103278592 = 4746794007248502784 from by decide +kernel]
  have HN := Lib.hid (fun w => hn ▸ isNaN_any r w)
  clear hr hn
  go_enter Tryz.func74, Tryz.ntmps74
  go_wp2_with fail
  refine (HR.out _).mono ?_
  rintro e w1 ⟨rfl, rfl⟩
  go_wp2_with fail
  refine (HN.out _).mono ?_
  rintro e w2 ⟨rfl, rfl⟩
  go_wp2_with fail
  go_ret
  exact ⟨rfl, rfl⟩
set_option maxRecDepth 100000 in
theorem near32_in (b r : Nat) (hr : ∀ w, Calls Tryz.prog 96 #[.float .f64 b] w fun e w' => e = .returned (.float .f64 r) ∧ w = w') (hn : nanB r = false) (c1 : (FloatKind.f64.format.order r 13970166044103278592 == some .lt) = false) (c2 : (FloatKind.f64.format.order r 4746794007248502784 == some .gt || FloatKind.f64.format.order r 4746794007248502784 == some .eq) = false) (v : Int) (hc : ∀ w, (convert 69 2 (.float .f64 r)).run Tryz.prog w = .ok (.int .i64 v) w) (w : World) :
    Calls Tryz.prog 74 #[.float .f64 b, .int .i64 32] w fun e w' => e = .returned (.int .i64 v) ∧ w = w' := by
  have HR := Lib.hid hr
  have hf : floatOfInt .f64 (-2147483648) = 13970166044103278592 := by decide +kernel
  have hu : ∀ w, (Op.unary .neg (.float .f64 13970166044103278592)).run Tryz.prog w = .ok (.float .f64 4746794007248502784) w := fun w => by
    show Result.ok (Value.float .f64 (Op.negFloat .f64 13970166044103278592)) w = _
    rw [show Op.negFloat .f64 13970166044103278592 = 4746794007248502784 from by decide +kernel]
  have HN := Lib.hid (fun w => hn ▸ isNaN_any r w)
  clear hr hn
  go_enter Tryz.func74, Tryz.ntmps74
  go_wp2_with fail
  refine (HR.out _).mono ?_
  rintro e w1 ⟨rfl, rfl⟩
  go_wp2_with fail
  refine (HN.out _).mono ?_
  rintro e w2 ⟨rfl, rfl⟩
  go_wp2_with fail
  go_ret
  exact ⟨rfl, rfl⟩
set_option maxRecDepth 100000 in
theorem near64_nan (b r : Nat) (hr : ∀ w, Calls Tryz.prog 96 #[.float .f64 b] w fun e w' => e = .returned (.float .f64 r) ∧ w = w') (hn : nanB r = true) (w : World) :
    Calls Tryz.prog 74 #[.float .f64 b, .int .i64 64] w fun e w' => e = .returned (.int .i64 0) ∧ w = w' := by
  have HR := Lib.hid hr
  have hf : floatOfInt .f64 (-9223372036854775808) = 14114281232179134464 := by decide +kernel
  have hu : ∀ w, (Op.unary .neg (.float .f64 14114281232179134464)).run Tryz.prog w = .ok (.float .f64 4890909195324358656) w := fun w => by
    show Result.ok (Value.float .f64 (Op.negFloat .f64 14114281232179134464)) w = _
    rw [show Op.negFloat .f64 14114281232179134464 = 4890909195324358656 from by decide +kernel]
  have HN := Lib.hid (fun w => hn ▸ isNaN_any r w)
  clear hr hn
  go_enter Tryz.func74, Tryz.ntmps74
  go_wp2_with fail
  refine (HR.out _).mono ?_
  rintro e w1 ⟨rfl, rfl⟩
  go_wp2_with fail
  refine (HN.out _).mono ?_
  rintro e w2 ⟨rfl, rfl⟩
  go_wp2_with fail
  go_ret
  exact ⟨rfl, rfl⟩
set_option maxRecDepth 100000 in
theorem near64_lt (b r : Nat) (hr : ∀ w, Calls Tryz.prog 96 #[.float .f64 b] w fun e w' => e = .returned (.float .f64 r) ∧ w = w') (hn : nanB r = false) (c1 : (FloatKind.f64.format.order r 14114281232179134464 == some .lt) = true) (w : World) :
    Calls Tryz.prog 74 #[.float .f64 b, .int .i64 64] w fun e w' => e = .returned (.int .i64 (-9223372036854775808)) ∧ w = w' := by
  have HR := Lib.hid hr
  have hf : floatOfInt .f64 (-9223372036854775808) = 14114281232179134464 := by decide +kernel
  have hu : ∀ w, (Op.unary .neg (.float .f64 14114281232179134464)).run Tryz.prog w = .ok (.float .f64 4890909195324358656) w := fun w => by
    show Result.ok (Value.float .f64 (Op.negFloat .f64 14114281232179134464)) w = _
    rw [show Op.negFloat .f64 14114281232179134464 = 4890909195324358656 from by decide +kernel]
  have HN := Lib.hid (fun w => hn ▸ isNaN_any r w)
  clear hr hn
  go_enter Tryz.func74, Tryz.ntmps74
  go_wp2_with fail
  refine (HR.out _).mono ?_
  rintro e w1 ⟨rfl, rfl⟩
  go_wp2_with fail
  refine (HN.out _).mono ?_
  rintro e w2 ⟨rfl, rfl⟩
  go_wp2_with fail
  go_ret
  exact ⟨rfl, rfl⟩
set_option maxRecDepth 100000 in
theorem near64_ge (b r : Nat) (hr : ∀ w, Calls Tryz.prog 96 #[.float .f64 b] w fun e w' => e = .returned (.float .f64 r) ∧ w = w') (hn : nanB r = false) (c1 : (FloatKind.f64.format.order r 14114281232179134464 == some .lt) = false) (c2 : (FloatKind.f64.format.order r 4890909195324358656 == some .gt || FloatKind.f64.format.order r 4890909195324358656 == some .eq) = true) (w : World) :
    Calls Tryz.prog 74 #[.float .f64 b, .int .i64 64] w fun e w' => e = .returned (.int .i64 9223372036854775807) ∧ w = w' := by
  have HR := Lib.hid hr
  have hf : floatOfInt .f64 (-9223372036854775808) = 14114281232179134464 := by decide +kernel
  have hu : ∀ w, (Op.unary .neg (.float .f64 14114281232179134464)).run Tryz.prog w = .ok (.float .f64 4890909195324358656) w := fun w => by
    show Result.ok (Value.float .f64 (Op.negFloat .f64 14114281232179134464)) w = _
    rw [show Op.negFloat .f64 14114281232179134464 = 4890909195324358656 from by decide +kernel]
  have HN := Lib.hid (fun w => hn ▸ isNaN_any r w)
  clear hr hn
  go_enter Tryz.func74, Tryz.ntmps74
  go_wp2_with fail
  refine (HR.out _).mono ?_
  rintro e w1 ⟨rfl, rfl⟩
  go_wp2_with fail
  refine (HN.out _).mono ?_
  rintro e w2 ⟨rfl, rfl⟩
  go_wp2_with fail
  go_ret
  exact ⟨rfl, rfl⟩
set_option maxRecDepth 100000 in
theorem near64_in (b r : Nat) (hr : ∀ w, Calls Tryz.prog 96 #[.float .f64 b] w fun e w' => e = .returned (.float .f64 r) ∧ w = w') (hn : nanB r = false) (c1 : (FloatKind.f64.format.order r 14114281232179134464 == some .lt) = false) (c2 : (FloatKind.f64.format.order r 4890909195324358656 == some .gt || FloatKind.f64.format.order r 4890909195324358656 == some .eq) = false) (v : Int) (hc : ∀ w, (convert 69 2 (.float .f64 r)).run Tryz.prog w = .ok (.int .i64 v) w) (w : World) :
    Calls Tryz.prog 74 #[.float .f64 b, .int .i64 64] w fun e w' => e = .returned (.int .i64 v) ∧ w = w' := by
  have HR := Lib.hid hr
  have hf : floatOfInt .f64 (-9223372036854775808) = 14114281232179134464 := by decide +kernel
  have hu : ∀ w, (Op.unary .neg (.float .f64 14114281232179134464)).run Tryz.prog w = .ok (.float .f64 4890909195324358656) w := fun w => by
    show Result.ok (Value.float .f64 (Op.negFloat .f64 14114281232179134464)) w = _
    rw [show Op.negFloat .f64 14114281232179134464 = 4890909195324358656 from by decide +kernel]
  have HN := Lib.hid (fun w => hn ▸ isNaN_any r w)
  clear hr hn
  go_enter Tryz.func74, Tryz.ntmps74
  go_wp2_with fail
  refine (HR.out _).mono ?_
  rintro e w1 ⟨rfl, rfl⟩
  go_wp2_with fail
  refine (HN.out _).mono ?_
  rintro e w2 ⟨rfl, rfl⟩
  go_wp2_with fail
  go_ret
  exact ⟨rfl, rfl⟩
theorem ends2 (w : World) : Calls Tryz.prog 53 #[.int .i64 2] w fun e w' => e = .returned (.tuple #[.int .i64 (-2147483648), .int .i64 2147483647]) ∧ w = w' := by
  go_enter Tryz.func53, Tryz.ntmps53
  go_wp2
  go_ret2
  exact ⟨rfl, rfl⟩
set_option maxRecDepth 100000 in
theorem refNear2_nan (b : Nat) (hn : (FloatKind.f64.format.order b b != some .eq) = true) (w : World) :
    Calls Tryz.prog 39 #[.int .i64 2, .float .f64 b] w fun e w' => e = .returned (.int .i64 0) ∧ w = w' := by
  go_enter Tryz.func39, Tryz.ntmps39
  go_wp2_with fail
  refine (ends2 _).mono ?_
  rintro e w1 ⟨rfl, rfl⟩
  go_wp2_with fail
  all_goals (go_ret; first | exact ⟨rfl, rfl⟩ | exact ⟨ret_int (by omega), rfl⟩)
set_option maxRecDepth 100000 in
theorem refNear2_ge (b : Nat) (hn : (FloatKind.f64.format.order b b != some .eq) = false) (c1 : (FloatKind.f64.format.order b 4890909195324358656 == some .gt || FloatKind.f64.format.order b 4890909195324358656 == some .eq) = true) (w : World) :
    Calls Tryz.prog 39 #[.int .i64 2, .float .f64 b] w fun e w' => e = .returned (.int .i64 2147483647) ∧ w = w' := by
  go_enter Tryz.func39, Tryz.ntmps39
  go_wp2_with fail
  refine (ends2 _).mono ?_
  rintro e w1 ⟨rfl, rfl⟩
  go_wp2_with fail
  all_goals (go_ret; first | exact ⟨rfl, rfl⟩ | exact ⟨ret_int (by omega), rfl⟩)
set_option maxRecDepth 100000 in
theorem refNear2_le (b : Nat) (hn : (FloatKind.f64.format.order b b != some .eq) = false) (c1 : (FloatKind.f64.format.order b 4890909195324358656 == some .gt || FloatKind.f64.format.order b 4890909195324358656 == some .eq) = false) (c2 : (FloatKind.f64.format.order b 14114281232179134464 == some .lt || FloatKind.f64.format.order b 14114281232179134464 == some .eq) = true) (w : World) :
    Calls Tryz.prog 39 #[.int .i64 2, .float .f64 b] w fun e w' => e = .returned (.int .i64 (-2147483648)) ∧ w = w' := by
  go_enter Tryz.func39, Tryz.ntmps39
  go_wp2_with fail
  refine (ends2 _).mono ?_
  rintro e w1 ⟨rfl, rfl⟩
  go_wp2_with fail
  all_goals (go_ret; first | exact ⟨rfl, rfl⟩ | exact ⟨ret_int (by omega), rfl⟩)
set_option maxRecDepth 100000 in
theorem refNear2_up (b : Nat) (hn : (FloatKind.f64.format.order b b != some .eq) = false) (c1 : (FloatKind.f64.format.order b 4890909195324358656 == some .gt || FloatKind.f64.format.order b 4890909195324358656 == some .eq) = false) (c2 : (FloatKind.f64.format.order b 14114281232179134464 == some .lt || FloatKind.f64.format.order b 14114281232179134464 == some .eq) = false) (n : Int) (q : Nat) (hc : ∀ w, (convert 69 2 (.float .f64 b)).run Tryz.prog w = .ok (.int .i64 n) w) (hs : ∀ w, (binOp .sub 69 (.float .f64 b) (.float .f64 (floatOfInt .f64 n))).run Tryz.prog w = .ok (.float .f64 q) w) (d1 : (FloatKind.f64.format.order q 4602678819172646912 == some .gt || FloatKind.f64.format.order q 4602678819172646912 == some .eq) = true) (d2 : (FloatKind.f64.format.order q 13826050856027422720 == some .lt || FloatKind.f64.format.order q 13826050856027422720 == some .eq) = false) (w : World) :
    Calls Tryz.prog 39 #[.int .i64 2, .float .f64 b] w fun e w' => e = .returned (.int .i64 (max (-2147483648) (min 2147483647 (wrap64 (n + 1))))) ∧ w = w' := by
  go_enter Tryz.func39, Tryz.ntmps39
  go_wp2_with fail
  refine (ends2 _).mono ?_
  rintro e w1 ⟨rfl, rfl⟩
  go_wp2_with fail
  all_goals (go_ret; first | exact ⟨rfl, rfl⟩ | exact ⟨ret_int (by omega), rfl⟩)
set_option maxRecDepth 100000 in
theorem refNear2_down (b : Nat) (hn : (FloatKind.f64.format.order b b != some .eq) = false) (c1 : (FloatKind.f64.format.order b 4890909195324358656 == some .gt || FloatKind.f64.format.order b 4890909195324358656 == some .eq) = false) (c2 : (FloatKind.f64.format.order b 14114281232179134464 == some .lt || FloatKind.f64.format.order b 14114281232179134464 == some .eq) = false) (n : Int) (q : Nat) (hc : ∀ w, (convert 69 2 (.float .f64 b)).run Tryz.prog w = .ok (.int .i64 n) w) (hs : ∀ w, (binOp .sub 69 (.float .f64 b) (.float .f64 (floatOfInt .f64 n))).run Tryz.prog w = .ok (.float .f64 q) w) (d1 : (FloatKind.f64.format.order q 4602678819172646912 == some .gt || FloatKind.f64.format.order q 4602678819172646912 == some .eq) = false) (d2 : (FloatKind.f64.format.order q 13826050856027422720 == some .lt || FloatKind.f64.format.order q 13826050856027422720 == some .eq) = true) (w : World) :
    Calls Tryz.prog 39 #[.int .i64 2, .float .f64 b] w fun e w' => e = .returned (.int .i64 (max (-2147483648) (min 2147483647 (wrap64 (n - 1))))) ∧ w = w' := by
  go_enter Tryz.func39, Tryz.ntmps39
  go_wp2_with fail
  refine (ends2 _).mono ?_
  rintro e w1 ⟨rfl, rfl⟩
  go_wp2_with fail
  all_goals (go_ret; first | exact ⟨rfl, rfl⟩ | exact ⟨ret_int (by omega), rfl⟩)
set_option maxRecDepth 100000 in
theorem refNear2_none (b : Nat) (hn : (FloatKind.f64.format.order b b != some .eq) = false) (c1 : (FloatKind.f64.format.order b 4890909195324358656 == some .gt || FloatKind.f64.format.order b 4890909195324358656 == some .eq) = false) (c2 : (FloatKind.f64.format.order b 14114281232179134464 == some .lt || FloatKind.f64.format.order b 14114281232179134464 == some .eq) = false) (n : Int) (q : Nat) (hc : ∀ w, (convert 69 2 (.float .f64 b)).run Tryz.prog w = .ok (.int .i64 n) w) (hs : ∀ w, (binOp .sub 69 (.float .f64 b) (.float .f64 (floatOfInt .f64 n))).run Tryz.prog w = .ok (.float .f64 q) w) (d1 : (FloatKind.f64.format.order q 4602678819172646912 == some .gt || FloatKind.f64.format.order q 4602678819172646912 == some .eq) = false) (d2 : (FloatKind.f64.format.order q 13826050856027422720 == some .lt || FloatKind.f64.format.order q 13826050856027422720 == some .eq) = false) (w : World) :
    Calls Tryz.prog 39 #[.int .i64 2, .float .f64 b] w fun e w' => e = .returned (.int .i64 (max (-2147483648) (min 2147483647 n))) ∧ w = w' := by
  go_enter Tryz.func39, Tryz.ntmps39
  go_wp2_with fail
  refine (ends2 _).mono ?_
  rintro e w1 ⟨rfl, rfl⟩
  go_wp2_with fail
  all_goals (go_ret; first | exact ⟨rfl, rfl⟩ | exact ⟨ret_int (by omega), rfl⟩)
theorem ends3 (w : World) : Calls Tryz.prog 53 #[.int .i64 3] w fun e w' => e = .returned (.tuple #[.int .i64 (-9223372036854775808), .int .i64 9223372036854775807]) ∧ w = w' := by
  go_enter Tryz.func53, Tryz.ntmps53
  go_wp2
  go_ret2
  exact ⟨rfl, rfl⟩
set_option maxRecDepth 100000 in
theorem refNear3_nan (b : Nat) (hn : (FloatKind.f64.format.order b b != some .eq) = true) (w : World) :
    Calls Tryz.prog 39 #[.int .i64 3, .float .f64 b] w fun e w' => e = .returned (.int .i64 0) ∧ w = w' := by
  go_enter Tryz.func39, Tryz.ntmps39
  go_wp2_with fail
  refine (ends3 _).mono ?_
  rintro e w1 ⟨rfl, rfl⟩
  go_wp2_with fail
  all_goals (go_ret; first | exact ⟨rfl, rfl⟩ | exact ⟨ret_int (by omega), rfl⟩)
set_option maxRecDepth 100000 in
theorem refNear3_ge (b : Nat) (hn : (FloatKind.f64.format.order b b != some .eq) = false) (c1 : (FloatKind.f64.format.order b 4890909195324358656 == some .gt || FloatKind.f64.format.order b 4890909195324358656 == some .eq) = true) (w : World) :
    Calls Tryz.prog 39 #[.int .i64 3, .float .f64 b] w fun e w' => e = .returned (.int .i64 9223372036854775807) ∧ w = w' := by
  go_enter Tryz.func39, Tryz.ntmps39
  go_wp2_with fail
  refine (ends3 _).mono ?_
  rintro e w1 ⟨rfl, rfl⟩
  go_wp2_with fail
  all_goals (go_ret; first | exact ⟨rfl, rfl⟩ | exact ⟨ret_int (by omega), rfl⟩)
set_option maxRecDepth 100000 in
theorem refNear3_le (b : Nat) (hn : (FloatKind.f64.format.order b b != some .eq) = false) (c1 : (FloatKind.f64.format.order b 4890909195324358656 == some .gt || FloatKind.f64.format.order b 4890909195324358656 == some .eq) = false) (c2 : (FloatKind.f64.format.order b 14114281232179134464 == some .lt || FloatKind.f64.format.order b 14114281232179134464 == some .eq) = true) (w : World) :
    Calls Tryz.prog 39 #[.int .i64 3, .float .f64 b] w fun e w' => e = .returned (.int .i64 (-9223372036854775808)) ∧ w = w' := by
  go_enter Tryz.func39, Tryz.ntmps39
  go_wp2_with fail
  refine (ends3 _).mono ?_
  rintro e w1 ⟨rfl, rfl⟩
  go_wp2_with fail
  all_goals (go_ret; first | exact ⟨rfl, rfl⟩ | exact ⟨ret_int (by omega), rfl⟩)
set_option maxRecDepth 100000 in
theorem refNear3_up (b : Nat) (hn : (FloatKind.f64.format.order b b != some .eq) = false) (c1 : (FloatKind.f64.format.order b 4890909195324358656 == some .gt || FloatKind.f64.format.order b 4890909195324358656 == some .eq) = false) (c2 : (FloatKind.f64.format.order b 14114281232179134464 == some .lt || FloatKind.f64.format.order b 14114281232179134464 == some .eq) = false) (n : Int) (q : Nat) (hc : ∀ w, (convert 69 2 (.float .f64 b)).run Tryz.prog w = .ok (.int .i64 n) w) (hs : ∀ w, (binOp .sub 69 (.float .f64 b) (.float .f64 (floatOfInt .f64 n))).run Tryz.prog w = .ok (.float .f64 q) w) (d1 : (FloatKind.f64.format.order q 4602678819172646912 == some .gt || FloatKind.f64.format.order q 4602678819172646912 == some .eq) = true) (d2 : (FloatKind.f64.format.order q 13826050856027422720 == some .lt || FloatKind.f64.format.order q 13826050856027422720 == some .eq) = false) (w : World) :
    Calls Tryz.prog 39 #[.int .i64 3, .float .f64 b] w fun e w' => e = .returned (.int .i64 (max (-9223372036854775808) (min 9223372036854775807 (wrap64 (n + 1))))) ∧ w = w' := by
  go_enter Tryz.func39, Tryz.ntmps39
  go_wp2_with fail
  refine (ends3 _).mono ?_
  rintro e w1 ⟨rfl, rfl⟩
  go_wp2_with fail
  all_goals (go_ret; first | exact ⟨rfl, rfl⟩ | exact ⟨ret_int (by omega), rfl⟩)
set_option maxRecDepth 100000 in
theorem refNear3_down (b : Nat) (hn : (FloatKind.f64.format.order b b != some .eq) = false) (c1 : (FloatKind.f64.format.order b 4890909195324358656 == some .gt || FloatKind.f64.format.order b 4890909195324358656 == some .eq) = false) (c2 : (FloatKind.f64.format.order b 14114281232179134464 == some .lt || FloatKind.f64.format.order b 14114281232179134464 == some .eq) = false) (n : Int) (q : Nat) (hc : ∀ w, (convert 69 2 (.float .f64 b)).run Tryz.prog w = .ok (.int .i64 n) w) (hs : ∀ w, (binOp .sub 69 (.float .f64 b) (.float .f64 (floatOfInt .f64 n))).run Tryz.prog w = .ok (.float .f64 q) w) (d1 : (FloatKind.f64.format.order q 4602678819172646912 == some .gt || FloatKind.f64.format.order q 4602678819172646912 == some .eq) = false) (d2 : (FloatKind.f64.format.order q 13826050856027422720 == some .lt || FloatKind.f64.format.order q 13826050856027422720 == some .eq) = true) (w : World) :
    Calls Tryz.prog 39 #[.int .i64 3, .float .f64 b] w fun e w' => e = .returned (.int .i64 (max (-9223372036854775808) (min 9223372036854775807 (wrap64 (n - 1))))) ∧ w = w' := by
  go_enter Tryz.func39, Tryz.ntmps39
  go_wp2_with fail
  refine (ends3 _).mono ?_
  rintro e w1 ⟨rfl, rfl⟩
  go_wp2_with fail
  all_goals (go_ret; first | exact ⟨rfl, rfl⟩ | exact ⟨ret_int (by omega), rfl⟩)
set_option maxRecDepth 100000 in
theorem refNear3_none (b : Nat) (hn : (FloatKind.f64.format.order b b != some .eq) = false) (c1 : (FloatKind.f64.format.order b 4890909195324358656 == some .gt || FloatKind.f64.format.order b 4890909195324358656 == some .eq) = false) (c2 : (FloatKind.f64.format.order b 14114281232179134464 == some .lt || FloatKind.f64.format.order b 14114281232179134464 == some .eq) = false) (n : Int) (q : Nat) (hc : ∀ w, (convert 69 2 (.float .f64 b)).run Tryz.prog w = .ok (.int .i64 n) w) (hs : ∀ w, (binOp .sub 69 (.float .f64 b) (.float .f64 (floatOfInt .f64 n))).run Tryz.prog w = .ok (.float .f64 q) w) (d1 : (FloatKind.f64.format.order q 4602678819172646912 == some .gt || FloatKind.f64.format.order q 4602678819172646912 == some .eq) = false) (d2 : (FloatKind.f64.format.order q 13826050856027422720 == some .lt || FloatKind.f64.format.order q 13826050856027422720 == some .eq) = false) (w : World) :
    Calls Tryz.prog 39 #[.int .i64 3, .float .f64 b] w fun e w' => e = .returned (.int .i64 (max (-9223372036854775808) (min 9223372036854775807 n))) ∧ w = w' := by
  go_enter Tryz.func39, Tryz.ntmps39
  go_wp2_with fail
  refine (ends3 _).mono ?_
  rintro e w1 ⟨rfl, rfl⟩
  go_wp2_with fail
  all_goals (go_ret; first | exact ⟨rfl, rfl⟩ | exact ⟨ret_int (by omega), rfl⟩)
end Go.Proofs.YtpgfogfejemojaaGreatDoor
