/-
  strconv.ParseFloat at two texts.
-/
import Derived.Test.YtpgfogfejemojaaGreatDoorReadF
set_option linter.unusedVariables false
namespace Go.Proofs.YtpgfogfejemojaaGreatDoor
open Go.RowKit Go.Sort Go.Lib

set_option maxRecDepth 100000 in
theorem special0 (w : World) : Calls Tryz.prog 178 #[.string ⟨#[50, 101, 43, 48, 50]⟩] w fun e w' => e = .returned (.tuple #[.float .f64 0, .int .i64 0, .bool false]) ∧ w = w' := by
  have i0 : ∀ w, (Instr.index 9 (.string ⟨#[50, 101, 43, 48, 50]⟩) (.int .i64 0)).run Tryz.prog w = .ok (.int .u8 50) w := fun _ => by kernel_rfl
  go_enter Tryz.func178, Tryz.ntmps178
  go_wp2_with fail
  go_ret3
  exact ⟨rfl, rfl⟩
set_option maxRecDepth 100000 in
theorem exact0 (w : World) (ht : TabN w) : Calls Tryz.prog 189 #[.int .u64 2, .int .i64 2, .bool false] w fun e w' => e = .returned (.tuple #[.float .f64 4641240890982006784, .bool true]) ∧ w = w' := by
  obtain ⟨a, cap, hc, hf⟩ := ht.fl
  have hmb := ht.mb
  have hp : w.cell? ⟨a.block, a.off + 2, none⟩ = some (.float .f64 4636737291354636288) := hf 2 (by decide)
  have f1 : floatOfInt .f64 2 = 4611686018427387904 := by decide +kernel
  have f2 : (FloatKind.f64.format.order 4611686018427387904 4831355200913801216 == some Ordering.gt) = false := by decide +kernel
  have f3 : (FloatKind.f64.format.order 4611686018427387904 14054727237768577024 == some Ordering.lt) = false := by decide +kernel
  have f4 : ∀ w, (binOp .mul 69 (.float .f64 4611686018427387904) (.float .f64 4636737291354636288)).run Tryz.prog w = .ok (.float .f64 4641240890982006784) w := fun w => run_float_arith w .mul 69 .f64 4611686018427387904 4636737291354636288 4641240890982006784 (by decide +kernel)
  clear hf ht
  go_enter Tryz.func189, Tryz.ntmps189
  go_wp2_with fail
  go_ret2
  exact ⟨rfl, rfl⟩
set_option maxRecDepth 100000 in
theorem atof0 (w : World) (ht : TabN w) : Calls Tryz.prog 140 #[.string ⟨#[50, 101, 43, 48, 50]⟩] w fun e w' => e = .returned (.tuple #[.float .f64 4641240890982006784, .int .i64 5, .nilIface]) ∧ w = w' := by
  have HT := Lib.hid ht
  have ho := ht.opt
  clear ht
  go_enter Tryz.func140, Tryz.ntmps140
  go_wp2_with fail
  refine (special0 _).mono ?_
  rintro e w1 ⟨rfl, rfl⟩
  go_wp2_with fail
  refine (readF0 _).mono ?_
  rintro e w1 ⟨rfl, rfl⟩
  go_wp2_with fail
  refine (bool2_any _ _).mono ?_
  rintro e w1 ⟨rfl, rfl⟩
  go_wp2_with fail
  refine (exact0 _ HT.out).mono ?_
  rintro e w1 ⟨rfl, rfl⟩
  go_wp2_with fail
  go_ret3
  exact ⟨rfl, rfl⟩
set_option maxRecDepth 100000 in
theorem parseF0 (w : World) (ht : TabN w) : Calls Tryz.prog 56 #[.string ⟨#[50, 101, 43, 48, 50]⟩, .int .i64 64] w fun e w' => e = .returned (.tuple #[.float .f64 4641240890982006784, .nilIface]) ∧ w = w' := by
  have HP : Hid (Calls Tryz.prog 93 #[.string ⟨#[50, 101, 43, 48, 50]⟩, .int .i64 64] w fun e w' => e = .returned (.tuple #[.float .f64 4641240890982006784, .nilIface]) ∧ w = w') := Lib.hid (by
    have HT := Lib.hid ht
    clear ht
    go_enter Tryz.func93, Tryz.ntmps93
    go_wp2_with fail
    refine Calls.mono (R := fun e w' => e = .returned (.tuple #[.float .f64 4641240890982006784, .int .i64 5, .nilIface]) ∧ w = w') ?_ ?_
    · go_enter Tryz.func108, Tryz.ntmps108
      go_wp2_with fail
      refine (atof0 _ HT.out).mono ?_
      rintro e w1 ⟨rfl, rfl⟩
      go_wp2_with fail
      go_ret3
      exact ⟨rfl, rfl⟩
    rintro e w1 ⟨rfl, rfl⟩
    go_wp2_with fail
    go_ret2
    exact ⟨rfl, rfl⟩)
  clear ht
  go_enter Tryz.func56, Tryz.ntmps56
  go_wp2_with fail
  refine HP.out.mono ?_
  rintro e w1 ⟨rfl, rfl⟩
  go_wp2_with fail
  go_ret2
  exact ⟨rfl, rfl⟩
set_option maxRecDepth 100000 in
theorem special1 (w : World) : Calls Tryz.prog 178 #[.string ⟨#[49, 46, 53, 101, 43, 48, 50]⟩] w fun e w' => e = .returned (.tuple #[.float .f64 0, .int .i64 0, .bool false]) ∧ w = w' := by
  have i0 : ∀ w, (Instr.index 9 (.string ⟨#[49, 46, 53, 101, 43, 48, 50]⟩) (.int .i64 0)).run Tryz.prog w = .ok (.int .u8 49) w := fun _ => by kernel_rfl
  go_enter Tryz.func178, Tryz.ntmps178
  go_wp2_with fail
  go_ret3
  exact ⟨rfl, rfl⟩
set_option maxRecDepth 100000 in
theorem exact1 (w : World) (ht : TabN w) : Calls Tryz.prog 189 #[.int .u64 15, .int .i64 1, .bool false] w fun e w' => e = .returned (.tuple #[.float .f64 4639481672377565184, .bool true]) ∧ w = w' := by
  obtain ⟨a, cap, hc, hf⟩ := ht.fl
  have hmb := ht.mb
  have hp : w.cell? ⟨a.block, a.off + 1, none⟩ = some (.float .f64 4621819117588971520) := hf 1 (by decide)
  have f1 : floatOfInt .f64 15 = 4624633867356078080 := by decide +kernel
  have f2 : (FloatKind.f64.format.order 4624633867356078080 4831355200913801216 == some Ordering.gt) = false := by decide +kernel
  have f3 : (FloatKind.f64.format.order 4624633867356078080 14054727237768577024 == some Ordering.lt) = false := by decide +kernel
  have f4 : ∀ w, (binOp .mul 69 (.float .f64 4624633867356078080) (.float .f64 4621819117588971520)).run Tryz.prog w = .ok (.float .f64 4639481672377565184) w := fun w => run_float_arith w .mul 69 .f64 4624633867356078080 4621819117588971520 4639481672377565184 (by decide +kernel)
  clear hf ht
  go_enter Tryz.func189, Tryz.ntmps189
  go_wp2_with fail
  go_ret2
  exact ⟨rfl, rfl⟩
set_option maxRecDepth 100000 in
theorem atof1 (w : World) (ht : TabN w) : Calls Tryz.prog 140 #[.string ⟨#[49, 46, 53, 101, 43, 48, 50]⟩] w fun e w' => e = .returned (.tuple #[.float .f64 4639481672377565184, .int .i64 7, .nilIface]) ∧ w = w' := by
  have HT := Lib.hid ht
  have ho := ht.opt
  clear ht
  go_enter Tryz.func140, Tryz.ntmps140
  go_wp2_with fail
  refine (special1 _).mono ?_
  rintro e w1 ⟨rfl, rfl⟩
  go_wp2_with fail
  refine (readF1 _).mono ?_
  rintro e w1 ⟨rfl, rfl⟩
  go_wp2_with fail
  refine (bool2_any _ _).mono ?_
  rintro e w1 ⟨rfl, rfl⟩
  go_wp2_with fail
  refine (exact1 _ HT.out).mono ?_
  rintro e w1 ⟨rfl, rfl⟩
  go_wp2_with fail
  go_ret3
  exact ⟨rfl, rfl⟩
set_option maxRecDepth 100000 in
theorem parseF1 (w : World) (ht : TabN w) : Calls Tryz.prog 56 #[.string ⟨#[49, 46, 53, 101, 43, 48, 50]⟩, .int .i64 64] w fun e w' => e = .returned (.tuple #[.float .f64 4639481672377565184, .nilIface]) ∧ w = w' := by
  have HP : Hid (Calls Tryz.prog 93 #[.string ⟨#[49, 46, 53, 101, 43, 48, 50]⟩, .int .i64 64] w fun e w' => e = .returned (.tuple #[.float .f64 4639481672377565184, .nilIface]) ∧ w = w') := Lib.hid (by
    have HT := Lib.hid ht
    clear ht
    go_enter Tryz.func93, Tryz.ntmps93
    go_wp2_with fail
    refine Calls.mono (R := fun e w' => e = .returned (.tuple #[.float .f64 4639481672377565184, .int .i64 7, .nilIface]) ∧ w = w') ?_ ?_
    · go_enter Tryz.func108, Tryz.ntmps108
      go_wp2_with fail
      refine (atof1 _ HT.out).mono ?_
      rintro e w1 ⟨rfl, rfl⟩
      go_wp2_with fail
      go_ret3
      exact ⟨rfl, rfl⟩
    rintro e w1 ⟨rfl, rfl⟩
    go_wp2_with fail
    go_ret2
    exact ⟨rfl, rfl⟩)
  clear ht
  go_enter Tryz.func56, Tryz.ntmps56
  go_wp2_with fail
  refine HP.out.mono ?_
  rintro e w1 ⟨rfl, rfl⟩
  go_wp2_with fail
  go_ret2
  exact ⟨rfl, rfl⟩
end Go.Proofs.YtpgfogfejemojaaGreatDoor
