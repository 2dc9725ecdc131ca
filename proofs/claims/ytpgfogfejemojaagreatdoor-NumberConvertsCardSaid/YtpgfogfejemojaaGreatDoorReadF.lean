/-
  internal/strconv.readFloat at two texts.
-/
import Derived.Test.YtpgfogfejemojaaGreatDoorFmtF
import Derived.Walk3
set_option linter.unusedVariables false
namespace Go.Proofs.YtpgfogfejemojaaGreatDoor
open Go.RowKit Go.Sort Go.Lib

theorem lower_e (w : World) : Calls Tryz.prog 160 #[.int .u8 101] w fun e w' => e = .returned (.int .u8 101) ∧ w = w' := by
  have x : bits .or .u8 101 32 = 101 := by decide +kernel
  go_enter Tryz.func160, Tryz.ntmps160
  go_wp2
  go_ret
  exact ⟨rfl, rfl⟩

set_option maxHeartbeats 4000000 in
set_option maxRecDepth 100000 in
theorem readF0 (w : World) : Calls Tryz.prog 179 #[.string ⟨#[50, 101, 43, 48, 50]⟩] w fun e w' =>
    e = .returned (.tuple #[.int .u64 2, .int .i64 2, .bool false, .bool false, .bool false, .int .i64 5, .bool true]) ∧ w = w' := by
  have i0 : ∀ w, (Instr.index 9 (.string ⟨#[50, 101, 43, 48, 50]⟩) (.int .i64 0)).run Tryz.prog w = .ok (.int .u8 50) w := fun _ => by kernel_rfl
  have i1 : ∀ w, (Instr.index 9 (.string ⟨#[50, 101, 43, 48, 50]⟩) (.int .i64 1)).run Tryz.prog w = .ok (.int .u8 101) w := fun _ => by kernel_rfl
  have i2 : ∀ w, (Instr.index 9 (.string ⟨#[50, 101, 43, 48, 50]⟩) (.int .i64 2)).run Tryz.prog w = .ok (.int .u8 43) w := fun _ => by kernel_rfl
  have i3 : ∀ w, (Instr.index 9 (.string ⟨#[50, 101, 43, 48, 50]⟩) (.int .i64 3)).run Tryz.prog w = .ok (.int .u8 48) w := fun _ => by kernel_rfl
  have i4 : ∀ w, (Instr.index 9 (.string ⟨#[50, 101, 43, 48, 50]⟩) (.int .i64 4)).run Tryz.prog w = .ok (.int .u8 50) w := fun _ => by kernel_rfl
  go_enter Tryz.func179, Tryz.ntmps179
  go_wp2_with fail
  go_step3
  go_wp2_with fail
  go_step3
  go_wp2_with fail
  refine wp_loop_rounds 2 ?_
  rw [rounds_succ]
  go_wp2_with (first | (go_at_call 160; refine (lower_e _).mono ?_; rintro e w' ⟨rfl, rfl⟩))
  rw [rounds_succ]
  go_wp2_with (first | (go_at_call 160; refine (lower_e _).mono ?_; rintro e w' ⟨rfl, rfl⟩))
  refine wp_loop_rounds 3 ?_
  rw [rounds_succ]
  go_wp2_with fail
  rw [rounds_succ]
  go_wp2_with fail
  rw [rounds_succ]
  go_wp2_with fail
  rw [Exit.noGoto_ret]
  exact bodyPost_ret (v := .tuple #[.int .u64 2, .int .i64 2, .bool false, .bool false, .bool false, .int .i64 5, .bool true]) (by simp [results, Tryz.results179, go_sem]) rfl ⟨rfl, rfl⟩
set_option maxHeartbeats 4000000 in
set_option maxRecDepth 100000 in
theorem readF1 (w : World) : Calls Tryz.prog 179 #[.string ⟨#[49, 46, 53, 101, 43, 48, 50]⟩] w fun e w' =>
    e = .returned (.tuple #[.int .u64 15, .int .i64 1, .bool false, .bool false, .bool false, .int .i64 7, .bool true]) ∧ w = w' := by
  have i0 : ∀ w, (Instr.index 9 (.string ⟨#[49, 46, 53, 101, 43, 48, 50]⟩) (.int .i64 0)).run Tryz.prog w = .ok (.int .u8 49) w := fun _ => by kernel_rfl
  have i1 : ∀ w, (Instr.index 9 (.string ⟨#[49, 46, 53, 101, 43, 48, 50]⟩) (.int .i64 1)).run Tryz.prog w = .ok (.int .u8 46) w := fun _ => by kernel_rfl
  have i2 : ∀ w, (Instr.index 9 (.string ⟨#[49, 46, 53, 101, 43, 48, 50]⟩) (.int .i64 2)).run Tryz.prog w = .ok (.int .u8 53) w := fun _ => by kernel_rfl
  have i3 : ∀ w, (Instr.index 9 (.string ⟨#[49, 46, 53, 101, 43, 48, 50]⟩) (.int .i64 3)).run Tryz.prog w = .ok (.int .u8 101) w := fun _ => by kernel_rfl
  have i4 : ∀ w, (Instr.index 9 (.string ⟨#[49, 46, 53, 101, 43, 48, 50]⟩) (.int .i64 4)).run Tryz.prog w = .ok (.int .u8 43) w := fun _ => by kernel_rfl
  have i5 : ∀ w, (Instr.index 9 (.string ⟨#[49, 46, 53, 101, 43, 48, 50]⟩) (.int .i64 5)).run Tryz.prog w = .ok (.int .u8 48) w := fun _ => by kernel_rfl
  have i6 : ∀ w, (Instr.index 9 (.string ⟨#[49, 46, 53, 101, 43, 48, 50]⟩) (.int .i64 6)).run Tryz.prog w = .ok (.int .u8 50) w := fun _ => by kernel_rfl
  go_enter Tryz.func179, Tryz.ntmps179
  go_wp2_with fail
  go_step3
  go_wp2_with fail
  go_step3
  go_wp2_with fail
  refine wp_loop_rounds 4 ?_
  rw [rounds_succ]
  go_wp2_with (first | (go_at_call 160; refine (lower_e _).mono ?_; rintro e w' ⟨rfl, rfl⟩))
  rw [rounds_succ]
  go_wp2_with (first | (go_at_call 160; refine (lower_e _).mono ?_; rintro e w' ⟨rfl, rfl⟩))
  rw [rounds_succ]
  go_wp2_with (first | (go_at_call 160; refine (lower_e _).mono ?_; rintro e w' ⟨rfl, rfl⟩))
  rw [rounds_succ]
  go_wp2_with (first | (go_at_call 160; refine (lower_e _).mono ?_; rintro e w' ⟨rfl, rfl⟩))
  refine wp_loop_rounds 3 ?_
  rw [rounds_succ]
  go_wp2_with fail
  rw [rounds_succ]
  go_wp2_with fail
  rw [rounds_succ]
  go_wp2_with fail
  rw [Exit.noGoto_ret]
  exact bodyPost_ret (v := .tuple #[.int .u64 15, .int .i64 1, .bool false, .bool false, .bool false, .int .i64 7, .bool true]) (by simp [results, Tryz.results179, go_sem]) rfl ⟨rfl, rfl⟩
end Go.Proofs.YtpgfogfejemojaaGreatDoor
