/-
  strconv.FormatFloat of 150 in the format e.
-/
import Derived.Test.YtpgfogfejemojaaGreatDoorFtoa
set_option linter.unusedVariables false
namespace Go.Proofs.YtpgfogfejemojaaGreatDoor
open Go.RowKit Go.Sort Go.Lib

theorem run_make24 (w : World) : (Instr.makeSlice 83 (.int .i64 0) (.int .i64 24)).run Tryz.prog w = .ok (.slice (some ⟨w.heap.size, 0, none⟩) 0 24) (w.alloc (.cells (madeCells #[.int .u8 0] 24) 5)) := by
  obtain ⟨i0, hi, hz0, hz1, hz2⟩ := info_parts infoU8
  have h := run_make (P := Tryz.prog) w 83 5 i0 (.int .u8 0) Tryz.underlying83 hi hz0 .i64 .i64 0 24 (by omega) (by omega) (by rw [hz2]; omega) (by omega)
  rw [h, hz1]
  rfl
set_option maxRecDepth 100000 in
theorem fmtI0 (w : World) (ht : TabN w) :
    Calls Tryz.prog 92 #[.float .f64 4639481672377565184, .int .u8 101, .int .i64 0, .int .i64 64] w fun e w' => e = .returned (.string ⟨#[50, 101, 43, 48, 50]⟩) ∧ Below w.heap.size w w' := by
  have hmk : ∀ w : World, (Instr.makeSlice 83 (.int .i64 0) (.int .i64 (max 4 24))).run Tryz.prog w = .ok (.slice (some ⟨w.heap.size, 0, none⟩) 0 24) (w.alloc (.cells (madeCells #[.int .u8 0] 24) 5)) := run_make24
  have HD : Hid (Dst (w.alloc (.cells (madeCells #[.int .u8 0] 24) 5)) w.heap.size w.heap.size []) := Lib.hid (World.ownsRow_made w (madeCells #[.int .u8 0] 24) 24 (e := 5) (size := 1) (Nat.le_refl _) (by unfold maxLen; omega) (by rw [size_madeCells]))
  have HT : Hid (TabN (w.alloc (.cells (madeCells #[.int .u8 0] 24) 5))) := Lib.hid (ht.below ((Below.refl _ _).alloc (Nat.le_refl _) _))
  clear ht
  go_enter Tryz.func92, Tryz.ntmps92
  go_wp2_with fail
  refine (ftoa0 w.heap.size w.heap.size (Nat.le_refl _) _ HT.out HD.out (by simp) (by simp)).mono ?_
  rintro e w1 ⟨rfl, hd, hb⟩
  have hcv : (convert 83 9 (.slice (some ⟨w.heap.size, 0, none⟩) 5 24)).run Tryz.prog w1 = .ok (.string ⟨#[50, 101, 43, 48, 50]⟩) w1 := own_conv hd
  have HB := Lib.hid (((Below.refl w.heap.size w).alloc (Nat.le_refl _) _).trans hb)
  clear hd hb hmk
  go_wp2_with fail
  go_ret
  exact ⟨rfl, HB.out⟩
set_option maxRecDepth 100000 in
theorem fmtF0 (w : World) (ht : TabN w) :
    Calls Tryz.prog 55 #[.float .f64 4639481672377565184, .int .u8 101, .int .i64 0, .int .i64 64] w fun e w' => e = .returned (.string ⟨#[50, 101, 43, 48, 50]⟩) ∧ Below w.heap.size w w' := by
  have HT := Lib.hid ht
  clear ht
  go_enter Tryz.func55, Tryz.ntmps55
  go_wp2_with fail
  refine (fmtI0 _ HT.out).mono ?_
  rintro e w1 ⟨rfl, hb⟩
  have HB := Lib.hid hb
  clear hb
  go_wp2_with fail
  go_ret
  exact ⟨rfl, HB.out⟩
set_option maxRecDepth 100000 in
theorem fmtI1 (w : World) (ht : TabN w) :
    Calls Tryz.prog 92 #[.float .f64 4639481672377565184, .int .u8 101, .int .i64 1, .int .i64 64] w fun e w' => e = .returned (.string ⟨#[49, 46, 53, 101, 43, 48, 50]⟩) ∧ Below w.heap.size w w' := by
  have hmk : ∀ w : World, (Instr.makeSlice 83 (.int .i64 0) (.int .i64 (max 5 24))).run Tryz.prog w = .ok (.slice (some ⟨w.heap.size, 0, none⟩) 0 24) (w.alloc (.cells (madeCells #[.int .u8 0] 24) 5)) := run_make24
  have HD : Hid (Dst (w.alloc (.cells (madeCells #[.int .u8 0] 24) 5)) w.heap.size w.heap.size []) := Lib.hid (World.ownsRow_made w (madeCells #[.int .u8 0] 24) 24 (e := 5) (size := 1) (Nat.le_refl _) (by unfold maxLen; omega) (by rw [size_madeCells]))
  have HT : Hid (TabN (w.alloc (.cells (madeCells #[.int .u8 0] 24) 5))) := Lib.hid (ht.below ((Below.refl _ _).alloc (Nat.le_refl _) _))
  clear ht
  go_enter Tryz.func92, Tryz.ntmps92
  go_wp2_with fail
  refine (ftoa1 w.heap.size w.heap.size (Nat.le_refl _) _ HT.out HD.out (by simp) (by simp)).mono ?_
  rintro e w1 ⟨rfl, hd, hb⟩
  have hcv : (convert 83 9 (.slice (some ⟨w.heap.size, 0, none⟩) 7 24)).run Tryz.prog w1 = .ok (.string ⟨#[49, 46, 53, 101, 43, 48, 50]⟩) w1 := own_conv hd
  have HB := Lib.hid (((Below.refl w.heap.size w).alloc (Nat.le_refl _) _).trans hb)
  clear hd hb hmk
  go_wp2_with fail
  go_ret
  exact ⟨rfl, HB.out⟩
set_option maxRecDepth 100000 in
theorem fmtF1 (w : World) (ht : TabN w) :
    Calls Tryz.prog 55 #[.float .f64 4639481672377565184, .int .u8 101, .int .i64 1, .int .i64 64] w fun e w' => e = .returned (.string ⟨#[49, 46, 53, 101, 43, 48, 50]⟩) ∧ Below w.heap.size w w' := by
  have HT := Lib.hid ht
  clear ht
  go_enter Tryz.func55, Tryz.ntmps55
  go_wp2_with fail
  refine (fmtI1 _ HT.out).mono ?_
  rintro e w1 ⟨rfl, hb⟩
  have HB := Lib.hid hb
  clear hb
  go_wp2_with fail
  go_ret
  exact ⟨rfl, HB.out⟩
end Go.Proofs.YtpgfogfejemojaaGreatDoor
