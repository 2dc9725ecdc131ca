/-
  acheronref03: right, Bytes.
-/
import Derived.Test.YthhaofdnbemogaaDoorRsM
set_option linter.unusedVariables false
namespace Go.Proofs.YthhaofdnbemogaaDoor
open Go.RowKit

def wordG (m : Nat) (u : Int) (k : Nat) (j : Nat) : Value := if m ≤ j + k then .int .u8 (u / 2 ^ (8 * (m - 1 - j)) % 256) else .int .u8 0
theorem wordG_step (m : Nat) (u : Int) (k : Nat) (hk : k < m) (v : Int) (hv : v = u / 2 ^ (8 * k) % 256) (j : Nat) (hj : j < m) : (if j = m - 1 - k then Value.int .u8 v else wordG m u k j) = wordG m u (k + 1) j := by
  unfold wordG
  by_cases h : j = m - 1 - k
  · rw [if_pos h, if_pos (by omega), hv]
    have e : m - 1 - j = k := by omega
    rw [e]
  · rw [if_neg h]
    by_cases h2 : m ≤ j + k
    · rw [if_pos h2, if_pos (by omega)]
    · rw [if_neg h2, if_neg (by omega)]

def BytRel (w : World) (m : Nat) (u : Int) (i : Value) (wr : World) : Prop :=
  ∃ k : Nat, k ≤ m ∧ i = .int .i64 (k : Int) ∧ wr.rowIs w.heap.size 5 m (wordG m u k) ∧ Below w.heap.size w wr

set_option maxHeartbeats 2000000 in
set_option maxRecDepth 100000 in
theorem refBytes8 (u : Int) (h0 : 0 ≤ u) (h1 : u < 9223372036854775808) (w : World) :
    Calls Tryd.prog 50 #[.int .i64 u, .int .i64 8] w fun e w' => e = .returned (.string (strL (beL 8 u))) ∧ Below w.heap.size w w' := by
  have hrow := World.rowIs_made w (.int .u8 0) 8 5
  have HROW := Lib.hid hrow
  clear hrow
  have hmk : ∀ w, (Instr.makeSlice 47 (.int .i64 8) (.int .i64 8)).run Tryd.prog w = .ok (.slice (some ⟨w.heap.size, 0, none⟩) 8 8) (w.alloc (.cells (madeCells #[.int .u8 0] 8) 5)) := fun w =>
    run_make_row' (P := Tryd.prog) 47 5 (.int .u8 0) 1 Tryd.underlying47 infoU8 rfl .i64 .i64 8 (by omega) (by omega) w
  go_enter Tryd.func50, Tryd.ntmps50
  go_wp2
  go_loopw [6] (fun i wr => BytRel w 8 u i wr) (fun i _ => 8 - (intOf i).toNat)
  case atStart => exact ⟨0, by omega, rfl, HROW.out.congr (fun j hj => by simp [wordG]; omega), (Below.refl _ _).alloc (Nat.le_refl _) _⟩
  case round =>
    obtain ⟨k, hk, rfl, hr, hbel⟩ := hrel
    by_cases hlt : k < 8
    · have hfr := hr.frozen (8 - 1 - k)
      have HR := Lib.hid hr
      have HBL := Lib.hid hbel
      have hex : ∃ x, wr.cell? ⟨w.heap.size, 8 - 1 - k, none⟩ = some x := ⟨_, hr.cell (by omega)⟩
      clear hr hbel
      obtain ⟨x, hx⟩ := hex
      have hbig : u < 340282366920938463463374607431768211456 := by omega
      rcases (by omega : k = 0 ∨ k = 1 ∨ k = 2 ∨ k = 3 ∨ k = 4 ∨ k = 5 ∨ k = 6 ∨ k = 7) with rfl | rfl | rfl | rfl | rfl | rfl | rfl | rfl
      · go_wp2
        go_roundw
        case rel => exact ⟨1, by omega, by go_num, (HR.out.set 7 _).congr (fun j hj => wordG_step 8 u 0 (by omega) _ (by simp <;> omega) j hj), HBL.out.setCell (Nat.le_refl _) _⟩
        case measure => simp [intOf]
      · go_wp2
        go_roundw
        case rel => exact ⟨2, by omega, by go_num, (HR.out.set 6 _).congr (fun j hj => wordG_step 8 u 1 (by omega) _ (by simp <;> omega) j hj), HBL.out.setCell (Nat.le_refl _) _⟩
        case measure => simp [intOf]
      · go_wp2
        go_roundw
        case rel => exact ⟨3, by omega, by go_num, (HR.out.set 5 _).congr (fun j hj => wordG_step 8 u 2 (by omega) _ (by simp <;> omega) j hj), HBL.out.setCell (Nat.le_refl _) _⟩
        case measure => simp [intOf]
      · go_wp2
        go_roundw
        case rel => exact ⟨4, by omega, by go_num, (HR.out.set 4 _).congr (fun j hj => wordG_step 8 u 3 (by omega) _ (by simp <;> omega) j hj), HBL.out.setCell (Nat.le_refl _) _⟩
        case measure => simp [intOf]
      · go_wp2
        go_roundw
        case rel => exact ⟨5, by omega, by go_num, (HR.out.set 3 _).congr (fun j hj => wordG_step 8 u 4 (by omega) _ (by simp <;> omega) j hj), HBL.out.setCell (Nat.le_refl _) _⟩
        case measure => simp [intOf]
      · go_wp2
        go_roundw
        case rel => exact ⟨6, by omega, by go_num, (HR.out.set 2 _).congr (fun j hj => wordG_step 8 u 5 (by omega) _ (by simp <;> omega) j hj), HBL.out.setCell (Nat.le_refl _) _⟩
        case measure => simp [intOf]
      · go_wp2
        go_roundw
        case rel => exact ⟨7, by omega, by go_num, (HR.out.set 1 _).congr (fun j hj => wordG_step 8 u 6 (by omega) _ (by simp <;> omega) j hj), HBL.out.setCell (Nat.le_refl _) _⟩
        case measure => simp [intOf]
      · go_wp2
        go_roundw
        case rel => exact ⟨8, by omega, by go_num, (HR.out.set 0 _).congr (fun j hj => wordG_step 8 u 7 (by omega) _ (by simp <;> omega) j hj), HBL.out.setCell (Nat.le_refl _) _⟩
        case measure => simp [intOf]
    · obtain rfl : k = 8 := by omega
      have hcv : (convert 47 9 (.slice (some ⟨w.heap.size, 0, none⟩) 8 8)).run Tryd.prog wr = .ok (.string (strL (beL 8 u))) wr := by
        refine run_convert_bytes_back wr _ _ _ ⟨w.heap.size, 0, none⟩ 8 (beL 8 u) Tryd.underlying47 Tryd.underlying5 Tryd.underlying9 (fun j hj => ?_)
        rw [beL_len] at hj
        rw [beL_get 8 u j hj, byI_val]
        have := hr.cell hj
        rw [wordG, if_pos (by omega)] at this
        rw [addr_at]
        exact this
      have HBL := Lib.hid hbel
      clear hr hbel
      go_wp2
      go_ret
      exact ⟨rfl, HBL.out⟩

set_option maxHeartbeats 2000000 in
set_option maxRecDepth 100000 in
theorem refBytes4 (u : Int) (h0 : 0 ≤ u) (h1 : u < 9223372036854775808) (w : World) :
    Calls Tryd.prog 50 #[.int .i64 u, .int .i64 4] w fun e w' => e = .returned (.string (strL (beL 4 u))) ∧ Below w.heap.size w w' := by
  have hrow := World.rowIs_made w (.int .u8 0) 4 5
  have HROW := Lib.hid hrow
  clear hrow
  have hmk : ∀ w, (Instr.makeSlice 47 (.int .i64 4) (.int .i64 4)).run Tryd.prog w = .ok (.slice (some ⟨w.heap.size, 0, none⟩) 4 4) (w.alloc (.cells (madeCells #[.int .u8 0] 4) 5)) := fun w =>
    run_make_row' (P := Tryd.prog) 47 5 (.int .u8 0) 1 Tryd.underlying47 infoU8 rfl .i64 .i64 4 (by omega) (by omega) w
  go_enter Tryd.func50, Tryd.ntmps50
  go_wp2
  go_loopw [6] (fun i wr => BytRel w 4 u i wr) (fun i _ => 4 - (intOf i).toNat)
  case atStart => exact ⟨0, by omega, rfl, HROW.out.congr (fun j hj => by simp [wordG]; omega), (Below.refl _ _).alloc (Nat.le_refl _) _⟩
  case round =>
    obtain ⟨k, hk, rfl, hr, hbel⟩ := hrel
    by_cases hlt : k < 4
    · have hfr := hr.frozen (4 - 1 - k)
      have HR := Lib.hid hr
      have HBL := Lib.hid hbel
      have hex : ∃ x, wr.cell? ⟨w.heap.size, 4 - 1 - k, none⟩ = some x := ⟨_, hr.cell (by omega)⟩
      clear hr hbel
      obtain ⟨x, hx⟩ := hex
      have hbig : u < 340282366920938463463374607431768211456 := by omega
      rcases (by omega : k = 0 ∨ k = 1 ∨ k = 2 ∨ k = 3) with rfl | rfl | rfl | rfl
      · go_wp2
        go_roundw
        case rel => exact ⟨1, by omega, by go_num, (HR.out.set 3 _).congr (fun j hj => wordG_step 4 u 0 (by omega) _ (by simp <;> omega) j hj), HBL.out.setCell (Nat.le_refl _) _⟩
        case measure => simp [intOf]
      · go_wp2
        go_roundw
        case rel => exact ⟨2, by omega, by go_num, (HR.out.set 2 _).congr (fun j hj => wordG_step 4 u 1 (by omega) _ (by simp <;> omega) j hj), HBL.out.setCell (Nat.le_refl _) _⟩
        case measure => simp [intOf]
      · go_wp2
        go_roundw
        case rel => exact ⟨3, by omega, by go_num, (HR.out.set 1 _).congr (fun j hj => wordG_step 4 u 2 (by omega) _ (by simp <;> omega) j hj), HBL.out.setCell (Nat.le_refl _) _⟩
        case measure => simp [intOf]
      · go_wp2
        go_roundw
        case rel => exact ⟨4, by omega, by go_num, (HR.out.set 0 _).congr (fun j hj => wordG_step 4 u 3 (by omega) _ (by simp <;> omega) j hj), HBL.out.setCell (Nat.le_refl _) _⟩
        case measure => simp [intOf]
    · obtain rfl : k = 4 := by omega
      have hcv : (convert 47 9 (.slice (some ⟨w.heap.size, 0, none⟩) 4 4)).run Tryd.prog wr = .ok (.string (strL (beL 4 u))) wr := by
        refine run_convert_bytes_back wr _ _ _ ⟨w.heap.size, 0, none⟩ 4 (beL 4 u) Tryd.underlying47 Tryd.underlying5 Tryd.underlying9 (fun j hj => ?_)
        rw [beL_len] at hj
        rw [beL_get 4 u j hj, byI_val]
        have := hr.cell hj
        rw [wordG, if_pos (by omega)] at this
        rw [addr_at]
        exact this
      have HBL := Lib.hid hbel
      clear hr hbel
      go_wp2
      go_ret
      exact ⟨rfl, HBL.out⟩

theorem ret_u32 {a b : Int} (h : a = b) : Ending.returned (.int .u32 a) = .returned (.int .u32 b) := by rw [h]
theorem refright_17 (x : Int) (w : World) : Calls Tryd.prog 53 #[.int .u32 x, .int .i64 17] w fun e w' => e = .returned (.int .u32 (rotR 17 x)) ∧ ∃ m, w' = w.drewN m := by
  have h1 := or_comm32 (x / 2 ^ 17) (x * 2 ^ (32 - 17) % 4294967296)
  have H1 := Lib.hid h1
  clear h1
  go_enter Tryd.func53, Tryd.ntmps53
  go_wp2
  go_quiet (fail)
  go_wp2
  go_ret
  exact ⟨ret_u32 (by unfold rotR; rw [← H1.out]; rfl), _, rfl⟩
theorem refright_19 (x : Int) (w : World) : Calls Tryd.prog 53 #[.int .u32 x, .int .i64 19] w fun e w' => e = .returned (.int .u32 (rotR 19 x)) ∧ ∃ m, w' = w.drewN m := by
  have h1 := or_comm32 (x / 2 ^ 19) (x * 2 ^ (32 - 19) % 4294967296)
  have H1 := Lib.hid h1
  clear h1
  go_enter Tryd.func53, Tryd.ntmps53
  go_wp2
  go_quiet (fail)
  go_wp2
  go_ret
  exact ⟨ret_u32 (by unfold rotR; rw [← H1.out]; rfl), _, rfl⟩
theorem refright_7 (x : Int) (w : World) : Calls Tryd.prog 53 #[.int .u32 x, .int .i64 7] w fun e w' => e = .returned (.int .u32 (rotR 7 x)) ∧ ∃ m, w' = w.drewN m := by
  have h1 := or_comm32 (x / 2 ^ 7) (x * 2 ^ (32 - 7) % 4294967296)
  have H1 := Lib.hid h1
  clear h1
  go_enter Tryd.func53, Tryd.ntmps53
  go_wp2
  go_quiet (fail)
  go_wp2
  go_ret
  exact ⟨ret_u32 (by unfold rotR; rw [← H1.out]; rfl), _, rfl⟩
theorem refright_18 (x : Int) (w : World) : Calls Tryd.prog 53 #[.int .u32 x, .int .i64 18] w fun e w' => e = .returned (.int .u32 (rotR 18 x)) ∧ ∃ m, w' = w.drewN m := by
  have h1 := or_comm32 (x / 2 ^ 18) (x * 2 ^ (32 - 18) % 4294967296)
  have H1 := Lib.hid h1
  clear h1
  go_enter Tryd.func53, Tryd.ntmps53
  go_wp2
  go_quiet (fail)
  go_wp2
  go_ret
  exact ⟨ret_u32 (by unfold rotR; rw [← H1.out]; rfl), _, rfl⟩
theorem refright_6 (x : Int) (w : World) : Calls Tryd.prog 53 #[.int .u32 x, .int .i64 6] w fun e w' => e = .returned (.int .u32 (rotR 6 x)) ∧ ∃ m, w' = w.drewN m := by
  have h1 := or_comm32 (x / 2 ^ 6) (x * 2 ^ (32 - 6) % 4294967296)
  have H1 := Lib.hid h1
  clear h1
  go_enter Tryd.func53, Tryd.ntmps53
  go_wp2
  go_quiet (fail)
  go_wp2
  go_ret
  exact ⟨ret_u32 (by unfold rotR; rw [← H1.out]; rfl), _, rfl⟩
theorem refright_11 (x : Int) (w : World) : Calls Tryd.prog 53 #[.int .u32 x, .int .i64 11] w fun e w' => e = .returned (.int .u32 (rotR 11 x)) ∧ ∃ m, w' = w.drewN m := by
  have h1 := or_comm32 (x / 2 ^ 11) (x * 2 ^ (32 - 11) % 4294967296)
  have H1 := Lib.hid h1
  clear h1
  go_enter Tryd.func53, Tryd.ntmps53
  go_wp2
  go_quiet (fail)
  go_wp2
  go_ret
  exact ⟨ret_u32 (by unfold rotR; rw [← H1.out]; rfl), _, rfl⟩
theorem refright_25 (x : Int) (w : World) : Calls Tryd.prog 53 #[.int .u32 x, .int .i64 25] w fun e w' => e = .returned (.int .u32 (rotR 25 x)) ∧ ∃ m, w' = w.drewN m := by
  have h1 := or_comm32 (x / 2 ^ 25) (x * 2 ^ (32 - 25) % 4294967296)
  have H1 := Lib.hid h1
  clear h1
  go_enter Tryd.func53, Tryd.ntmps53
  go_wp2
  go_quiet (fail)
  go_wp2
  go_ret
  exact ⟨ret_u32 (by unfold rotR; rw [← H1.out]; rfl), _, rfl⟩
theorem refright_2 (x : Int) (w : World) : Calls Tryd.prog 53 #[.int .u32 x, .int .i64 2] w fun e w' => e = .returned (.int .u32 (rotR 2 x)) ∧ ∃ m, w' = w.drewN m := by
  have h1 := or_comm32 (x / 2 ^ 2) (x * 2 ^ (32 - 2) % 4294967296)
  have H1 := Lib.hid h1
  clear h1
  go_enter Tryd.func53, Tryd.ntmps53
  go_wp2
  go_quiet (fail)
  go_wp2
  go_ret
  exact ⟨ret_u32 (by unfold rotR; rw [← H1.out]; rfl), _, rfl⟩
theorem refright_13 (x : Int) (w : World) : Calls Tryd.prog 53 #[.int .u32 x, .int .i64 13] w fun e w' => e = .returned (.int .u32 (rotR 13 x)) ∧ ∃ m, w' = w.drewN m := by
  have h1 := or_comm32 (x / 2 ^ 13) (x * 2 ^ (32 - 13) % 4294967296)
  have H1 := Lib.hid h1
  clear h1
  go_enter Tryd.func53, Tryd.ntmps53
  go_wp2
  go_quiet (fail)
  go_wp2
  go_ret
  exact ⟨ret_u32 (by unfold rotR; rw [← H1.out]; rfl), _, rfl⟩
theorem refright_22 (x : Int) (w : World) : Calls Tryd.prog 53 #[.int .u32 x, .int .i64 22] w fun e w' => e = .returned (.int .u32 (rotR 22 x)) ∧ ∃ m, w' = w.drewN m := by
  have h1 := or_comm32 (x / 2 ^ 22) (x * 2 ^ (32 - 22) % 4294967296)
  have H1 := Lib.hid h1
  clear h1
  go_enter Tryd.func53, Tryd.ntmps53
  go_wp2
  go_quiet (fail)
  go_wp2
  go_ret
  exact ⟨ret_u32 (by unfold rotR; rw [← H1.out]; rfl), _, rfl⟩
end Go.Proofs.YthhaofdnbemogaaDoor
