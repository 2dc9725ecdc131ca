/-
  digest.word.
-/
import Derived.Test.YthhaofdnbemogaaDoorAdd
import Derived.Deep.OwnRows
set_option linter.unusedVariables false
namespace Go.Proofs.YthhaofdnbemogaaDoor
open Go.RowKit

def byI (z : Int) : UInt8 := UInt8.ofNat (z % 256).toNat
theorem byI_val (z : Int) : ((byI z).toNat : Int) = z % 256 := by
  unfold byI
  simp
  omega
/-- A number in so many bytes, the most significant one first. -/
def beL (m : Nat) (u : Int) : List UInt8 := (List.range m).map fun j => byI (u / 2 ^ (8 * (m - 1 - j)))
theorem beL_len (m : Nat) (u : Int) : (beL m u).length = m := by simp [beL]
theorem beL_get (m : Nat) (u : Int) (j : Nat) (h : j < m) : (beL m u)[j]'(by rw [beL_len]; exact h) = byI (u / 2 ^ (8 * (m - 1 - j))) := by simp [beL]

def wordF (u : Int) (k : Nat) (j : Nat) : Value := if j < k then .int .u8 (u / 2 ^ (8 * (7 - j)) % 256) else .int .u8 0
theorem wordF_step (u : Int) (k : Nat) (v : Int) (hv : v = u / 2 ^ (8 * (7 - k)) % 256) (j : Nat) : (if j = k then Value.int .u8 v else wordF u k j) = wordF u (k + 1) j := by
  unfold wordF
  by_cases h : j = k
  · subst h
    rw [if_pos rfl, if_pos (by omega), hv]
  · rw [if_neg h]
    by_cases h2 : j < k
    · rw [if_pos h2, if_pos (by omega)]
    · rw [if_neg h2, if_neg (by omega)]

theorem infoU8 : (Tryd.prog.info? 5).map (fun i => (i.zero, i.size, i.bytes)) = some (some (.int .u8 0), 1, 1) := by kernel_rfl
theorem addr_at (g j : Nat) : (⟨g, 0, none⟩ : Addr).add j = ⟨g, j, none⟩ := by unfold Addr.add; split <;> simp_all
def WordRel (w : World) (u : Int) (i : Value) (wr : World) : Prop :=
  ∃ k : Nat, k ≤ 8 ∧ i = .int .i64 (k : Int) ∧ wr.rowIs w.heap.size 5 8 (wordF u k) ∧ Below w.heap.size w wr

set_option maxHeartbeats 2000000 in
set_option maxRecDepth 100000 in
theorem word_any (u : Int) (h0 : 0 ≤ u) (h1 : u < 18446744073709551616) (w : World) :
    Calls Tryd.prog 48 #[.int .u64 u] w fun e w' => e = .returned (.string (strL (beL 8 u))) ∧ Below w.heap.size w w' := by
  have hrow := World.rowIs_made w (.int .u8 0) 8 5
  have HROW := Lib.hid hrow
  clear hrow
  have hmk : ∀ w, (Instr.makeSlice 47 (.int .i64 8) (.int .i64 8)).run Tryd.prog w = .ok (.slice (some ⟨w.heap.size, 0, none⟩) 8 8) (w.alloc (.cells (madeCells #[.int .u8 0] 8) 5)) := fun w =>
    run_make_row' (P := Tryd.prog) 47 5 (.int .u8 0) 1 Tryd.underlying47 infoU8 rfl .i64 .i64 8 (by omega) (by omega) w
  go_enter Tryd.func48, Tryd.ntmps48
  go_wp2
  go_loopw [4, 8] (fun _ i wr => WordRel w u i wr) (fun _ i _ => 8 - (intOf i).toNat)
  case atStart => exact ⟨0, by omega, rfl, HROW.out.congr (fun j _ => by simp [wordF]), (Below.refl _ _).alloc (Nat.le_refl _) _⟩
  case round =>
    obtain ⟨k, hk, rfl, hr, hbel⟩ := hrel
    by_cases hlt : k < 8
    · have hcell := hr.cell hlt
      have hfr := hr.frozen k
      have HR := Lib.hid hr
      have HBL := Lib.hid hbel
      clear hr hbel hcell
      have hex : ∃ x, wr.cell? ⟨w.heap.size, k, none⟩ = some x := ⟨_, HR.out.cell hlt⟩
      obtain ⟨x, hx⟩ := hex
      have hbig : u < 340282366920938463463374607431768211456 := by omega
      rcases (by omega : k = 0 ∨ k = 1 ∨ k = 2 ∨ k = 3 ∨ k = 4 ∨ k = 5 ∨ k = 6 ∨ k = 7) with rfl | rfl | rfl | rfl | rfl | rfl | rfl | rfl
      all_goals
        go_wp2
        go_roundw
        case rel => exact ⟨_ + 1, by omega, by go_num, (HR.out.set _ _).congr (fun j _ => wordF_step u _ _ (by simp <;> omega) j), HBL.out.setCell (Nat.le_refl _) _⟩
        case measure => simp [intOf]
    · obtain rfl : k = 8 := by omega
      have hcv : (convert 47 9 (.slice (some ⟨w.heap.size, 0, none⟩) 8 8)).run Tryd.prog wr = .ok (.string (strL (beL 8 u))) wr := by
        refine run_convert_bytes_back wr _ _ _ ⟨w.heap.size, 0, none⟩ 8 (beL 8 u) Tryd.underlying47 Tryd.underlying5 Tryd.underlying9 (fun j hj => ?_)
        rw [beL_len] at hj
        rw [beL_get 8 u j hj, byI_val]
        have := hr.cell hj
        rw [wordF, if_pos hj] at this
        rw [addr_at]
        exact this
      have HBL := Lib.hid hbel
      clear hr hbel
      go_wp2
      go_ret
      exact ⟨rfl, HBL.out⟩
end Go.Proofs.YthhaofdnbemogaaDoor
