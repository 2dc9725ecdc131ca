/-
  The reference's simple escapes.
-/
import Derived.Test.YtjpnkffdpcfnjaaDoorUnqM
set_option linter.unusedVariables false
namespace Go.Proofs.YtjpnkffdpcfnjaaDoor
open Go.RowKit

def frL : ByteArray := ⟨#[110, 116, 114, 98, 97, 118, 102, 48, 34, 39, 92]⟩
def toL : List Int := [10, 9, 13, 8, 7, 11, 12, 0, 34, 39, 92]
theorem esc_at : ∀ k : Fin 11, toL.getD k.val 0 = escv (byteAt frL k.val) := by decide +kernel
theorem esc_none : ∀ b : Fin 256, (∀ k : Fin 11, byteAt frL k.val ≠ b.val) → escv b.val = -1 := by decide +kernel
theorem esc_cells (w : World) : ∀ k : Nat, k < 11 → (w.alloc (.cells #[.int .i64 10, .int .i64 9, .int .i64 13, .int .i64 8, .int .i64 7, .int .i64 11, .int .i64 12, .int .i64 0, .int .i64 34, .int .i64 39, .int .i64 92] 3)).cell? ⟨w.heap.size, k, none⟩ = some (.int .i64 (toL.getD k 0)) := by
  intro k hk
  rw [World.cell?_alloc_at _ _ _ _ rfl]
  rcases (by omega : k = 0 ∨ k = 1 ∨ k = 2 ∨ k = 3 ∨ k = 4 ∨ k = 5 ∨ k = 6 ∨ k = 7 ∨ k = 8 ∨ k = 9 ∨ k = 10) with rfl | rfl | rfl | rfl | rfl | rfl | rfl | rfl | rfl | rfl | rfl <;> rfl

set_option maxHeartbeats 2000000 in
theorem escape_any (z : Int) (h0 : 0 ≤ z) (h1 : z < 256) (w : World) :
    Calls Tryd.prog 36 #[.int .u8 z] w fun e w' => e = .returned (.int .i64 (escv z.toNat)) ∧ Below w.heap.size w w' := by
  have hcell := esc_cells w
  have hB : Below w.heap.size w (w.alloc (.cells #[.int .i64 10, .int .i64 9, .int .i64 13, .int .i64 8, .int .i64 7, .int .i64 11, .int .i64 12, .int .i64 0, .int .i64 34, .int .i64 39, .int .i64 92] 3)) := (Below.refl _ _).alloc (Nat.le_refl _) _
  have hfs : frL.size = 11 := rfl
  have hat : ∀ (k : Nat) (h : k < frL.size), ((frL[k].toNat : Int) == z) = true → toL.getD k 0 = escv z.toNat := fun k h he => by
    have e := esc_at ⟨k, h⟩
    have e2 := eq_of_beq he
    rw [byteAt_eq frL k h] at e2
    rw [e]
    show escv (byteAt frL k) = _
    rw [← e2, Int.toNat_natCast]
  have hno : (∀ k : Nat, k < 11 → (byteAt frL k : Int) ≠ z) → escv z.toNat = -1 := fun h => by
    obtain ⟨n, rfl⟩ := Int.eq_ofNat_of_zero_le h0
    exact esc_none ⟨n, by omega⟩ fun k hk => h k.val k.isLt (by rw [hk])
  have hbe := byteAt_eq frL
  have HCELL := Lib.hid hcell
  have HAT := Lib.hid hat
  have HNO := Lib.hid hno
  have HBE := Lib.hid hbe
  clear hcell hat hno hbe h0 h1
  go_enter Tryd.func36, Tryd.ntmps36
  go_wp2
  rw [show (⟨#[110, 116, 114, 98, 97, 118, 102, 48, 34, 39, 92]⟩ : ByteArray) = frL from rfl]
  generalize w.alloc (.cells #[.int .i64 10, .int .i64 9, .int .i64 13, .int .i64 8, .int .i64 7, .int .i64 11, .int .i64 12, .int .i64 0, .int .i64 34, .int .i64 39, .int .i64 92] 3) = W at HCELL hB ⊢
  generalize frL = fs at *
  go_loop [5] (fun i => ∃ k : Nat, k ≤ 11 ∧ i = .int .i64 (k : Int) ∧ ∀ j, j < k → (byteAt fs j : Int) ≠ z) (fun i => 11 - (intOf i).toNat)
  case atStart => exact ⟨0, by omega, rfl, fun j hj => by omega⟩
  case round =>
    obtain ⟨k, hk, rfl, hn⟩ := hrel
    have HN := Lib.hid hn
    clear hn
    by_cases hlt : k < 11
    · have hks : k < fs.size := by omega
      have hkI : (k : Int) < 11 := by omega
      have hcell := HCELL.out k hlt
      have hbk := HBE.out k hks
      cases hq : ((fs[k].toNat : Int) == z)
      · have hz : (byteAt fs k : Int) ≠ z := fun e => by rw [hbk, e] at hq; simp at hq
        clear hbk
        go_wp2
        go_round
        case rel => exact ⟨k + 1, by omega, by go_num, fun j hj => by
          rcases Nat.lt_or_ge j k with h | h
          · exact HN.out j h
          · obtain rfl : j = k := by omega
            exact hz⟩
        case measure => simp [intOf]; omega
      · have hv := HAT.out k hks hq
        generalize toL.getD k 0 = t at hcell hv
        subst hv
        clear hbk
        go_wp2
        go_ret
        exact ⟨rfl, hB⟩
    · obtain rfl : k = 11 := by omega
      have HV := Lib.hid (HNO.out HN.out)
      go_wp2
      go_ret
      rw [HV.out]
      exact ⟨rfl, hB⟩
end Go.Proofs.YtjpnkffdpcfnjaaDoor
