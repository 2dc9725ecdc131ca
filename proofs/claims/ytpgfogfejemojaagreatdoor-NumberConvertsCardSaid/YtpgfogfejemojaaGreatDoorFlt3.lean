/-
  Plain facts of reals: a number with zeros behind its digits is written as the number without them.
-/
import Derived.Test.YtpgfogfejemojaaGreatDoorFlt2
set_option linter.unusedVariables false
namespace Go.Proofs.YtpgfogfejemojaaGreatDoor
open Go.RowKit

theorem log2_shift (M t : Nat) (h : M ≠ 0) : (M * 2 ^ t).log2 = M.log2 + t := by
  have h2 : M * 2 ^ t ≠ 0 := Nat.mul_ne_zero h (Nat.ne_of_gt (Nat.pow_pos (by decide)))
  rw [Nat.log2_eq_iff h2]
  have l1 := Nat.log2_self_le h
  have l2 : M < 2 ^ (M.log2 + 1) := Nat.lt_log2_self
  constructor
  · rw [Nat.pow_add]; exact Nat.mul_le_mul_right _ l1
  · rw [show M.log2 + t + 1 = (M.log2 + 1) + t from by omega, Nat.pow_add]
    exact Nat.mul_lt_mul_of_pos_right l2 (Nat.pow_pos (by decide))
theorem cut_zeros (neg : Bool) (X d : Nat) (h : X ≠ 0) : Ieee.Toward.even.cut neg (X * 2 ^ d) d = X := by
  unfold Ieee.Toward.cut
  simp only []
  rw [log2_shift X d h, Nat.min_eq_left (by omega), Nat.shiftLeft_eq, Nat.one_mul, Nat.mul_mod_left, Nat.mul_div_cancel _ (Nat.pow_pos (by decide))]
  have hp : 0 < 2 ^ d := Nat.pow_pos (by decide)
  have : (2 ^ d == 2 * 0) = false := by rw [beq_eq_false_iff_ne]; omega
  rw [this, decide_eq_false (by omega)]
  rfl
theorem write_zeros (neg : Bool) (M t : Nat) (p : Int) (hM0 : M ≠ 0) (hM : M < 9007199254740992) (h0 : -1074 ≤ p) :
    FloatKind.f64.format.nearest neg (M * 2 ^ t) p = FloatKind.f64.format.nearest neg M (p + t) := by
  have hl : FloatKind.f64.format.leastPlace = -1074 := by decide
  have hf : FloatKind.f64.format.fractionBits = 52 := by decide
  have h2 : M * 2 ^ t ≠ 0 := Nat.mul_ne_zero hM0 (Nat.ne_of_gt (Nat.pow_pos (by decide)))
  unfold Ieee.Format.nearest
  rw [if_neg h2, if_neg hM0]
  have l1 := Nat.log2_self_le hM0
  have l3 : M.log2 < 53 := by
    apply (Nat.pow_lt_pow_iff_right (a := 2) (by decide)).1
    exact Nat.lt_of_le_of_lt l1 hM
  simp only [hl, hf, log2_shift M t hM0]
  obtain ⟨last, hlast⟩ : ∃ last, max (p + (t : Int) + (M.log2 : Int) - (52 : Nat)) (-1074) = last := ⟨_, rfl⟩
  have hlast2 : max (p + ((M.log2 + t : Nat) : Int) - (52 : Nat)) (-1074) = last := by omega
  rw [hlast, hlast2]
  have hr : (last - (p + t)).toNat = 0 := by omega
  rw [hr, cut_none]
  by_cases c : last ≤ p
  · have hz : (last - p).toNat = 0 := by omega
    rw [hz, cut_none, Nat.shiftLeft_eq, Nat.shiftLeft_eq, Nat.mul_assoc, ← Nat.pow_add, show t + (p - last).toNat = (p + t - last).toNat from by omega]
  · obtain ⟨d, hd⟩ : ∃ d, (last - p).toNat = d := ⟨_, rfl⟩
    have hz : (p - last).toNat = 0 := by omega
    rw [hz, hd, Nat.shiftLeft_eq, Nat.shiftLeft_eq, Nat.pow_zero, Nat.mul_one]
    have hX : M * 2 ^ t = M * 2 ^ (t - d) * 2 ^ d := by rw [Nat.mul_assoc, ← Nat.pow_add, show t - d + d = t from by omega]
    rw [hX, cut_zeros neg _ d (Nat.mul_ne_zero hM0 (Nat.ne_of_gt (Nat.pow_pos (by decide)))), show t - d = (p + t - last).toNat from by omega]
end Go.Proofs.YtpgfogfejemojaaGreatDoor
