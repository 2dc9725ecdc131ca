/-
  number.nearestInteger: what it returns of any real that is a number.
-/
import Derived.Test.YtpgfogfejemojaaGreatDoorNear
set_option linter.unusedVariables false
namespace Go.Proofs.YtpgfogfejemojaaGreatDoor
open Go.RowKit

def sB (b : Nat) : Bool := b / 9223372036854775808 % 2 == 1
def mB (b : Nat) : Nat := 4503599627370496 + b % 4503599627370496
theorem word_sB (b x : Nat) (h : x < 9223372036854775808) : FloatKind.f64.format.word (sB b) x = b / 9223372036854775808 % 2 * 9223372036854775808 + x := by
  have hs : FloatKind.f64.format.signWeight = 9223372036854775808 := by decide
  unfold Ieee.Format.word sB
  rw [hs]
  rcases Nat.mod_two_eq_zero_or_one (b / 9223372036854775808) with h | h
  · rw [h]; simp
  · rw [h]; simp
/-- A real that is no subnormal one. -/
theorem read_fin (b : Nat) (h : b < 18446744073709551616) (e0 : 1 ≤ expB b) (e1 : expB b < 2047) : FloatKind.f64.format.read b = .number (sB b) (mB b) ((expB b : Int) - 1075) := by
  have hw : b = FloatKind.f64.format.word (sB b) ((expB b - 1) * 4503599627370496 + mB b) := by
    rw [word_sB _ _ (by unfold mB; omega)]
    unfold mB
    unfold expB at *
    omega
  have := read_word (sB b) (expB b - 1) (mB b) (by unfold mB; omega) (.inr (by unfold mB; omega)) (by unfold mB; omega)
  rw [← hw] at this
  rw [this]
  congr 1
  omega
theorem read_sub (b : Nat) (h : b < 18446744073709551616) (e0 : expB b = 0) : FloatKind.f64.format.read b = .number (sB b) (b % 4503599627370496) (-1074) := by
  have hw : b = FloatKind.f64.format.word (sB b) (0 * 4503599627370496 + b % 4503599627370496) := by
    rw [word_sB _ _ (by omega)]
    unfold expB at *
    omega
  have := read_word (sB b) 0 (b % 4503599627370496) (by omega) (.inl rfl) (by omega)
  rw [← hw] at this
  rw [this]
  congr 1
theorem and_sign (b : Nat) (h : b < 18446744073709551616) : bits .and .u64 (b : Int) 9223372036854775808 = ((b / 9223372036854775808 % 2 * 9223372036854775808 : Nat) : Int) := by
  show IntKind.u64.wrap ((BitVec.ofInt 64 (b : Int) &&& BitVec.ofInt 64 9223372036854775808).toNat : Int) = _
  have e1 : (BitVec.ofInt 64 (b : Int)).toNat = b := by rw [BitVec.toNat_ofInt]; omega
  have ht : b.testBit 63 = decide (b / 9223372036854775808 % 2 = 1) := by rw [Nat.testBit_eq_decide_div_mod_eq]
  have ha : b &&& 2 ^ 63 = b / 9223372036854775808 % 2 * 9223372036854775808 := by
    apply Nat.eq_of_testBit_eq
    intro i
    rw [Nat.testBit_and, Nat.testBit_two_pow]
    rcases Nat.mod_two_eq_zero_or_one (b / 9223372036854775808) with h | h
    · rw [h, Nat.zero_mul, Nat.zero_testBit]
      by_cases c : 63 = i
      · subst c; rw [ht, h]; rfl
      · rw [decide_eq_false c, Bool.and_false]
    · rw [h, Nat.one_mul, show (9223372036854775808 : Nat) = 2 ^ 63 from by decide, Nat.testBit_two_pow]
      by_cases c : 63 = i
      · subst c; rw [ht, h]; rfl
      · rw [decide_eq_false c, Bool.and_false]
  rw [BitVec.toNat_and, e1, show (BitVec.ofInt 64 9223372036854775808).toNat = 2 ^ 63 from by decide, ha, IntKind.wrap_u64]
  omega
theorem whole_low (b : Nat) (h : b < 18446744073709551616) : WholeD (FloatKind.f64.format.read (bits .and .u64 b 9223372036854775808).toNat) (sB b) 0 := by
  rw [and_sign b h]
  have := read_word (sB b) 0 0 (by decide) (.inl rfl) (by decide)
  rw [word_sB b _ (by decide)] at this
  simp only [Nat.zero_mul, Nat.add_zero] at this
  rw [show ((b / 9223372036854775808 % 2 * 9223372036854775808 : Nat) : Int).toNat = b / 9223372036854775808 % 2 * 9223372036854775808 from by omega, this]
  exact ⟨0, _, rfl, .inl ⟨by omega, (Nat.zero_mul _).symm⟩⟩
theorem whole_half (b : Nat) (h : b < 18446744073709551616) : WholeD (FloatKind.f64.format.read (bits .or .u64 (bits .and .u64 b 9223372036854775808) 4607182418800017408).toNat) (sB b) 1 := by
  rw [and_sign b h]
  have := read_word (sB b) 1022 4503599627370496 (by decide) (.inr (by decide)) (by decide)
  rw [word_sB b _ (by decide)] at this
  have hv : (bits .or .u64 ((b / 9223372036854775808 % 2 * 9223372036854775808 : Nat) : Int) 4607182418800017408).toNat = b / 9223372036854775808 % 2 * 9223372036854775808 + (1022 * 4503599627370496 + 4503599627370496) := by
    rcases Nat.mod_two_eq_zero_or_one (b / 9223372036854775808) with h | h
    · rw [h]; decide +kernel
    · rw [h]; decide +kernel
  rw [hv, this]
  refine ⟨4503599627370496, _, rfl, .inl ⟨by omega, ?_⟩⟩
  rw [show (-(((1022 : Nat) : Int) - 1074)).toNat = 52 from by omega]
theorem whole_high (b : Nat) (h : b < 18446744073709551616) (e0 : 1075 ≤ expB b) (e1 : expB b < 2047) : WholeD (FloatKind.f64.format.read b) (sB b) (mB b * 2 ^ (expB b - 1075)) := by
  rw [read_fin b h (by omega) e1]
  refine ⟨mB b, _, rfl, .inr ⟨by omega, ?_⟩⟩
  rw [show ((expB b : Int) - 1075).toNat = expB b - 1075 from by omega]
theorem div_two_pow (x k m : Nat) (h : k + m = 52) (hx : x = 4503599627370496) : x / 2 ^ k = 2 ^ m := by
  subst hx
  rw [show (4503599627370496 : Nat) = 2 ^ m * 2 ^ k from by rw [← Nat.pow_add, Nat.add_comm, h]]
  exact Nat.mul_div_cancel _ (Nat.pow_pos (by decide))
theorem add_carry (Y : Nat) : Y * 4503599627370496 + 9007199254740992 = (Y + 1) * 4503599627370496 + 4503599627370496 := by omega
theorem whole_mid (b k : Nat) (h : b < 18446744073709551616) (he : expB b = 1023 + k) (hk : k < 52) :
    WholeD (FloatKind.f64.format.read (bits .andNot .u64 (IntKind.u64.wrap ((b : Int) + 2251799813685248 / 2 ^ k)) (4503599627370495 / 2 ^ k)).toNat) (sB b) ((mB b + 2 ^ (51 - k)) / 2 ^ (52 - k)) := by
  obtain ⟨m, hm⟩ : ∃ m, k + m = 51 := ⟨51 - k, by omega⟩
  have hP : (2 : Nat) ^ (m + 1) = 2 ^ m * 2 := Nat.pow_succ 2 m
  have hQ : (2 : Nat) ^ k * 2 ^ (m + 1) = 4503599627370496 := by rw [← Nat.pow_add, show k + (m + 1) = 52 from by omega]
  have hPp : 0 < (2 : Nat) ^ m := Nat.pow_pos (by decide)
  have hkp : 0 < (2 : Nat) ^ k := Nat.pow_pos (by decide)
  have d1 : (2251799813685248 : Int) / 2 ^ k = ((2 ^ m : Nat) : Int) := by
    have : (2251799813685248 : Nat) / 2 ^ k = 2 ^ m := by
      rw [show (2251799813685248 : Nat) = 2 ^ m * 2 ^ k from by rw [← Nat.pow_add, show m + k = 51 from by omega]]
      exact Nat.mul_div_cancel _ hkp
    have := congrArg (Nat.cast : Nat → Int) this
    simpa using this
  have d2 : (4503599627370495 : Int) / 2 ^ k = ((2 ^ (m + 1) - 1 : Nat) : Int) := by
    have : (4503599627370495 : Nat) / 2 ^ k = 2 ^ (m + 1) - 1 := by
      apply Nat.div_eq_of_lt_le
      · rw [Nat.sub_mul, Nat.mul_comm, hQ]; omega
      · rw [Nat.sub_add_cancel (Nat.pow_pos (by decide)), Nat.mul_comm, hQ]; omega
    have := congrArg (Nat.cast : Nat → Int) this
    rw [← this]; simp
  have hmle : (2 : Nat) ^ m ≤ 2251799813685248 := by
    have : (2 : Nat) ^ m ≤ 2 ^ 51 := Nat.pow_le_pow_right (by decide) (by omega)
    omega
  have hw : IntKind.u64.wrap ((b : Int) + ((2 ^ m : Nat) : Int)) = ((b + 2 ^ m : Nat) : Int) := by
    rw [IntKind.wrap_u64]
    unfold expB at he
    omega
  rw [d1, d2, hw, andNot_mask _ (m + 1) (by unfold expB at he; omega) (by omega)]
  rw [show (51 - k) = m from by omega, show 52 - k = m + 1 from by omega]
  obtain ⟨P, hPd⟩ : ∃ P, (2 : Nat) ^ (m + 1) = P := ⟨_, rfl⟩
  obtain ⟨U, hU⟩ : ∃ U, (mB b + 2 ^ m) / P = U := ⟨_, rfl⟩
  rw [hPd, hU]
  have hPpos : 0 < P := by rw [← hPd]; exact Nat.pow_pos (by decide)
  -- the word is a multiple of P above mB
  have hbm : b + 2 ^ m = (b / 9223372036854775808 % 2 * 9223372036854775808 + (1022 + k) * 4503599627370496) + (mB b + 2 ^ m) := by
    unfold mB; unfold expB at he; omega
  obtain ⟨c, hc⟩ : ∃ c, b / 9223372036854775808 % 2 * 9223372036854775808 + (1022 + k) * 4503599627370496 = P * c := by
    refine ⟨(b / 9223372036854775808 % 2 * 2048 + (1022 + k)) * 2 ^ k, ?_⟩
    rw [← hPd, Nat.mul_left_comm, Nat.mul_comm (2 ^ (m + 1)), hQ]; omega
  have hdiv : (b + 2 ^ m) / P * P = P * c + U * P := by
    rw [hbm, hc, Nat.mul_add_div hPpos, hU, Nat.add_mul, Nat.mul_comm c P]
  rw [hdiv, ← hc]
  have hUP : U * P ≤ mB b + 2 ^ m := by rw [← hU]; exact Nat.div_mul_le_self _ _
  have hUP2 : mB b + 2 ^ m < U * P + P := by
    have := Nat.lt_div_mul_add hPpos (a := mB b + 2 ^ m)
    rw [hU] at this; exact this
  have hUlo : 4503599627370496 ≤ U * P := by
    have : 2 ^ k ≤ U := by
      rw [← hU]
      apply (Nat.le_div_iff_mul_le hPpos).2
      rw [← hPd, hQ]; unfold mB; omega
    have := Nat.mul_le_mul_right P this
    rw [← hPd, hQ] at this; rw [← hPd]; exact this
  have hUhi : U * P ≤ 9007199254740992 := by
    -- U * P is a multiple of P below 2^53 + P
    have h3 : U ≤ 2 * 2 ^ k := by
      apply Nat.le_of_lt_succ
      apply Nat.lt_of_mul_lt_mul_right (a := P)
      have : (2 * 2 ^ k).succ * P = 9007199254740992 + P := by
        rw [Nat.succ_mul, Nat.mul_assoc, ← hPd, hQ]
      rw [this]
      have : mB b < 9007199254740992 := by unfold mB; omega
      omega
    have := Nat.mul_le_mul_right P h3
    rw [Nat.mul_assoc, ← hPd, hQ] at this; rw [← hPd]; omega
  by_cases hcase : U * P < 9007199254740992
  · have := read_word (sB b) (1022 + k) (U * P) hcase (.inr hUlo) (by omega)
    rw [word_sB b _ (by omega)] at this
    rw [Int.toNat_natCast, Nat.add_assoc, this]
    refine ⟨U * P, _, rfl, .inl ⟨by omega, ?_⟩⟩
    rw [← hPd]
    congr 2
    omega
  · have hUe : U * P = 9007199254740992 := by omega
    have := read_word (sB b) (1023 + k) 4503599627370496 (by decide) (.inr (by decide)) (by omega)
    rw [word_sB b _ (by omega)] at this
    have hsum : b / 9223372036854775808 % 2 * 9223372036854775808 + (1022 + k) * 4503599627370496 + U * P = b / 9223372036854775808 % 2 * 9223372036854775808 + ((1023 + k) * 4503599627370496 + 4503599627370496) := by
      rw [hUe, Nat.add_assoc, add_carry (1022 + k), show 1023 + k = (1022 + k) + 1 from by omega]
    rw [Int.toNat_natCast, hsum, this]
    refine ⟨4503599627370496, _, rfl, .inl ⟨by omega, ?_⟩⟩
    rw [show (-(((1023 + k : Nat) : Int) - 1074)).toNat = m from by omega]
    rw [← hPd, hP, ← Nat.mul_assoc] at hUe
    omega
end Go.Proofs.YtpgfogfejemojaaGreatDoor
