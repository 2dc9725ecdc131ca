/-
  Plain facts of reals of 64 bits: a number that the format has is written and read back as it is.
-/
import Derived.Test.YtpgfogfejemojaaGreatDoorOps4
import Derived.Laws.FloatArith
set_option linter.unusedVariables false
namespace Go.Proofs.YtpgfogfejemojaaGreatDoor
open Go.RowKit

/-- What a word stands for, by its place and its last digits. -/
theorem read_word (neg : Bool) (q K : Nat) (hK : K < 9007199254740992) (hq : q = 0 ∨ 4503599627370496 ≤ K) (h : q * 4503599627370496 + K < 9218868437227405312) :
    FloatKind.f64.format.read (FloatKind.f64.format.word neg (q * 4503599627370496 + K)) = .number neg K ((q : Int) - 1074) := by
  have hb : FloatKind.f64.format.binade = 4503599627370496 := by decide
  have hi : FloatKind.f64.format.infRung = 9218868437227405312 := by decide
  have hs : FloatKind.f64.format.signWeight = 9223372036854775808 := by decide
  have hl : FloatKind.f64.format.leastPlace = -1074 := by decide
  have hn : (FloatKind.f64.format.word neg (q * 4503599627370496 + K) / 9223372036854775808 % 2 == 1) = neg := by
    unfold Ieee.Format.word
    rw [hs]
    cases neg
    · simp; omega
    · simp; omega
  have hr : FloatKind.f64.format.word neg (q * 4503599627370496 + K) % 9223372036854775808 = q * 4503599627370496 + K := by
    unfold Ieee.Format.word
    rw [hs]
    cases neg
    · simp; omega
    · simp; omega
  unfold Ieee.Format.read
  simp only [hb, hi, hs, hl, hn, hr]
  by_cases c : q * 4503599627370496 + K < 4503599627370496
  · rw [if_pos c]
    obtain rfl : q = 0 := by omega
    simp
  · rw [if_neg c, if_pos h]
    have e1 : 4503599627370496 + (q * 4503599627370496 + K) % 4503599627370496 = K := by omega
    have e2 : (-1074 : Int) + (((q * 4503599627370496 + K) / 4503599627370496 - 1 : Nat) : Int) = (q : Int) - 1074 := by omega
    rw [e1, e2]
theorem cut_none (neg : Bool) (n : Nat) : Ieee.Toward.even.cut neg n 0 = n := by
  unfold Ieee.Toward.cut
  simp
  omega
/-- A number of at most 53 digits, within the format's places, is written as it is. -/
theorem read_exact (neg : Bool) (M : Nat) (p : Int) (hM : M < 9007199254740992) (h0 : -1074 ≤ p) (h1 : p ≤ 900) :
    ∃ s : Nat, FloatKind.f64.format.read (FloatKind.f64.format.write (.number neg M p)) = .number neg (M * 2 ^ s) (p - s) := by
  have hb : FloatKind.f64.format.binade = 4503599627370496 := by decide
  have hi : FloatKind.f64.format.infRung = 9218868437227405312 := by decide
  have hl : FloatKind.f64.format.leastPlace = -1074 := by decide
  have hf : FloatKind.f64.format.fractionBits = 52 := by decide
  show ∃ s : Nat, FloatKind.f64.format.read (FloatKind.f64.format.nearest neg M p) = _
  unfold Ieee.Format.nearest
  by_cases hz : M = 0
  · rw [if_pos hz]
    refine ⟨(p + 1074).toNat, ?_⟩
    have := read_word neg 0 0 (by decide) (.inl rfl) (by decide)
    rw [Nat.zero_mul, Nat.zero_add] at this
    rw [this, hz, Nat.zero_mul]
    congr 1
    omega
  · rw [if_neg hz]
    have l1 := Nat.log2_self_le hz
    have l2 : M < 2 ^ (M.log2 + 1) := Nat.lt_log2_self
    have l3 : M.log2 < 53 := by
      apply (Nat.pow_lt_pow_iff_right (a := 2) (by decide)).1
      exact Nat.lt_of_le_of_lt l1 hM
    simp only [hb, hi, hl, hf]
    generalize M.log2 = L at *
    obtain ⟨last, hlast⟩ : ∃ last, max (p + (L : Int) - (52 : Nat)) (-1074) = last := ⟨_, rfl⟩
    rw [hlast]
    obtain ⟨s, hs⟩ : ∃ s, (p - last).toNat = s := ⟨_, rfl⟩
    obtain ⟨q, hq⟩ : ∃ q, (last - -1074).toNat = q := ⟨_, rfl⟩
    have hlp : (last - p).toNat = 0 := by omega
    rw [hlp, cut_none, hs, hq, Nat.shiftLeft_eq]
    have hK : M * 2 ^ s < 9007199254740992 := by
      have a : M * 2 ^ s < 2 ^ (L + 1) * 2 ^ s := Nat.mul_lt_mul_of_pos_right l2 (Nat.pow_pos (by decide))
      rw [← Nat.pow_add] at a
      have b : 2 ^ (L + 1 + s) ≤ 2 ^ 53 := Nat.pow_le_pow_right (by decide) (by omega)
      omega
    have hQ : q = 0 ∨ 4503599627370496 ≤ M * 2 ^ s := by
      by_cases c : q = 0
      · exact .inl c
      · right
        have a : 2 ^ L * 2 ^ s ≤ M * 2 ^ s := Nat.mul_le_mul_right _ l1
        rw [← Nat.pow_add] at a
        have : L + s = 52 := by omega
        rw [this] at a
        omega
    have hR : q * 4503599627370496 + M * 2 ^ s < 9218868437227405312 := by
      have : q ≤ 1975 := by omega
      omega
    rw [Nat.min_eq_left (Nat.le_of_lt hR)]
    refine ⟨s, ?_⟩
    rw [read_word neg q (M * 2 ^ s) hK hQ hR]
    congr 1
    omega
end Go.Proofs.YtpgfogfejemojaaGreatDoor
