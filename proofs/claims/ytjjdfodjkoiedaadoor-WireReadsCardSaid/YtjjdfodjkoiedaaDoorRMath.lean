/-
  What a reader reads: plain functions on the string that is left.
-/
import Derived.Test.YtjjdfodjkoiedaaDoorWMath2
import Derived.Lib.EndianBits
set_option linter.unusedVariables false
namespace Go.Proofs.YtjjdfodjkoiedaaDoor
open Go

/-- The number and the error. -/
def lowS (s : ByteArray) (size : Int) : Int × Int :=
  if isSz size then (if (s.size : Int) < size then (0, 16) else (leV s size.toNat, 0)) else (0, 1)
def litR (s : ByteArray) (size : Int) : Int × Int × Int :=
  if (lowS s size).2 = 0 then (if 9223372036854775807 < (lowS s size).1 then (0, 0, 11) else ((lowS s size).1, size, 0)) else (0, 0, (lowS s size).2)
def sigR (s : ByteArray) (size : Int) : Int × Int × Int :=
  if (lowS s size).2 = 0 then (sgn (lowS s size).1 (8 * size.toNat), size, 0) else (0, 0, (lowS s size).2)

def szC (c : Int) : Nat := if c < 128 then 1 else if c < 192 then 2 else if c < 224 then 4 else 9
def bitC (c : Int) : Nat := if c < 128 then 7 else if c < 192 then 14 else if c < 224 then 29 else 64
theorem szC_bd (c : Int) : 1 ≤ szC c ∧ szC c ≤ 9 := by unfold szC; repeat' split
                                                       all_goals omega
theorem bitC_bd (c : Int) : 1 ≤ bitC c ∧ bitC c ≤ 64 := by unfold bitC; repeat' split
                                                           all_goals omega
/-- An operand number: value, bytes, error. -/
def numR (s : ByteArray) : Int × Int × Int :=
  if s.size = 0 then (0, 0, 16)
  else if 224 < bt s 0 then (0, 0, 2)
  else if s.size < szC (bt s 0) then (0, 0, 16)
  else if szN (sgn (beV s (szC (bt s 0))) (bitC (bt s 0))) = szC (bt s 0) then (sgn (beV s (szC (bt s 0))) (bitC (bt s 0)), szC (bt s 0), 0)
  else (0, 0, 2)
def cntR (s : ByteArray) (most : Int) : Int × Int × Int :=
  if (numR s).2.2 = 0 then (if (numR s).1 < 0 then (0, 0, 11) else if most < (numR s).1 then (0, 0, 3) else numR s) else (0, 0, (numR s).2.2)

theorem numR_ok (s : ByteArray) : (numR s).2.2 = 0 ∨ ((numR s).1 = 0 ∧ (numR s).2.1 = 0) := by
  unfold numR
  repeat' split
  all_goals simp
theorem numR_bd (s : ByteArray) : 0 ≤ (numR s).2.1 ∧ (numR s).2.1 ≤ 9 ∧ (numR s).2.1 ≤ s.size := by
  have := szC_bd (bt s 0)
  unfold numR
  repeat' split
  all_goals simp
  all_goals omega

theorem lowS_bd (s : ByteArray) (size : Int) : 0 ≤ (lowS s size).1 ∧ (lowS s size).1 < 18446744073709551616 := by
  unfold lowS
  split
  · rename_i h
    split
    · simp
    · obtain ⟨k, rfl, hk⟩ := isSz_cases h
      have hb := leV_bd s k
      have : (256 : Int) ^ k ≤ 18446744073709551616 := by rcases hk with rfl | rfl | rfl | rfl <;> decide
      simp
      omega
  · simp

/-- One round of the loop of little numbers. -/
theorem le_round (s : ByteArray) (k : Nat) (hk : k < 8) : bits .or .u64 (leV s k) (IntKind.u64.wrap (bt s k * 2 ^ (8 * k))) = leV s (k + 1) := by
  have hb := bt_bd s k
  have hl := leV_bd s k
  have e : (2 : Int) ^ (8 * k) = 256 ^ k := by rw [Int.pow_mul]; rfl
  have hp := pow_pos' k
  have h1 : 0 ≤ bt s k * 256 ^ k := Int.mul_nonneg hb.1 (by omega)
  have h2 : bt s k * 256 ^ k ≤ 255 * 256 ^ k := Int.mul_le_mul_of_nonneg_right (by omega) (by omega)
  have h3 : (256 : Int) ^ k ≤ 72057594037927936 := by
    rcases (by omega : k = 0 ∨ k = 1 ∨ k = 2 ∨ k = 3 ∨ k = 4 ∨ k = 5 ∨ k = 6 ∨ k = 7) with rfl | rfl | rfl | rfl | rfl | rfl | rfl | rfl <;> decide
  rw [e]
  have hm : (bt s k * 256 ^ k) % 2 ^ (8 * k) = 0 := by rw [e]; exact Int.mul_emod_left _ _
  rw [← e] at hl
  simp only [leV]
  generalize bt s k * 256 ^ k = x at *
  generalize leV s k = y at *
  have hw : IntKind.u64.wrap x = x := by rw [IntKind.wrap_u64]; omega
  rw [hw]
  refine bits_join_low .u64 64 (by decide) wraps_u64 (8 * k) y x hl.1 hl.2 ?_ h1 hm ?_
  · have : (2 : Int) ^ 64 = 18446744073709551616 := by rfl
    omega
  · have : (2 : Int) ^ 64 = 18446744073709551616 := by rfl
    omega

/-- One round of the loop of operand numbers. -/
theorem be_round (s : ByteArray) (k : Nat) : bits .or .u64 (IntKind.u64.wrap (beV s k % 18446744073709551616 * 256)) (bt s k) = beV s (k + 1) % 18446744073709551616 := by
  have hb := bt_bd s k
  have hl := beV_bd s k
  simp only [beV]
  generalize bt s k = b at *
  generalize beV s k = x at *
  rw [IntKind.wrap_u64]
  have h64 : (2 : Int) ^ 64 = 18446744073709551616 := by rfl
  have h8 : (2 : Int) ^ 8 = 256 := by rfl
  rw [bits_join .u64 64 (by decide) wraps_u64 8 _ b (by omega) (by rw [h8]; omega) (by rw [h64]; omega) hb.1 (by rw [h8]; omega) (by rw [h64]; omega)]
  omega
end Go.Proofs.YtjjdfodjkoiedaaDoor
