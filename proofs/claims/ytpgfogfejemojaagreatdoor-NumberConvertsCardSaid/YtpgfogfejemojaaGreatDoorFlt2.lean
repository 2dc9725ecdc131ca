/-
  Plain facts of reals: data that are whole numbers, their order and their integers.
-/
import Derived.Test.YtpgfogfejemojaaGreatDoorFlt
set_option linter.unusedVariables false
namespace Go.Proofs.YtpgfogfejemojaaGreatDoor
open Go.RowKit

/-- The datum is the whole number U with the sign s. -/
def WholeD (d : Ieee.Datum) (s : Bool) (U : Nat) : Prop :=
  ∃ (A : Nat) (j : Int), d = .number s A j ∧ ((j ≤ 0 ∧ A = U * 2 ^ (-j).toNat) ∨ (0 ≤ j ∧ U = A * 2 ^ j.toNat))
def sgn (s : Bool) (U : Nat) : Int := if s then -(U : Int) else U
theorem signed_eq (s : Bool) (A n : Nat) : Ieee.signed s A n = sgn s (A * 2 ^ n) := by
  unfold Ieee.signed sgn
  rw [Nat.shiftLeft_eq]
theorem sgn_mul (s : Bool) (U T : Nat) : sgn s (U * T) = sgn s U * T := by
  unfold sgn
  cases s <;> simp [Int.neg_mul]
theorem compare_mul (x y : Int) (T : Nat) (h : 0 < T) : compare (x * T) (y * T) = compare x y := by
  have hT : (0 : Int) < T := by omega
  rcases Int.lt_trichotomy x y with c | c | c
  · have h2 : x * T < y * T := Int.mul_lt_mul_of_pos_right c hT
    rw [Int.compare_eq_lt.2 c, Int.compare_eq_lt.2 h2]
  · subst c; simp
  · have h2 : y * T < x * T := Int.mul_lt_mul_of_pos_right c hT
    rw [Int.compare_eq_gt.2 c, Int.compare_eq_gt.2 h2]
theorem whole_scaled {A U : Nat} {j base : Int} (h : (j ≤ 0 ∧ A = U * 2 ^ (-j).toNat) ∨ (0 ≤ j ∧ U = A * 2 ^ j.toNat)) (hb : base ≤ j) :
    (base ≤ 0 → A * 2 ^ (j - base).toNat = U * 2 ^ (-base).toNat) ∧ (0 ≤ base → U = A * 2 ^ (j - base).toNat * 2 ^ base.toNat) := by
  constructor
  · intro h0
    rcases h with ⟨hj, rfl⟩ | ⟨hj, rfl⟩
    · rw [Nat.mul_assoc, ← Nat.pow_add]; congr 2; omega
    · rw [Nat.mul_assoc, ← Nat.pow_add]; congr 2; omega
  · intro h0
    rcases h with ⟨hj, rfl⟩ | ⟨hj, rfl⟩
    · have : j = 0 := by omega
      have hb0 : base = 0 := by omega
      subst this; subst hb0
      simp
    · rw [Nat.mul_assoc, ← Nat.pow_add]; congr 2; omega
theorem order_whole {d d' : Ieee.Datum} {s s' : Bool} {U U' : Nat} (h : WholeD d s U) (h' : WholeD d' s' U') : d.order d' = some (compare (sgn s U) (sgn s' U')) := by
  obtain ⟨A, j, rfl, h⟩ := h
  obtain ⟨A', j', rfl, h'⟩ := h'
  simp only [Ieee.Datum.order, Option.some.injEq]
  obtain ⟨base, hbase⟩ : ∃ base, min j j' = base := ⟨_, rfl⟩
  rw [hbase, signed_eq, signed_eq]
  have s1 := whole_scaled (base := base) h (by omega)
  have s2 := whole_scaled (base := base) h' (by omega)
  rcases Int.le_total base 0 with c | c
  · rw [s1.1 c, s2.1 c, sgn_mul, sgn_mul]
    exact compare_mul _ _ _ (Nat.pow_pos (by decide))
  · rw [s1.2 c, s2.2 c, sgn_mul _ (A * _), sgn_mul _ (A' * _)]
    exact (compare_mul _ _ _ (Nat.pow_pos (by decide))).symm
theorem toInt_whole {d : Ieee.Datum} {s : Bool} {U : Nat} (h : WholeD d s U) : d.toInt .zero = some (sgn s U) := by
  obtain ⟨A, j, rfl, h⟩ := h
  unfold Ieee.Datum.toInt Ieee.Datum.integral
  simp only [Option.some.injEq]
  rw [signed_eq, Nat.pow_zero, Nat.mul_one]
  congr 1
  unfold Ieee.Toward.cut
  simp only [Bool.toNat_false, Nat.add_zero]
  rw [Nat.shiftLeft_eq, Nat.shiftLeft_eq, Nat.one_mul]
  rcases h with ⟨hj, hA⟩ | ⟨hj, hU⟩
  · have hj0 : j.toNat = 0 := by omega
    rw [hj0, Nat.pow_zero, Nat.mul_one]
    by_cases c : (-j).toNat ≤ A.log2 + 2
    · rw [Nat.min_eq_left c, hA]
      exact Nat.mul_div_cancel _ (Nat.pow_pos (by decide))
    · have hlt : A < 2 ^ (A.log2 + 1) := Nat.lt_log2_self
      have hp : 2 ^ (A.log2 + 1) ≤ 2 ^ (-j).toNat := Nat.pow_le_pow_right (by decide) (by omega)
      have hp2 : 2 ^ (A.log2 + 1) ≤ 2 ^ (A.log2 + 2) := Nat.pow_le_pow_right (by decide) (by omega)
      have hU0 : U = 0 := by
        rcases Nat.eq_zero_or_pos U with h | h
        · exact h
        · exfalso
          have : 1 * 2 ^ (-j).toNat ≤ U * 2 ^ (-j).toNat := Nat.mul_le_mul_right _ h
          omega
      rw [hU0] at hA ⊢
      rw [Nat.zero_mul] at hA
      rw [hA]
      simp
  · have hj0 : (-j).toNat = 0 := by omega
    rw [hj0, Nat.zero_min, Nat.pow_zero, Nat.div_one, hU]
end Go.Proofs.YtpgfogfejemojaaGreatDoor
