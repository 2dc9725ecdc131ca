/-
  The field: products and powers of units are units; inverses; the powers of 4 are valid keys; what a signature is.
-/
import Derived.Test.YthhaofdnbemogaaDoorValid
import Derived.Test.YthhaofdnbemogaaDoorFermat
set_option linter.unusedVariables false
namespace Go.Proofs.YthhaofdnbemogaaDoor
open Go.RowKit

theorem powP_pD (a n : Nat) : powP a n = a ^ n % pD := powP_def a n
theorem pD_two : ∃ k, pD = k + 2 := ⟨pD - 2, by have := pD_q; have := qD_pos; omega⟩
theorem inv_pow (a : Nat) (h0 : 0 < a) (h : a < pD) (k : Nat) (hk : pD = k + 2) : a * powP a k % pD = 1 := by
  rw [powP_pD, Nat.mul_mod, Nat.mod_mod, ← Nat.mul_mod, ← Nat.pow_succ']
  have := fermat a h0 h
  rw [show pD - 1 = k + 1 by omega] at this
  exact this
theorem unit_of (x y : Nat) (h : x * y % pD = 1) : 0 < x % pD := by
  apply Nat.pos_of_ne_zero
  intro hz
  rw [Nat.mul_mod, hz, Nat.zero_mul, Nat.zero_mod] at h
  omega
theorem unit_pow (a n : Nat) (h0 : 0 < a) (h : a < pD) : 0 < powP a n := by
  rw [powP_pD]
  obtain ⟨k, hk⟩ := pD_two
  have hi := inv_pow a h0 h k hk
  refine unit_of _ ((powP a k) ^ n) ?_
  rw [← Nat.mul_pow, Nat.pow_mod, hi, Nat.one_pow]
  exact one_mod
theorem unit_mul (a b : Nat) (ha : 0 < a) (ha' : a < pD) (hb : 0 < b) (hb' : b < pD) : 0 < a * b % pD := by
  obtain ⟨k, hk⟩ := pD_two
  have hi := inv_pow a ha ha' k hk
  have hj := inv_pow b hb hb' k hk
  refine unit_of (a * b) (powP a k * powP b k) ?_
  rw [Nat.mul_mul_mul_comm, Nat.mul_mod, hi, hj]
  exact one_mod
theorem pow_add' (a n m : Nat) : powP a n * powP a m % pD = powP a (n + m) := by
  rw [powP_pD, powP_pD, powP_pD, ← Nat.mul_mod, Nat.pow_add]
theorem pow_pow' (a n m : Nat) : powP (powP a n) m = powP a (n * m) := by
  rw [powP_pD, powP_pD, powP_pD, ← Nat.pow_mod, Nat.pow_mul]
theorem pow_swap (a n m : Nat) : powP (powP a n) m = powP (powP a m) n := by
  rw [pow_pow', pow_pow', Nat.mul_comm]
theorem mul_assoc' (a b c : Nat) : a * b % pD * c % pD = a * (b * c % pD) % pD := by
  rw [Nat.mod_mul_mod, Nat.mul_mod_mod, Nat.mul_assoc]
theorem four_mul (x : Nat) : powP 4 (qD * x) = 1 := by
  rw [powP_pD]
  have := pow_mod_one (b := 4) (n := pD) (k := qD) (by rw [four_q, one_mod]) x
  rw [one_mod] at this
  exact this
theorem four_small : (4 : Nat) < pD := by have := pD_q; have := qD_pos; omega
theorem key_valid (x : Nat) (h0 : 1 ≤ x) (h1 : x < qD) : validB ((powP 4 x : Nat) : Int) = true := by
  have u := unit_pow 4 x (by omega) four_small
  have l := powP_lt 4 x
  have n1 : powP 4 x ≠ 1 := by rw [powP_pD]; exact four_order x h0 h1
  have e : powP (powP 4 x) 1152921504606845789 = 1 := by
    have := four_mul x
    rw [Nat.mul_comm, ← pow_pow'] at this
    exact this
  unfold validB
  rw [Int.toNat_natCast, e, unitB_yes (by omega) (by omega)]
  have : (((powP 4 x : Nat) : Int) == 1) = false := by rw [beq_eq_false_iff_ne]; omega
  rw [this]
  rfl

theorem wrapP_lit : ((2305843009213691579 : Nat)) = pD := rfl
theorem mul_round (o a b m : Nat) : (o + a * b) % m = ((if b % 2 = 1 then (o + a) % m else o) + (a + a) % m * (b / 2)) % m := by
  obtain ⟨h, hh⟩ : ∃ k, k = b / 2 := ⟨_, rfl⟩
  have e2 : ∀ p q : Nat, (p + q % m * h) % m = (p + q * h) % m := by
    intro p q
    rw [Nat.add_mod, Nat.mul_mod, Nat.mod_mod, ← Nat.mul_mod, ← Nat.add_mod]
  rw [← hh, e2]
  by_cases ho : b % 2 = 1
  · rw [if_pos ho, Nat.add_mod ((o + a) % m), Nat.mod_mod, ← Nat.add_mod]
    have e : b = 2 * h + 1 := by omega
    congr 1
    rw [e, Nat.mul_add, Nat.mul_one, Nat.add_mul, Nat.mul_left_comm, Nat.two_mul]
    omega
  · rw [if_neg ho]
    have e : b = 2 * h := by omega
    congr 1
    rw [e, Nat.add_mul, Nat.mul_left_comm, Nat.two_mul]
end Go.Proofs.YthhaofdnbemogaaDoor
