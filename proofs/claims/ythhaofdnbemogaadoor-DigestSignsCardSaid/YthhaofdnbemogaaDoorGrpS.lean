/-
  What a signature is good for: plain numbers.
-/
import Derived.Test.YthhaofdnbemogaaDoorGrpM
set_option linter.unusedVariables false
namespace Go.Proofs.YthhaofdnbemogaaDoor
open Go.RowKit

theorem four_mod (x : Nat) : powP 4 (x % qD) = powP 4 x := by
  have h := Nat.div_add_mod x qD
  have e : powP 4 (qD * (x / qD) + x % qD) = powP 4 (x % qD) := by
    rw [← pow_add', four_mul, Nat.one_mul]
    exact Nat.mod_eq_of_lt (powP_lt _ _)
  rw [h] at e
  exact e.symm
theorem sign_ok (n s e : Nat) : powP 4 ((n + s * e % qD) % qD) * powP (powP (powP 4 s) e) 2305843009213691577 % pD = powP 4 n := by
  obtain ⟨k, hk⟩ := pD_two
  have hk' : k = 2305843009213691577 := by have : (2305843009213691579 : Nat) = k + 2 := hk; omega
  have h1 : powP 4 ((n + s * e % qD) % qD) = powP 4 (n + s * e) := by
    rw [Nat.add_mod_mod, four_mod]
  have u := unit_pow 4 (s * e) (by omega) four_small
  have hi := inv_pow (powP 4 (s * e)) u (powP_lt _ _) k hk
  rw [hk'] at hi
  rw [h1, pow_pow' 4 s e, ← pow_add', mul_assoc', hi, Nat.mul_one]
  exact Nat.mod_eq_of_lt (powP_lt _ _)
end Go.Proofs.YthhaofdnbemogaaDoor
