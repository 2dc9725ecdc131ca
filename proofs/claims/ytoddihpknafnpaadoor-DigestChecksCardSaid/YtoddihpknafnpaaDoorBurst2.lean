/-
  One bit more of a change, as the walk stores it.
-/
import Derived.Test.YtoddihpknafnpaaDoorBurst
set_option linter.unusedVariables false
namespace Go.Proofs.YtoddihpknafnpaaDoor
open Go.RowKit

theorem xorN8 (a b : Nat) (ha : a < 256) (hb : b < 256) : bits .xor .u8 (a : Int) (b : Int) = ((a ^^^ b : Nat) : Int) := by
  have e : ∀ x : Nat, x < 256 → (BitVec.ofInt 8 (x : Int)).toNat = x := by
    intro x hx
    rw [BitVec.ofInt_natCast, BitVec.toNat_ofNat]
    omega
  have hz : a ^^^ b < 256 := Nat.xor_lt_two_pow (n := 8) ha hb
  show IntKind.u8.wrap ((BitVec.ofInt 8 (a : Int) ^^^ BitVec.ofInt 8 (b : Int)).toNat : Int) = _
  rw [BitVec.toNat_xor, e a ha, e b hb, IntKind.wrap_u8]
  omega
theorem pow_mod8 (r : Nat) (h : r < 8) : ((2 : Int) ^ r % 256) = ((2 ^ r : Nat) : Int) ∧ 2 ^ r < 256 := by
  rcases (by omega : r = 0 ∨ r = 1 ∨ r = 2 ∨ r = 3 ∨ r = 4 ∨ r = 5 ∨ r = 6 ∨ r = 7) with rfl | rfl | rfl | rfl | rfl | rfl | rfl | rfl <;> decide
theorem bur_cell (l : List UInt8) (bs m k j p r : Nat) (hb : bs / 2 ^ k % 2 = 1) (hp : p = (m + k) / 8) (hr : r = (m + k) % 8) :
    (if j = p then Value.int .u8 (bits .xor .u8 (burF l bs m k p : Int) ((2 : Int) ^ r % 256)) else Value.int .u8 (burF l bs m k j : Int)) = Value.int .u8 (burF l bs m (k + 1) j : Int) := by
  have hs := bur_step1 bs m k j hb
  have h2 := pow_mod8 r (by omega)
  by_cases h : j = p
  · rw [if_pos h, h2.1, xorN8 _ _ (burF_lt l bs m k p) h2.2]
    subst h
    rw [← hp, if_pos rfl, ← hr] at hs
    rw [burF, burF, hs, Nat.xor_assoc]
  · rw [if_neg h]
    rw [← hp, if_neg h, Nat.xor_zero] at hs
    rw [burF, burF, hs]
end Go.Proofs.YtoddihpknafnpaaDoor
