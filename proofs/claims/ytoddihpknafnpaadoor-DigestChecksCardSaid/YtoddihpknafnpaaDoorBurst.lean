/-
  A change of consecutive bits, byte by byte.
-/
import Derived.Test.YtoddihpknafnpaaDoorCrcL
set_option linter.unusedVariables false
namespace Go.Proofs.YtoddihpknafnpaaDoor
open Go.RowKit

def byteOf (E j : Nat) : Nat := E / 2 ^ (8 * j) % 256
theorem byteOf_lt (E j : Nat) : byteOf E j < 256 := Nat.mod_lt _ (by omega)
theorem bytesN_get (n E j : Nat) (h : j < n) : (bytesN E n).getD j 0 = byteOf E j := by
  induction n generalizing E j with
  | zero => omega
  | succ n ih =>
    cases j with
    | zero => simp [bytesN, byteOf]
    | succ j =>
      have := ih (E / 256) j (by omega)
      rw [bytesN, List.getD_cons_succ, this, byteOf, byteOf, Nat.div_div_eq_div_mul, show (256 : Nat) * 2 ^ (8 * j) = 2 ^ (8 * (j + 1)) by rw [show (256 : Nat) = 2 ^ 8 from rfl, ← Nat.pow_add]; congr 1; omega]
def burE (bs m k : Nat) : Nat := (bs % 2 ^ k) * 2 ^ m
theorem bur_zero (bs m j : Nat) : byteOf (burE bs m 0) j = 0 := by simp [burE, byteOf, Nat.mod_one]
theorem bur_step0 (bs m k j : Nat) (h : bs / 2 ^ k % 2 = 0) : byteOf (burE bs m (k + 1)) j = byteOf (burE bs m k) j := by
  unfold burE
  rw [Nat.mod_pow_succ, h, Nat.mul_zero, Nat.add_zero]
theorem byteOf_bit (E j i : Nat) : (byteOf E j).testBit i = (decide (i < 8) && E.testBit (i + 8 * j)) := by
  rw [byteOf, show (256 : Nat) = 2 ^ 8 from rfl, Nat.testBit_mod_two_pow, Nat.testBit_div_two_pow]
theorem bur_step1 (bs m k j : Nat) (h : bs / 2 ^ k % 2 = 1) : byteOf (burE bs m (k + 1)) j = byteOf (burE bs m k) j ^^^ (if j = (m + k) / 8 then 2 ^ ((m + k) % 8) else 0) := by
  have e : burE bs m (k + 1) = 2 ^ (m + k) * 1 + burE bs m k := by
    unfold burE
    rw [Nat.mod_pow_succ, h, Nat.mul_one, Nat.mul_one, Nat.add_mul, Nat.pow_add, Nat.mul_comm (2 ^ k) (2 ^ m), Nat.add_comm]
  have hx : burE bs m k < 2 ^ (m + k) := by
    unfold burE
    rw [Nat.add_comm, Nat.pow_add]
    exact Nat.mul_lt_mul_of_pos_right (Nat.mod_lt _ (Nat.two_pow_pos k)) (Nat.two_pow_pos m)
  generalize burE bs m k = x at *
  generalize m + k = q at *
  refine Nat.eq_of_testBit_eq fun i => ?_
  rw [Nat.testBit_xor, byteOf_bit, byteOf_bit, e, Nat.testBit_two_pow_mul_add _ hx]
  by_cases hi : i < 8
  · by_cases hq : i + 8 * j < q
    · rw [if_pos hq]
      have hz : (if j = q / 8 then 2 ^ (q % 8) else 0).testBit i = false := by
        split
        · rw [Nat.testBit_two_pow]; simp; omega
        · simp
      rw [hz]
      simp
    · rw [if_neg hq]
      have hf : x.testBit (i + 8 * j) = false := Nat.testBit_lt_two_pow (Nat.lt_of_lt_of_le hx (Nat.pow_le_pow_right (by omega) (by omega)))
      rw [hf]
      by_cases hz : i + 8 * j = q
      · rw [if_pos (by omega), hz, Nat.sub_self, Nat.testBit_two_pow]
        have : q % 8 = i := by omega
        simp [hi, this]
      · have h1 : Nat.testBit 1 (i + 8 * j - q) = false := by
          rw [show (1 : Nat) = 2 ^ 0 from rfl, Nat.testBit_two_pow]; simp; omega
        rw [h1]
        split
        · rw [Nat.testBit_two_pow]; simp; omega
        · simp
  · have hz : (if j = q / 8 then 2 ^ (q % 8) else 0).testBit i = false := by
      split
      · rw [Nat.testBit_two_pow]; simp; omega
      · simp
    rw [hz]
    simp [hi]
/-- The bytes after k bits. -/
def burF (l : List UInt8) (bs m k j : Nat) : Nat := (l.getD j 0).toNat ^^^ byteOf (burE bs m k) j
theorem burF_lt (l : List UInt8) (bs m k j : Nat) : burF l bs m k j < 256 := Nat.xor_lt_two_pow (n := 8) (l.getD j 0).toNat_lt (byteOf_lt _ _)
def burL (l : List UInt8) (bs m : Nat) : List UInt8 := (List.range l.length).map fun j => UInt8.ofNat (burF l bs m 32 j)
theorem burL_nats (l : List UInt8) (bs m : Nat) (h : bs < 4294967296) : nats (burL l bs m) = List.zipWith (· ^^^ ·) (nats l) (bytesN (bs * 2 ^ m) l.length) := by
  refine List.ext_getElem (by simp [nats, burL, bytesN_len]) (fun j h1 h2 => ?_)
  have hj : j < l.length := by simpa [nats, burL] using h1
  have hb := burF_lt l bs m 32 j
  have e1 : (bytesN (bs * 2 ^ m) l.length)[j]'(by rw [bytesN_len]; exact hj) = byteOf (bs * 2 ^ m) j := by
    rw [← bytesN_get l.length _ j hj, List.getD_eq_getElem?_getD, List.getElem?_eq_getElem (by rw [bytesN_len]; exact hj), Option.getD_some]
  have e2 : burE bs m 32 = bs * 2 ^ m := by unfold burE; rw [Nat.mod_eq_of_lt (by omega)]
  rw [List.getElem_zipWith, e1]
  simp only [nats, burL, List.getElem_map, List.getElem_range]
  have h3 : (UInt8.ofNat (burF l bs m 32 j)).toNat = burF l bs m 32 j := by simp; omega
  have h4 : burF l bs m 32 j = l[j].toNat ^^^ byteOf (bs * 2 ^ m) j := by
    rw [burF, e2, List.getD_eq_getElem?_getD, List.getElem?_eq_getElem hj, Option.getD_some]
  exact h3.trans h4
/-- The check sees it. -/
theorem burL_ne (l : List UInt8) (bs m : Nat) (h0 : bs ≠ 0) (h1 : bs < 4294967296) (hm : m + 32 ≤ 8 * l.length) : crcX 0 (burL l bs m) ≠ crcX 0 l :=
  crcX_ne l (burL l bs m) (bytesN (bs * 2 ^ m) l.length) (bytesN_len _ _).symm (burL_nats l bs m h1) (burst l.length m bs hm h0 h1)
end Go.Proofs.YtoddihpknafnpaaDoor
