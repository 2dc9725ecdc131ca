/-
  The reference's digest as the same plain function.
-/
import Derived.Test.YthhaofdnbemogaaDoorMac
set_option linter.unusedVariables false
namespace Go.Proofs.YthhaofdnbemogaaDoor
open Go.RowKit

/-- The padded message. -/
def msgL (l : List UInt8) : List UInt8 := l ++ padL l.length
theorem padL_len (n : Nat) : (padL n).length = 9 + zerosN n := by simp [padL, beL_len]; omega
theorem msg_len (l : List UInt8) : (msgL l).length = l.length + 9 + zerosN l.length := by rw [msgL, List.length_append, padL_len]; omega
theorem msg_mod (l : List UInt8) : (msgL l).length % 64 = 0 := by rw [msg_len]; unfold zerosN; omega
theorem sha_msg (l : List UInt8) : shaL l = outK (addL (absK zero8 (msgL l) ((msgL l).length / 64)) sqL) 8 := by
  unfold shaL outL
  rw [absorb_app]
  rfl
/-- The state before the block k. -/
def hK (L : List UInt8) (k : Nat) : List Int := addL (absK zero8 L k) sqL
theorem hK_len (L : List UInt8) (k : Nat) : (hK L k).length = 8 := addL_len (absK_len rfl L k) rfl
theorem hK_zero (L : List UInt8) : hK L 0 = sqL := by unfold hK absK zero8; decide
theorem add_swap (a d s : Int) : ((a + d) % 4294967296 + s) % 4294967296 = ((a + s) % 4294967296 + d) % 4294967296 := by omega
theorem addL_swap {A D S : List Int} (hA : A.length = 8) (hD : D.length = 8) (hS : S.length = 8) : addL (addL A D) S = addL (addL A S) D := by
  obtain ⟨a, b, c, d, e, f, g, i, rfl⟩ := eight hA
  obtain ⟨a', b', c', d', e', f', g', i', rfl⟩ := eight hD
  obtain ⟨a2, b2, c2, d2, e2, f2, g2, i2, rfl⟩ := eight hS
  simp only [addL, List.zipWith_cons_cons, List.zipWith_nil_left, add_swap]
def dK (L : List UInt8) (k : Nat) : List Int := octL (rnds (octOf (hK L k)) (sched (blk L k)) 64)
theorem hK_succ (L : List UInt8) (k : Nat) : hK L (k + 1) = addF (hK L k) (dK L k) 8 := by
  rw [addF_eight (hK_len L k) rfl]
  unfold hK
  rw [absK, mixL, addL_swap (absK_len rfl L k) rfl rfl]
  rfl
theorem hK_bd (L : List UInt8) (k i : Nat) : 0 ≤ wd (hK L k) i ∧ wd (hK L k) i < 4294967296 := by
  have h8 := absK_len (A := zero8) rfl L k
  unfold hK
  obtain ⟨a, b, c, d, e, f, g, h, hA⟩ := eight h8
  rw [hA]
  unfold wd
  rcases (by omega : i = 0 ∨ i = 1 ∨ i = 2 ∨ i = 3 ∨ i = 4 ∨ i = 5 ∨ i = 6 ∨ i = 7 ∨ 8 ≤ i) with rfl | rfl | rfl | rfl | rfl | rfl | rfl | rfl | hi
  iterate 8 (simp [addL, sqL]; omega)
  rw [List.getD_eq_getElem?_getD, List.getElem?_eq_none (by simp [addL, sqL]; omega)]
  simp
theorem or_comm32 (a b : Int) : bits .or .u32 a b = bits .or .u32 b a := by
  unfold bits
  show IntKind.u32.wrap ((BitVec.ofInt 32 a ||| BitVec.ofInt 32 b).toNat : Int) = IntKind.u32.wrap ((BitVec.ofInt 32 b ||| BitVec.ofInt 32 a).toNat : Int)
  rw [BitVec.or_comm]
theorem zeros_at (n j : Nat) (hj : j ≤ zerosN n) : ((n + 1 + j) % 64 = 56) ↔ j = zerosN n := by unfold zerosN at *; omega
end Go.Proofs.YthhaofdnbemogaaDoor
