/-
  Plain mathematics of bit maps.
-/
import Derived.Test.YtjjdfodjkoiedaaDoorWMath
set_option linter.unusedVariables false
namespace Go.Proofs.YtjjdfodjkoiedaaDoor
open Go

/-- The first k bits of byte j of a bit map. -/
def byteP (l : List Bool) (j : Nat) : Nat → Nat
  | 0 => 0
  | k + 1 => byteP l j k + if l.getD (8 * j + k) false then 2 ^ (7 - k) else 0
/-- Byte j when i bits are laid. -/
def stB (l : List Bool) (i j : Nat) : Nat := if j < i / 8 then byteP l j 8 else if j = i / 8 then byteP l j (i % 8) else 0
def bitsB (l : List Bool) : List UInt8 := (List.range ((l.length + 7) / 8)).map fun j => UInt8.ofNat (stB l l.length j)
theorem bitsB_len (l : List Bool) : (bitsB l).length = (l.length + 7) / 8 := by simp [bitsB]

theorem byteP_mod (l : List Bool) (j k : Nat) (h : k ≤ 8) : byteP l j k % 2 ^ (8 - k) = 0 ∧ byteP l j k ≤ 256 - 2 ^ (8 - k) := by
  induction k with
  | zero => simp [byteP]
  | succ k ih =>
    have ih := ih (by omega)
    simp only [byteP]
    have hk : k = 0 ∨ k = 1 ∨ k = 2 ∨ k = 3 ∨ k = 4 ∨ k = 5 ∨ k = 6 ∨ k = 7 := by omega
    generalize byteP l j k = x at ih ⊢
    generalize l.getD (8 * j + k) false = b
    rcases hk with rfl | rfl | rfl | rfl | rfl | rfl | rfl | rfl <;> cases b <;> simp at ih ⊢ <;> omega

theorem stB_lt (l : List Bool) (i j : Nat) : stB l i j < 256 := by
  unfold stB
  split
  · have := (byteP_mod l j 8 (by omega)).2; simp at this; omega
  · split
    · have h := (byteP_mod l j (i % 8) (by omega)).2
      have : 0 < 2 ^ (8 - i % 8) := Nat.pos_of_ne_zero (by simp)
      omega
    · omega

theorem stB_zero (l : List Bool) (j : Nat) : stB l 0 j = 0 := by
  unfold stB
  simp
  intro h
  subst h
  rfl

theorem stB_off (l : List Bool) (i j : Nat) (h : l.getD i false = false) : stB l (i + 1) j = stB l i j := by
  have e : 8 * (i / 8) + i % 8 = i := by omega
  unfold stB
  by_cases h7 : i % 8 = 7
  · have h1 : (i + 1) / 8 = i / 8 + 1 := by omega
    have h2 : (i + 1) % 8 = 0 := by omega
    rw [h1, h2, h7]
    by_cases hj : j < i / 8
    · rw [if_pos (by omega), if_pos hj]
    · rw [if_neg hj]
      by_cases hj2 : j = i / 8
      · subst hj2
        rw [if_pos (by omega), if_pos rfl]
        have e7 : 8 * (i / 8) + 7 = i := by omega
        rw [show (8 : Nat) = 7 + 1 from rfl, byteP]
        rw [show (7 + 1 : Nat) = 8 from rfl, e7, h]
        simp
      · rw [if_neg (by omega), if_neg hj2]
        split <;> rfl
  · have h1 : (i + 1) / 8 = i / 8 := by omega
    have h2 : (i + 1) % 8 = i % 8 + 1 := by omega
    rw [h1, h2]
    by_cases hj : j < i / 8
    · rw [if_pos hj, if_pos hj]
    · rw [if_neg hj, if_neg hj]
      by_cases hj2 : j = i / 8
      · subst hj2
        rw [if_pos rfl, if_pos rfl, byteP, e, h]
        simp
      · rw [if_neg hj2, if_neg hj2]

theorem stB_on (l : List Bool) (i j : Nat) (h : l.getD i false = true) : stB l (i + 1) j = if j = i / 8 then stB l i j + 2 ^ (7 - i % 8) else stB l i j := by
  have e : 8 * (i / 8) + i % 8 = i := by omega
  unfold stB
  by_cases h7 : i % 8 = 7
  · have h1 : (i + 1) / 8 = i / 8 + 1 := by omega
    have h2 : (i + 1) % 8 = 0 := by omega
    rw [h1, h2, h7]
    by_cases hj : j < i / 8
    · rw [if_pos (by omega), if_pos hj, if_neg (by omega)]
    · rw [if_neg hj]
      by_cases hj2 : j = i / 8
      · subst hj2
        rw [if_pos (by omega), if_pos rfl, if_pos rfl]
        have e7 : 8 * (i / 8) + 7 = i := by omega
        rw [show (8 : Nat) = 7 + 1 from rfl, byteP]
        rw [show (7 + 1 : Nat) = 8 from rfl, e7, h]
        simp
      · rw [if_neg (by omega), if_neg hj2, if_neg hj2]
        split <;> rfl
  · have h1 : (i + 1) / 8 = i / 8 := by omega
    have h2 : (i + 1) % 8 = i % 8 + 1 := by omega
    rw [h1, h2]
    by_cases hj : j < i / 8
    · rw [if_pos hj, if_pos hj, if_neg (by omega)]
    · rw [if_neg hj, if_neg hj]
      by_cases hj2 : j = i / 8
      · subst hj2
        rw [if_pos rfl, if_pos rfl, if_pos rfl, byteP, e, h]
        simp
      · rw [if_neg hj2, if_neg hj2, if_neg hj2]

theorem stB_cur (l : List Bool) (i : Nat) : stB l i (i / 8) = byteP l (i / 8) (i % 8) := by
  unfold stB
  rw [if_neg (by omega), if_pos rfl]
end Go.Proofs.YtjjdfodjkoiedaaDoor
