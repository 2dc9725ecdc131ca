/-
  The order of characters: lists.
-/
import Derived.Test.YtjpnkffdpcfnjaaSet
import Derived.Test.YtjpnkffdpcfnjaaKmp
set_option linter.unusedVariables false
namespace Go.Proofs.Ytjpnkffdpcfnjaa

theorem cmpL_range (l m : List Nat) : cmpL l m = -1 ∨ cmpL l m = 0 ∨ cmpL l m = 1 := by
  induction l generalizing m with
  | nil => cases m <;> simp [cmpL]
  | cons a l ih =>
    cases m with
    | nil => simp [cmpL]
    | cons b m =>
      simp only [cmpL]
      split
      · simp
      · split
        · simp
        · exact ih m

theorem cmpL_zero (l m : List Nat) : cmpL l m = 0 ↔ l = m := by
  induction l generalizing m with
  | nil => cases m <;> simp [cmpL]
  | cons a l ih =>
    cases m with
    | nil => simp [cmpL]
    | cons b m =>
      simp only [cmpL, List.cons.injEq]
      split
      · constructor
        · intro h; cases h
        · rintro ⟨rfl, _⟩; omega
      · split
        · constructor
          · intro h; cases h
          · rintro ⟨rfl, _⟩; omega
        · rw [ih m]
          constructor
          · intro h; exact ⟨by omega, h⟩
          · exact fun h => h.2

theorem cmpL_swap (l m : List Nat) : cmpL m l = - cmpL l m := by
  induction l generalizing m with
  | nil => cases m <;> simp [cmpL]
  | cons a l ih =>
    cases m with
    | nil => simp [cmpL]
    | cons b m =>
      simp only [cmpL]
      by_cases h1 : a < b
      · have h3 : ¬ b < a := by omega
        simp only [if_pos h1, if_neg h3]; rfl
      · by_cases h2 : b < a
        · simp only [if_pos h2, if_neg h1]
        · simp only [if_neg h1, if_neg h2]; exact ih m

theorem cmpL_trans (l m n : List Nat) (h1 : ¬ 0 < cmpL l m) (h2 : ¬ 0 < cmpL m n) : cmpL l n ≤ 0 := by
  induction l generalizing m n with
  | nil => cases n <;> simp [cmpL]
  | cons a l ih =>
    cases m with
    | nil => simp [cmpL] at h1
    | cons b m =>
      cases n with
      | nil => simp [cmpL] at h2
      | cons c n =>
        simp only [cmpL] at h1 h2 ⊢
        by_cases g1 : a < b
        · by_cases g2 : b < c
          · rw [if_pos (by omega)]; decide
          · rw [if_neg g2] at h2
            by_cases g3 : c < b
            · rw [if_pos g3] at h2; exact absurd (by decide) h2
            · rw [if_pos (by omega)]; decide
        · rw [if_neg g1] at h1
          by_cases g3 : b < a
          · rw [if_pos g3] at h1; exact absurd (by decide) h1
          · rw [if_neg g3] at h1
            by_cases g2 : b < c
            · rw [if_pos (by omega)]; decide
            · rw [if_neg g2] at h2
              by_cases g4 : c < b
              · rw [if_pos g4] at h2; exact absurd (by decide) h2
              · rw [if_neg g4] at h2
                rw [if_neg (by omega), if_neg (by omega)]
                exact ih m n h1 h2

/-- The first k are equal. -/
def Alike (l m : List Nat) (k : Nat) : Prop := k ≤ l.length ∧ k ≤ m.length ∧ cmpL l m = cmpL (l.drop k) (m.drop k)
theorem alike_zero (l m : List Nat) : Alike l m 0 := ⟨Nat.zero_le _, Nat.zero_le _, rfl⟩
theorem Alike.next {l m : List Nat} {k : Nat} (h : Alike l m k) (h1 : k < l.length) (h2 : k < m.length) (e : l[k] = m[k]) : Alike l m (k + 1) := by
  obtain ⟨_, _, h⟩ := h
  refine ⟨h1, h2, ?_⟩
  rw [h, List.drop_eq_getElem_cons h1, List.drop_eq_getElem_cons h2]
  simp [cmpL, e]
theorem Alike.less {l m : List Nat} {k : Nat} (h : Alike l m k) (h1 : k < l.length) (h2 : k < m.length) (e : l[k] < m[k]) : cmpL l m = -1 := by
  obtain ⟨_, _, h⟩ := h
  rw [h, List.drop_eq_getElem_cons h1, List.drop_eq_getElem_cons h2]
  simp [cmpL, e]
theorem Alike.more {l m : List Nat} {k : Nat} (h : Alike l m k) (h1 : k < l.length) (h2 : k < m.length) (e : m[k] < l[k]) : cmpL l m = 1 := by
  obtain ⟨_, _, h⟩ := h
  rw [h, List.drop_eq_getElem_cons h1, List.drop_eq_getElem_cons h2]
  simp only [cmpL]
  rw [if_neg (by omega), if_pos e]
theorem Alike.short {l m : List Nat} {k : Nat} (h : Alike l m k) (h1 : l.length ≤ k) (h2 : k < m.length) : cmpL l m = -1 := by
  obtain ⟨_, _, h⟩ := h
  rw [h, List.drop_of_length_le h1, List.drop_eq_getElem_cons h2]
  rfl
theorem Alike.long {l m : List Nat} {k : Nat} (h : Alike l m k) (h1 : k < l.length) (h2 : m.length ≤ k) : cmpL l m = 1 := by
  obtain ⟨_, _, h⟩ := h
  rw [h, List.drop_of_length_le h2, List.drop_eq_getElem_cons h1]
  rfl
theorem Alike.even {l m : List Nat} {k : Nat} (h : Alike l m k) (h1 : l.length ≤ k) (h2 : m.length ≤ k) : cmpL l m = 0 := by
  obtain ⟨_, _, h⟩ := h
  rw [h, List.drop_of_length_le h1, List.drop_of_length_le h2]
  rfl
end Go.Proofs.Ytjpnkffdpcfnjaa
