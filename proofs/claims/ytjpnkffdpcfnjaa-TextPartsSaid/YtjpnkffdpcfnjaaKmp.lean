/-
  A search with borders (Knuth, Morris, Pratt) finds the first place: plain lists.
-/
set_option linter.unusedVariables false
namespace Go.Proofs.Ytjpnkffdpcfnjaa.Kmp

/-- f is the greatest k below b such that the first k of p end t. -/
def Best (p t : List Nat) (b f : Nat) : Prop := f < b ∧ p.take f <:+ t ∧ ∀ k, k < b → p.take k <:+ t → k ≤ f

theorem suf_snoc (p t : List Nat) (c k : Nat) (hk : k < p.length) : p.take (k + 1) <:+ t ++ [c] ↔ p[k] = c ∧ p.take k <:+ t := by
  rw [List.take_succ_eq_append_getElem hk]
  constructor
  · rintro ⟨r, hr⟩
    rw [← List.append_assoc] at hr
    obtain ⟨h1, h2⟩ := List.append_inj' hr rfl
    exact ⟨by simpa using h2, r, h1⟩
  · rintro ⟨rfl, r, hr⟩
    exact ⟨r, by rw [← List.append_assoc, hr]⟩

theorem suf_len {p t : List Nat} {k : Nat} (hk : k ≤ p.length) (h : p.take k <:+ t) : k ≤ t.length := by
  have := h.length_le
  rw [List.length_take] at this
  omega

/-- Of two ends the shorter one ends the longer one. -/
theorem suf_suf {p t : List Nat} {j k : Nat} (hk : k ≤ p.length) (hjk : j ≤ k) (hj : p.take j <:+ t) (h : p.take k <:+ t) : p.take j <:+ p.take k :=
  List.suffix_of_suffix_length_le hj h (by rw [List.length_take, List.length_take]; omega)

/-- What the inner loop keeps: whatever end goes on with c is not longer than f. -/
def Try (p t : List Nat) (b c f : Nat) : Prop := f < b ∧ p.take f <:+ t ∧ ∀ k, k < b → ∀ h : k < p.length, p[k] = c → p.take k <:+ t → k ≤ f

theorem Best.try {p t : List Nat} {b f : Nat} (h : Best p t b f) (c : Nat) : Try p t b c f := ⟨h.1, h.2.1, fun k hk _ _ hs => h.2.2 k hk hs⟩

/-- g is the border of the first f + 1. -/
theorem Try.step {p t : List Nat} {b c f g : Nat} (hb : b ≤ p.length) (h : Try p t b c (f + 1)) (hg : Best p (p.take (f + 1)) (f + 1) g) (hc : ∀ h : f + 1 < p.length, p[f + 1] ≠ c) : Try p t b c g := by
  obtain ⟨h1, h2, h3⟩ := h
  obtain ⟨g1, g2, g3⟩ := hg
  refine ⟨by omega, g2.trans h2, fun k hk hkp hc' hs => ?_⟩
  have hle := h3 k hk hkp hc' hs
  have hne : k ≠ f + 1 := by rintro rfl; exact hc hkp hc'
  exact g3 k (by omega) (suf_suf (by omega) (by omega) hs h2)

theorem Try.hit {p t : List Nat} {b c f : Nat} (hb : b ≤ p.length) (h : Try p t b c f) (hf : ∀ h : f < p.length, p[f] = c) : Best p (t ++ [c]) (b + 1) (f + 1) := by
  obtain ⟨h1, h2, h3⟩ := h
  have hfp : f < p.length := by omega
  refine ⟨by omega, (suf_snoc p t c f hfp).2 ⟨hf hfp, h2⟩, fun k hk hs => ?_⟩
  cases k with
  | zero => omega
  | succ k =>
    have hkp : k < p.length := by omega
    obtain ⟨e1, e2⟩ := (suf_snoc p t c k hkp).1 hs
    have := h3 k (by omega) hkp e1 e2
    omega

theorem Try.miss {p t : List Nat} {b c : Nat} (hb : b ≤ p.length) (h : Try p t b c 0) (hf : ∀ h : 0 < p.length, p[0] ≠ c) : Best p (t ++ [c]) (b + 1) 0 := by
  obtain ⟨h1, h2, h3⟩ := h
  refine ⟨by omega, by simp, fun k hk hs => ?_⟩
  cases k with
  | zero => omega
  | succ k =>
    have hkp : k < p.length := by omega
    obtain ⟨e1, e2⟩ := (suf_snoc p t c k hkp).1 hs
    have := h3 k (by omega) hkp e1 e2
    have hk0 : k = 0 := by omega
    subst hk0
    exact absurd e1 (hf hkp)

/-- The borders of the first beginnings. -/
def Borders (p : List Nat) (l : List Nat) : Prop := ∀ i (h : i < l.length), Best p (p.take (i + 1)) (i + 1) l[i]

theorem best_first (p : List Nat) : Best p (p.take 1) 1 0 := ⟨by omega, by simp, fun k hk _ => by omega⟩
theorem best_nil (p : List Nat) (h : 0 < p.length) : Best p [] p.length 0 := ⟨h, by simp, fun k hk hs => by have := suf_len (by omega) hs; simpa using this⟩
theorem take_snoc (l : List Nat) (i : Nat) (h : i < l.length) : l.take (i + 1) = l.take i ++ [l[i]] := List.take_succ_eq_append_getElem h
theorem best_down {p t : List Nat} {f : Nat} (h : Best p t (p.length + 1) f) (hf : f ≠ p.length) : Best p t p.length f := ⟨by have := h.1; omega, h.2.1, fun k hk hs => h.2.2 k (by omega) hs⟩

/-- p stands in s at i. -/
def At (s p : List Nat) (i : Nat) : Prop := i + p.length ≤ s.length ∧ (s.drop i).take p.length = p
theorem at_iff (s p : List Nat) (i : Nat) (h : i + p.length ≤ s.length) : At s p i ↔ p <:+ s.take (i + p.length) := by
  have e : s.take (i + p.length) = s.take i ++ (s.drop i).take p.length := by rw [List.take_add]
  unfold At
  rw [e]
  constructor
  · rintro ⟨_, h2⟩; exact ⟨s.take i, by rw [h2]⟩
  · intro hs
    refine ⟨h, ?_⟩
    have h2 : (s.drop i).take p.length <:+ s.take i ++ (s.drop i).take p.length := List.suffix_append _ _
    have hl : ((s.drop i).take p.length).length = p.length := by rw [List.length_take, List.length_drop]; omega
    have := List.suffix_of_suffix_length_le hs h2 (by omega)
    exact (this.eq_of_length hl.symm).symm

/-- What a search answers. -/
def Found (s p : List Nat) (r : Int) : Prop := (r = -1 ∧ ∀ i, ¬ At s p i) ∨ ∃ i : Nat, r = i ∧ At s p i ∧ ∀ j, j < i → ¬ At s p j
theorem Found.unique {s p : List Nat} {r r' : Int} (h : Found s p r) (h' : Found s p r') : r = r' := by
  rcases h with ⟨rfl, h⟩ | ⟨i, rfl, h1, h2⟩
  · rcases h' with ⟨rfl, _⟩ | ⟨i, rfl, h1, _⟩
    · rfl
    · exact absurd h1 (h i)
  · rcases h' with ⟨rfl, h'⟩ | ⟨j, rfl, h3, h4⟩
    · exact absurd h1 (h' i)
    · have : i = j := by
        rcases Nat.lt_trichotomy i j with hl | he | hl
        · exact absurd h1 (h4 i hl)
        · exact he
        · exact absurd h3 (h2 j hl)
      rw [this]
theorem Found.le {s p : List Nat} {i : Nat} (h : Found s p (i : Int)) : i + p.length ≤ s.length := by
  rcases h with ⟨h, _⟩ | ⟨j, h, h1, _⟩
  · omega
  · have : i = j := by omega
    subst this; exact h1.1

/-- No end so far: what the search keeps. -/
def NoEnd (s p : List Nat) (i : Nat) : Prop := ∀ j, j ≤ i → ¬ p <:+ s.take j
theorem noEnd_zero (s p : List Nat) (h : 0 < p.length) : NoEnd s p 0 := fun j hj hs => by
  have := hs.length_le
  rw [List.length_take] at this
  omega
theorem noEnd_succ {s p : List Nat} {i f : Nat} (hi : i < s.length) (h : NoEnd s p i) (hb : Best p (s.take (i + 1)) (p.length + 1) f) (hf : f ≠ p.length) : NoEnd s p (i + 1) := fun j hj hs => by
  rcases Nat.lt_or_ge j (i + 1) with hl | hl
  · exact h j (by omega) hs
  · have : j = i + 1 := by omega
    subst this
    have := hb.2.2 p.length (by omega) (by rw [List.take_length]; exact hs)
    have := hb.1
    omega
theorem found_hit {s p : List Nat} {i : Nat} (hp : 0 < p.length) (hi : i < s.length) (h : NoEnd s p i) (hb : Best p (s.take (i + 1)) (p.length + 1) p.length) : p.length ≤ i + 1 ∧ Found s p (((i + 1 - p.length : Nat)) : Int) := by
  have hs := hb.2.1
  rw [List.take_length] at hs
  have hl := hs.length_le
  rw [List.length_take] at hl
  refine ⟨by omega, .inr ⟨_, rfl, ?_, fun j hj hat => ?_⟩⟩
  · refine (at_iff s p _ (by omega)).2 ?_
    rw [show i + 1 - p.length + p.length = i + 1 by omega]
    exact hs
  · have := (at_iff s p j hat.1).1 hat
    exact h (j + p.length) (by omega) this
theorem found_none {s p : List Nat} (hp : 0 < p.length) (h : NoEnd s p s.length) : Found s p (-1) :=
  .inl ⟨rfl, fun i hat => h (i + p.length) hat.1 ((at_iff s p i hat.1).1 hat)⟩
theorem found_empty (s : List Nat) : Found s [] 0 := .inr ⟨0, rfl, ⟨by simp, by simp⟩, fun j hj => by omega⟩
end Go.Proofs.Ytjpnkffdpcfnjaa.Kmp
