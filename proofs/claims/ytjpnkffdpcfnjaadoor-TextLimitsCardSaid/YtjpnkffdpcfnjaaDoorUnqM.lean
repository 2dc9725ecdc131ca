/-
  A whole literal by a plain function; what it gives.
-/
import Derived.Test.YtjpnkffdpcfnjaaDoorLit
set_option linter.unusedVariables false
namespace Go.Proofs.YtjpnkffdpcfnjaaDoor
open Go.RowKit

/-- A literal from a place on, behind the characters that were read. -/
def unqF (s : ByteArray) : Nat → Nat → List Nat → List Nat × Nat × Int
  | 0, _, _ => ([], s.size, 16)
  | f + 1, a, acc =>
    if s.size ≤ a then ([], s.size, 16)
    else if byteAt s a = 34 then (acc, a + 1, 0)
    else if byteAt s a = 10 then ([], a, 9)
    else if (litG s a).2.2 = 0 then (if acc.length = 65536 then ([], a, 3) else unqF s f (litG s a).2.1 (acc ++ [(litG s a).1.toNat]))
    else ([], (litG s a).2.1, (litG s a).2.2)
def unqL (s : ByteArray) : List Nat × Nat × Int := if 0 < s.size ∧ byteAt s 0 = 34 then unqF s s.size 1 [] else ([], 0, 9)

theorem unqF_end (s : ByteArray) (f a : Nat) (acc : List Nat) (h : s.size ≤ a) : unqF s f a acc = ([], s.size, 16) := by
  cases f with
  | zero => rfl
  | succ f => unfold unqF; rw [if_pos h]

theorem numG_ok (s : ByteArray) (letter : Nat) : ∀ (k a : Nat) (c : Int), a ≤ s.size → (numG s letter k a c).2.2 = 0 → okc (numG s letter k a c).1 = true ∧ (numG s letter k a c).2.1 = a + k ∧ a + k ≤ s.size := by
  intro k
  induction k with
  | zero =>
    intro a c ha h
    unfold numG at h ⊢
    cases hok : okc c
    · rw [hok, if_neg (by decide)] at h; exact absurd h (by simp)
    · rw [if_pos rfl]; exact ⟨hok, rfl, ha⟩
  | succ k ih =>
    intro a c ha h
    unfold numG at h ⊢
    by_cases h1 : s.size ≤ a
    · rw [if_pos h1] at h; exact absurd h (by simp)
    · rw [if_neg h1] at h ⊢
      by_cases h2 : hexv (byteAt s a) < 0
      · rw [if_pos h2] at h; exact absurd h (by simp)
      · rw [if_neg h2] at h ⊢
        obtain ⟨i1, i2, i3⟩ := ih (a + 1) _ (by omega) h
        exact ⟨i1, by omega, by omega⟩

theorem okc_of {c : Int} (h0 : 0 ≤ c) (h1 : c < 55296) : okc c = true := by
  unfold okc; exact decide_eq_true (by omega)

theorem escG_ok (s : ByteArray) (a : Nat) (h : (escG s a).2.2 = 0) : okc (escG s a).1 = true ∧ a < (escG s a).2.1 ∧ (escG s a).2.1 ≤ s.size := by
  unfold escG at h ⊢
  by_cases h0 : s.size ≤ a
  · rw [if_pos h0] at h; exact absurd h (by simp)
  rw [if_neg h0] at h ⊢
  by_cases h1 : byteAt s a = 117
  · rw [if_pos h1] at h ⊢
    obtain ⟨i1, i2, i3⟩ := numG_ok s a 4 (a + 1) 0 (by omega) h
    exact ⟨i1, by omega, by omega⟩
  rw [if_neg h1] at h ⊢
  by_cases h2 : byteAt s a = 85
  · rw [if_pos h2] at h ⊢
    obtain ⟨i1, i2, i3⟩ := numG_ok s a 6 (a + 1) 0 (by omega) h
    exact ⟨i1, by omega, by omega⟩
  rw [if_neg h2] at h ⊢
  by_cases h3 : escv (byteAt s a) < 0
  · rw [if_pos h3] at h; exact absurd h (by simp)
  rw [if_neg h3]
  have := escv_range (byteAt s a)
  exact ⟨okc_of (by omega) (by omega), Nat.lt_succ_self _, by show a + 1 ≤ _; omega⟩

theorem litG_ok (s : ByteArray) (a : Nat) (ha : a < s.size) (h : (litG s a).2.2 = 0) : okc (litG s a).1 = true ∧ a < (litG s a).2.1 ∧ (litG s a).2.1 ≤ s.size := by
  unfold litG at h ⊢
  by_cases h0 : byteAt s a = 92
  · rw [if_pos h0] at h ⊢
    obtain ⟨i1, i2, i3⟩ := escG_ok s (a + 1) h
    exact ⟨i1, by omega, i3⟩
  · rw [if_neg h0]
    have hsz : (s.extract a s.size).size = s.size - a := by simp
    have h1 := width_le (s.extract a s.size) 0 (by omega)
    have h2 := width_pos (s.extract a s.size) 0 (by omega)
    have h3 := decode_lt (s.extract a s.size) 0
    refine ⟨(okc_iff _).2 (by omega), ?_, ?_⟩
    · show a < a + _; omega
    · show a + _ ≤ _; omega

theorem okc_nat {c : Int} (h : okc c = true) : ∃ n : Nat, c = (n : Int) ∧ n < 1114112 ∧ (n < 55296 ∨ 57343 < n) := by
  unfold okc at h
  have h := of_decide_eq_true h
  obtain ⟨n, rfl⟩ := Int.eq_ofNat_of_zero_le h.1
  exact ⟨n, rfl, by omega, by omega⟩

/-- The characters that a literal gives are characters. -/
theorem unqF_chars (s : ByteArray) : ∀ (f a : Nat) (acc : List Nat), Chars acc → acc.length ≤ 65536 → Chars (unqF s f a acc).1 ∧ (unqF s f a acc).1.length ≤ 65536 := by
  intro f
  induction f with
  | zero => intro a acc _ _; exact ⟨fun c hc => (by cases hc), by show 0 ≤ _; omega⟩
  | succ f ih =>
    intro a acc hc hl
    unfold unqF
    have h0 : Chars ([] : List Nat) := fun c hc => by cases hc
    by_cases h1 : s.size ≤ a
    · rw [if_pos h1]; exact ⟨h0, by show 0 ≤ _; omega⟩
    rw [if_neg h1]
    by_cases h2 : byteAt s a = 34
    · rw [if_pos h2]; exact ⟨hc, hl⟩
    rw [if_neg h2]
    by_cases h3 : byteAt s a = 10
    · rw [if_pos h3]; exact ⟨h0, by show 0 ≤ _; omega⟩
    rw [if_neg h3]
    by_cases h4 : (litG s a).2.2 = 0
    · rw [if_pos h4]
      by_cases h5 : acc.length = 65536
      · rw [if_pos h5]; exact ⟨h0, by show 0 ≤ _; omega⟩
      · rw [if_neg h5]
        obtain ⟨n, e, hn⟩ := okc_nat (litG_ok s a (by omega) h4).1
        refine ih _ _ (fun c hm => ?_) (by rw [List.length_append, List.length_singleton]; omega)
        rcases List.mem_append.1 hm with hm | hm
        · exact hc c hm
        · rw [List.mem_singleton.1 hm, e, Int.toNat_natCast]; exact hn
    · rw [if_neg h4]; exact ⟨h0, by show 0 ≤ _; omega⟩
theorem unqL_chars (s : ByteArray) : Chars (unqL s).1 ∧ (unqL s).1.length ≤ 65536 := by
  unfold unqL
  split
  · exact unqF_chars s _ _ _ (fun c hc => by cases hc) (by show 0 ≤ _; omega)
  · exact ⟨fun c hc => (by cases hc), by show 0 ≤ _; omega⟩

theorem prefix_iff (s : ByteArray) : Lib.hasPrefix s.data.toList [34] = true ↔ 0 < s.size ∧ byteAt s 0 = 34 := by
  cases h : s.data.toList with
  | nil =>
    have hs : s.size = 0 := by have := congrArg List.length h; simpa using this
    simp [Lib.hasPrefix, hs]
  | cons x t =>
    have hs : s.size = t.length + 1 := by have := congrArg List.length h; simpa using this
    have hx : byteAt s 0 = x.toNat := by
      rw [← byteAt_eq s 0 (by omega)]
      have h1 : s.data.toList[0]? = some x := by rw [h]; rfl
      have h2 : s.data.toList[0]? = some s[0] := by
        rw [Array.getElem?_toList, Array.getElem?_eq_getElem (by show 0 < s.size; omega)]
        rfl
      rw [h1] at h2
      rw [← Option.some.inj h2]
    rw [hx]
    simp [Lib.hasPrefix, hs]
    constructor
    · intro h; rw [← h]; rfl
    · intro h; exact UInt8.toNat_inj.1 (by rw [h]; rfl)
end Go.Proofs.YtjpnkffdpcfnjaaDoor
