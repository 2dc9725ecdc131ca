/-
  Literals that are written: the plain function, and that it is read back.
-/
import Derived.Test.YtjpnkffdpcfnjaaDoorUnqM
import Derived.Test.YtjpnkffdpcfnjaaDoorRound
set_option linter.unusedVariables false
namespace Go.Proofs.YtjpnkffdpcfnjaaDoor
open Go.RowKit

def hexd (n : Nat) : UInt8 := hexL.getD n 0
/-- A character in a literal. -/
def quoteC (c : Nat) : List UInt8 :=
  if c = 10 then [92, 110] else if c = 9 then [92, 116] else if c = 13 then [92, 114] else if c = 0 then [92, 48] else if c = 34 then [92, 34] else if c = 92 then [92, 92]
  else if c < 32 ∨ c = 127 then [92, 117, 48, 48, hexd (c / 16), hexd (c % 16)] else enc c
def quoteL (l : List Nat) : List UInt8 := 34 :: (l.flatMap quoteC ++ [34])

theorem drop_at {s : ByteArray} {a : Nat} {l : List UInt8} (h : s.data.toList.drop a = l) (k : Nat) (hk : k < l.length) : a + k < s.size ∧ byteAt s (a + k) = l[k].toNat := by
  have hs : s.data.toList.length = s.size := by simp
  have hl : l.length = s.size - a := by rw [← h, List.length_drop, hs]
  have h1 : a + k < s.size := by omega
  refine ⟨h1, ?_⟩
  rw [← byteAt_eq s (a + k) h1]
  have h2 : s.data.toList[a + k]? = some l[k] := by rw [← List.getElem?_drop, h, List.getElem?_eq_getElem hk]
  have h3 : s.data.toList[a + k]? = some s[a + k] := by
    rw [Array.getElem?_toList, Array.getElem?_eq_getElem (by show a + k < s.size; omega)]
    rfl
  rw [h3] at h2
  rw [Option.some.inj h2]

theorem enc_head (c : Nat) (hc : c < 1114112) : ∃ x t, enc c = x :: t ∧ ((c < 128 ∧ x.toNat = c) ∨ (128 ≤ c ∧ 192 ≤ x.toNat)) := by
  unfold enc
  by_cases h1 : c < 128
  · rw [if_pos h1]; exact ⟨_, _, rfl, .inl ⟨h1, by simp; omega⟩⟩
  by_cases h2 : c < 2048
  · rw [if_neg h1, if_pos h2]; exact ⟨_, _, rfl, .inr ⟨by omega, by simp; omega⟩⟩
  by_cases h3 : c < 65536
  · rw [if_neg h1, if_neg h2, if_pos h3]; exact ⟨_, _, rfl, .inr ⟨by omega, by simp; omega⟩⟩
  · rw [if_neg h1, if_neg h2, if_neg h3]; exact ⟨_, _, rfl, .inr ⟨by omega, by simp; omega⟩⟩

theorem hexd_read (c : Nat) (h : c < 128) : hexv (hexd (c / 16)).toNat = ((c / 16 : Nat) : Int) ∧ hexv (hexd (c % 16)).toNat = ((c % 16 : Nat) : Int) := by
  have key : ∀ k : Fin 128, hexv (hexd (k.val / 16)).toNat = ((k.val / 16 : Nat) : Int) ∧ hexv (hexd (k.val % 16)).toNat = ((k.val % 16 : Nat) : Int) := by decide +kernel
  exact key ⟨c, h⟩

theorem lit_esc {s : ByteArray} {a : Nat} {x : UInt8} {tail : List UInt8} (c : Nat) (h : s.data.toList.drop a = [92, x] ++ tail) (h1 : x.toNat ≠ 117) (h2 : x.toNat ≠ 85) (h3 : escv x.toNat = (c : Int)) :
    byteAt s a ≠ 34 ∧ byteAt s a ≠ 10 ∧ a < s.size ∧ litG s a = ((c : Int), a + 2, 0) := by
  obtain ⟨s0, b0⟩ := drop_at h 0 (by simp)
  obtain ⟨s1, b1⟩ := drop_at h 1 (by simp)
  simp at b0 b1 s0
  refine ⟨by omega, by omega, s0, ?_⟩
  unfold litG escG
  rw [if_pos b0, if_neg (by omega), b1, if_neg h1, if_neg h2, h3, if_neg (by omega)]

theorem lit_quote {s : ByteArray} {a : Nat} {tail : List UInt8} (c : Nat) (hc : c < 1114112 ∧ (c < 55296 ∨ 57343 < c)) (h : s.data.toList.drop a = quoteC c ++ tail) :
    byteAt s a ≠ 34 ∧ byteAt s a ≠ 10 ∧ a < s.size ∧ litG s a = ((c : Int), a + (quoteC c).length, 0) := by
  unfold quoteC at h ⊢
  by_cases e1 : c = 10
  · rw [if_pos e1] at h ⊢; subst e1; exact lit_esc 10 h (by decide) (by decide) (by decide)
  rw [if_neg e1] at h ⊢
  by_cases e2 : c = 9
  · rw [if_pos e2] at h ⊢; subst e2; exact lit_esc 9 h (by decide) (by decide) (by decide)
  rw [if_neg e2] at h ⊢
  by_cases e3 : c = 13
  · rw [if_pos e3] at h ⊢; subst e3; exact lit_esc 13 h (by decide) (by decide) (by decide)
  rw [if_neg e3] at h ⊢
  by_cases e4 : c = 0
  · rw [if_pos e4] at h ⊢; subst e4; exact lit_esc 0 h (by decide) (by decide) (by decide)
  rw [if_neg e4] at h ⊢
  by_cases e5 : c = 34
  · rw [if_pos e5] at h ⊢; subst e5; exact lit_esc 34 h (by decide) (by decide) (by decide)
  rw [if_neg e5] at h ⊢
  by_cases e6 : c = 92
  · rw [if_pos e6] at h ⊢; subst e6; exact lit_esc 92 h (by decide) (by decide) (by decide)
  rw [if_neg e6] at h ⊢
  by_cases e7 : c < 32 ∨ c = 127
  · rw [if_pos e7] at h ⊢
    obtain ⟨s0, b0⟩ := drop_at h 0 (by simp)
    obtain ⟨s1, b1⟩ := drop_at h 1 (by simp)
    obtain ⟨s2, b2⟩ := drop_at h 2 (by simp)
    obtain ⟨s3, b3⟩ := drop_at h 3 (by simp)
    obtain ⟨s4, b4⟩ := drop_at h 4 (by simp)
    obtain ⟨s5, b5⟩ := drop_at h 5 (by simp)
    simp at b0 b1 b2 b3 b4 b5 s0
    obtain ⟨r1, r2⟩ := hexd_read c (by omega)
    refine ⟨by omega, by omega, s0, ?_⟩
    have hz : hexv 48 = 0 := by decide
    unfold litG escG
    rw [if_pos b0, if_neg (by omega), if_pos b1]
    unfold numG
    rw [if_neg (by omega), show a + 1 + 1 = a + 2 by omega, b2, hz, if_neg (by omega)]
    unfold numG
    rw [if_neg (by omega), show a + 2 + 1 = a + 3 by omega, b3, hz, if_neg (by omega)]
    unfold numG
    rw [if_neg (by omega), show a + 3 + 1 = a + 4 by omega, b4, r1, if_neg (by omega)]
    unfold numG
    rw [if_neg (by omega), show a + 4 + 1 = a + 5 by omega, b5, r2, if_neg (by omega)]
    unfold numG
    have e : 16 * (16 * (16 * (16 * (0 : Int) + 0) + 0) + ((c / 16 : Nat) : Int)) + ((c % 16 : Nat) : Int) = (c : Int) := by omega
    rw [e, (okc_iff c).2 (by omega), if_pos rfl]
    rfl
  · rw [if_neg e7] at h ⊢
    obtain ⟨x, t, he, hx⟩ := enc_head c hc.1
    have h' := h
    rw [he] at h'
    obtain ⟨s0, b0⟩ := drop_at h' 0 (by simp)
    simp at b0 s0
    refine ⟨by omega, by omega, s0, ?_⟩
    unfold litG
    rw [if_neg (by omega), extract_drop, h, dec_enc c tail hc]

theorem unqF_quote (s : ByteArray) (rest : List UInt8) : ∀ (m : List Nat) (a f : Nat) (acc : List Nat), Chars m → acc.length + m.length ≤ 65536 → s.size ≤ a + f → s.data.toList.drop a = m.flatMap quoteC ++ ([34] ++ rest) → unqF s f a acc = (acc ++ m, a + (m.flatMap quoteC).length + 1, 0) := by
  intro m
  induction m with
  | nil =>
    intro a f acc _ _ hf h
    obtain ⟨s0, b0⟩ := drop_at h 0 (by simp)
    simp at b0 s0
    obtain ⟨f, rfl⟩ : ∃ f', f = f' + 1 := ⟨f - 1, by omega⟩
    unfold unqF
    rw [if_neg (by omega), if_pos b0]
    simp
  | cons c m ih =>
    intro a f acc hc hl hf h
    rw [List.flatMap_cons, List.append_assoc] at h
    obtain ⟨n1, n2, hs, hL⟩ := lit_quote c (hc c (.head _)) h
    obtain ⟨f, rfl⟩ : ∃ f', f = f' + 1 := ⟨f - 1, by omega⟩
    rw [List.length_cons] at hl
    unfold unqF
    rw [if_neg (by omega), if_neg n1, if_neg n2, hL]
    dsimp only
    rw [if_pos rfl, if_neg (by omega), Int.toNat_natCast]
    have hq := litG_ok s a hs (by rw [hL])
    rw [hL] at hq
    dsimp only at hq
    rw [ih (a + (quoteC c).length) f (acc ++ [c]) (fun d hd => hc d (.tail _ hd)) (by rw [List.length_append, List.length_singleton]; omega) (by omega) (by rw [← List.drop_drop, h, List.drop_left])]
    simp only [List.flatMap_cons, List.length_append, List.append_assoc, List.singleton_append, Prod.mk.injEq, true_and, and_true]
    omega

theorem unqL_quote (l : List Nat) (rest : List UInt8) (hc : Chars l) (hl : l.length ≤ 65536) : unqL ⟨(quoteL l ++ rest).toArray⟩ = (l, (quoteL l).length, 0) := by
  generalize hs : (⟨(quoteL l ++ rest).toArray⟩ : ByteArray) = s
  have hd : s.data.toList = quoteL l ++ rest := by rw [← hs]
  have h0 : s.data.toList.drop 0 = 34 :: (l.flatMap quoteC ++ ([34] ++ rest)) := by rw [hd]; simp [quoteL]
  have h1 : s.data.toList.drop 1 = l.flatMap quoteC ++ ([34] ++ rest) := by rw [hd]; simp [quoteL]
  obtain ⟨s0, b0⟩ := drop_at h0 0 (by simp)
  simp at b0 s0
  unfold unqL
  rw [if_pos ⟨s0, b0⟩, unqF_quote s rest l 1 s.size [] hc (by simpa using hl) (by omega) h1]
  simp [quoteL]
  omega

theorem quoteC_len (c : Nat) : (quoteC c).length ≤ 6 := by
  unfold quoteC
  repeat' split
  all_goals first
    | (have := enc_len c; omega)
    | simp
theorem quoteL_len (l : List Nat) : (quoteL l).length ≤ 6 * l.length + 2 := by
  have : (l.flatMap quoteC).length ≤ 6 * l.length := by
    induction l with
    | nil => simp
    | cons c l ih =>
      have := quoteC_len c
      simp only [List.flatMap_cons, List.length_append, List.length_cons]
      omega
  unfold quoteL
  simp only [List.length_cons, List.length_append, List.length_nil]
  omega
theorem quote_snoc (l : List Nat) (k : Nat) (h : k < l.length) : (l.take (k + 1)).flatMap quoteC = (l.take k).flatMap quoteC ++ quoteC l[k] := by
  rw [List.take_succ_eq_append_getElem h]
  simp only [List.flatMap_append, List.flatMap_cons, List.flatMap_nil, List.append_nil]
end Go.Proofs.YtjpnkffdpcfnjaaDoor
