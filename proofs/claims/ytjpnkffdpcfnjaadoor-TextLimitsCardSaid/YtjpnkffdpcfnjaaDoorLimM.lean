/-
  A literal with one character too many, as the plain function reads it.
-/
import Derived.Test.YtjpnkffdpcfnjaaDoorQuoM
set_option linter.unusedVariables false
namespace Go.Proofs.YtjpnkffdpcfnjaaDoor
open Go.RowKit

theorem lit_enc {s : ByteArray} {a : Nat} {tail : List UInt8} (c : Nat) (hc : c < 1114112 ∧ (c < 55296 ∨ 57343 < c)) (e5 : c ≠ 34) (e1 : c ≠ 10) (e6 : c ≠ 92) (h : s.data.toList.drop a = enc c ++ tail) :
    byteAt s a ≠ 34 ∧ byteAt s a ≠ 10 ∧ a < s.size ∧ litG s a = ((c : Int), a + (enc c).length, 0) := by
  obtain ⟨x, t, he, hx⟩ := enc_head c hc.1
  have h' := h
  rw [he] at h'
  obtain ⟨s0, b0⟩ := drop_at h' 0 (by simp)
  simp at b0 s0
  refine ⟨by omega, by omega, s0, ?_⟩
  unfold litG
  rw [if_neg (by omega), extract_drop, h, dec_enc c tail hc]

theorem unqF_limit (s : ByteArray) (c : Nat) (tail : List UInt8) (hc : c < 1114112 ∧ (c < 55296 ∨ 57343 < c)) (e5 : c ≠ 34) (e1 : c ≠ 10) (e6 : c ≠ 92) :
    ∀ (m a f : Nat) (acc : List Nat), acc.length + m = 65536 → s.size ≤ a + f → s.data.toList.drop a = List.replicate m 0 ++ (enc c ++ tail) → unqF s f a acc = ([], a + m, 3) := by
  intro m
  induction m with
  | zero =>
    intro a f acc hl hf h
    simp only [List.replicate_zero, List.nil_append] at h
    obtain ⟨n1, n2, hs, hL⟩ := lit_enc c hc e5 e1 e6 h
    obtain ⟨f, rfl⟩ : ∃ f', f = f' + 1 := ⟨f - 1, by omega⟩
    unfold unqF
    rw [if_neg (by omega), if_neg n1, if_neg n2, hL]
    dsimp only
    rw [if_pos rfl, if_pos (by omega)]
    rfl
  | succ m ih =>
    intro a f acc hl hf h
    rw [List.replicate_succ] at h
    have e0 : enc 0 = [0] := rfl
    have h0 : s.data.toList.drop a = enc 0 ++ (List.replicate m 0 ++ (enc c ++ tail)) := by rw [h, e0]; rfl
    obtain ⟨n1, n2, hs, hL⟩ := lit_enc 0 (by omega) (by omega) (by omega) (by omega) h0
    rw [e0] at hL
    obtain ⟨f, rfl⟩ : ∃ f', f = f' + 1 := ⟨f - 1, by omega⟩
    unfold unqF
    rw [if_neg (by omega), if_neg n1, if_neg n2, hL]
    dsimp only
    rw [if_pos rfl, if_neg (by omega), ih (a + [0].length) f _ (by rw [List.length_append, List.length_singleton]; omega) (by show s.size ≤ a + 1 + f; omega) (by rw [← List.drop_drop, h]; rfl)]
    simp only [List.length_singleton, Prod.mk.injEq, true_and, and_true]
    omega

theorem unqL_limit (c : Nat) (hc : c < 1114112 ∧ (c < 55296 ∨ 57343 < c)) (e5 : c ≠ 34) (e1 : c ≠ 10) (e6 : c ≠ 92) (m : Nat) (hm : m = 65536) (s : ByteArray) (h : s.data.toList = 34 :: (List.replicate m 0 ++ (enc c ++ [34]))) : unqL s = ([], m + 1, 3) := by
  have h0 : s.data.toList.drop 0 = 34 :: (List.replicate m 0 ++ (enc c ++ [34])) := by rw [h]; rfl
  have h1 : s.data.toList.drop 1 = List.replicate m 0 ++ (enc c ++ [34]) := by rw [h]; rfl
  obtain ⟨s0, b0⟩ := drop_at h0 0 (by simp)
  simp at b0 s0
  unfold unqL
  rw [if_pos ⟨s0, b0⟩, unqF_limit s c [34] hc e5 e1 e6 m 1 s.size [] (by simpa using hm) (by omega) h1]
  simp only [Prod.mk.injEq, true_and, and_true]
  omega

/-- Characters 0. -/
theorem zeros_chars (n : Nat) : Chars (List.replicate n 0) := fun c hc => by rw [(List.mem_replicate.1 hc).2]; omega
theorem decF_zeros (s : ByteArray) (hz : ∀ k, k < s.size → byteAt s k = 0) : ∀ (f pos : Nat), s.size ≤ pos + f → decF s f pos = List.replicate (s.size - pos) 0 := by
  intro f
  induction f with
  | zero => intro pos h; rw [decF_end s 0 pos (by omega), show s.size - pos = 0 by omega]; rfl
  | succ f ih =>
    intro pos h
    by_cases hp : pos < s.size
    · have hd : Utf8.decode s pos = (0, 1) := by
        have h1 : 0 < (s.extract pos s.size).size := by simp; omega
        have e : byteAt (s.extract pos s.size) 0 = byteAt s pos := by
          rw [← byteAt_eq _ 0 h1, ← byteAt_eq s pos hp]
          simp [ByteArray.getElem_eq_getElem_data]
        rw [← decode_extract s pos (by omega), dec_one _ (by rw [e, hz pos hp]; omega), e, hz pos hp]
      have : decF s (f + 1) pos = (Utf8.decode s pos).1 :: decF s f (pos + (Utf8.decode s pos).2) := by simp [decF, hp]
      rw [this, hd, ih (pos + 1) (by omega), show s.size - pos = (s.size - (pos + 1)) + 1 by omega, List.replicate_succ]
    · rw [decF_end s (f + 1) pos hp, show s.size - pos = 0 by omega]; rfl
end Go.Proofs.YtjpnkffdpcfnjaaDoor
