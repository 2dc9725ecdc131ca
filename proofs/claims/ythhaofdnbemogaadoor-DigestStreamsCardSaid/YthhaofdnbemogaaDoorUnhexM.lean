/-
  Hexadecimal digits as plain functions.
-/
import Derived.Test.YthhaofdnbemogaaDoorHex
set_option linter.unusedVariables false
namespace Go.Proofs.YthhaofdnbemogaaDoor
open Go.RowKit

/-- The value of a digit, or -1. -/
def digV (c : UInt8) : Int := if 48 ≤ c.toNat ∧ c.toNat ≤ 57 then (c.toNat : Int) - 48 else if 97 ≤ c.toNat ∧ c.toNat ≤ 102 then (c.toNat : Int) - 87 else -1
theorem digV_all : ∀ k : Fin 256, digV (UInt8.ofNat k.val) = Lib.indexByte [48, 49, 50, 51, 52, 53, 54, 55, 56, 57, 97, 98, 99, 100, 101, 102] (UInt8.ofNat k.val) ∧ -1 ≤ digV (UInt8.ofNat k.val) ∧ digV (UInt8.ofNat k.val) < 16 ∧ (0 ≤ digV (UInt8.ofNat k.val) → hexC (digV (UInt8.ofNat k.val)).toNat = UInt8.ofNat k.val) := by decide +kernel
theorem of_toNat (c : UInt8) : UInt8.ofNat c.toNat = c := by simp
theorem digV_index (c : UInt8) : Lib.indexByte [48, 49, 50, 51, 52, 53, 54, 55, 56, 57, 97, 98, 99, 100, 101, 102] c = digV c := by
  have := (digV_all ⟨c.toNat, c.toNat_lt⟩).1
  simp only [of_toNat] at this
  exact this.symm
theorem digV_bd (c : UInt8) : -1 ≤ digV c ∧ digV c < 16 := by
  have := (digV_all ⟨c.toNat, c.toNat_lt⟩).2
  simp only [of_toNat] at this
  exact ⟨this.1, this.2.1⟩
theorem hexC_dig (c : UInt8) (h : 0 ≤ digV c) : hexC (digV c).toNat = c := by
  have := (digV_all ⟨c.toNat, c.toNat_lt⟩).2.2.2
  simp only [of_toNat] at this
  exact this h
theorem digV_hexC : ∀ k : Fin 16, digV (hexC k.val) = (k.val : Int) := by decide +kernel
theorem digV_hex (n : Nat) (h : n < 16) : digV (hexC n) = (n : Int) := digV_hexC ⟨n, h⟩

def chr (l : List UInt8) (j : Nat) : UInt8 := l.getD j 0
/-- The byte of two digits. -/
def pairB (l : List UInt8) (j : Nat) : UInt8 := UInt8.ofNat (16 * digV (chr l (2 * j)) + digV (chr l (2 * j + 1))).toNat
def pairsL (l : List UInt8) (m : Nat) : List UInt8 := (List.range m).map (pairB l)
theorem pairsL_len (l : List UInt8) (m : Nat) : (pairsL l m).length = m := by simp [pairsL]
theorem pairsL_snoc (l : List UInt8) (m : Nat) : pairsL l (m + 1) = pairsL l m ++ [pairB l m] := by simp [pairsL, List.range_succ]
/-- Are the first n characters digits? -/
def allD (l : List UInt8) (n : Nat) : Prop := ∀ j, j < n → 0 ≤ digV (chr l j)
/-- What Unhex answers: the bytes, and the error. -/
def unhexR (l : List UInt8) (s : ByteArray) (e : Int) : Prop :=
  (l.length % 2 = 1 ∧ s = ⟨#[]⟩ ∧ e = 14) ∨ (l.length % 2 = 0 ∧ ¬ allD l l.length ∧ s = ⟨#[]⟩ ∧ e = 9) ∨ (l.length % 2 = 0 ∧ allD l l.length ∧ s = strL (pairsL l (l.length / 2)) ∧ e = 0)
theorem unhexR_same {l : List UInt8} {s s' : ByteArray} {e e' : Int} (h : unhexR l s e) (h' : unhexR l s' e') : s = s' ∧ e = e' := by
  rcases h with ⟨a, b, c⟩ | ⟨a, d, b, c⟩ | ⟨a, d, b, c⟩ <;> rcases h' with ⟨a', b', c'⟩ | ⟨a', d', b', c'⟩ | ⟨a', d', b', c'⟩
  all_goals first
    | exact ⟨b.trans b'.symm, c.trans c'.symm⟩
    | omega
    | exact absurd d d'
    | exact absurd d' d
theorem pair_val (l : List UInt8) (j : Nat) (h0 : 0 ≤ digV (chr l (2 * j))) (h1 : 0 ≤ digV (chr l (2 * j + 1))) : ((pairB l j).toNat : Int) = 16 * digV (chr l (2 * j)) + digV (chr l (2 * j + 1)) := by
  have b0 := digV_bd (chr l (2 * j))
  have b1 := digV_bd (chr l (2 * j + 1))
  unfold pairB
  simp
  omega
/-- The digits of the bytes of digits are the digits. -/
theorem hex_pairs (l : List UInt8) (m : Nat) (hm : 2 * m ≤ l.length) (h : allD l (2 * m)) : hexL (pairsL l m) = l.take (2 * m) := by
  induction m with
  | zero => rfl
  | succ m ih =>
    have d0 := h (2 * m) (by omega)
    have d1 := h (2 * m + 1) (by omega)
    have pv := pair_val l m d0 d1
    have b0 := digV_bd (chr l (2 * m))
    have b1 := digV_bd (chr l (2 * m + 1))
    rw [pairsL_snoc, hexL_snoc, ih (by omega) (fun j hj => h j (by omega))]
    have e0 : hexC ((pairB l m).toNat / 16) = chr l (2 * m) := by
      rw [show (pairB l m).toNat / 16 = (digV (chr l (2 * m))).toNat by omega]
      exact hexC_dig _ d0
    have e1 : hexC ((pairB l m).toNat % 16) = chr l (2 * m + 1) := by
      rw [show (pairB l m).toNat % 16 = (digV (chr l (2 * m + 1))).toNat by omega]
      exact hexC_dig _ d1
    have t1 : l.take (2 * m + 1 + 1) = l.take (2 * m + 1) ++ [l[2 * m + 1]'(by omega)] := List.take_succ_eq_append_getElem (by omega)
    have t2 : l.take (2 * m + 1) = l.take (2 * m) ++ [l[2 * m]'(by omega)] := List.take_succ_eq_append_getElem (by omega)
    have g0 : chr l (2 * m) = l[2 * m]'(by omega) := by simp [chr, List.getD_eq_getElem?_getD, List.getElem?_eq_getElem (show 2 * m < l.length by omega)]
    have g1 : chr l (2 * m + 1) = l[2 * m + 1]'(by omega) := by simp [chr, List.getD_eq_getElem?_getD, List.getElem?_eq_getElem (show 2 * m + 1 < l.length by omega)]
    rw [e0, e1, show 2 * (m + 1) = 2 * m + 1 + 1 by omega, t1, t2, g0, g1, List.append_assoc]
    rfl
theorem unhex_back {l : List UInt8} {s : ByteArray} {e : Int} (h : unhexR l s e) (he : e = 0) : hexL s.data.toList = l := by
  rcases h with ⟨a, b, c⟩ | ⟨a, d, b, c⟩ | ⟨a, d, b, c⟩
  · omega
  · omega
  · rw [b, show (strL (pairsL l (l.length / 2))).data.toList = pairsL l (l.length / 2) from rfl, hex_pairs l _ (by omega) (fun j hj => d j (by omega)), List.take_of_length_le (by omega)]
/-- The digits of bytes. -/
theorem chr_hex (l : List UInt8) (j : Nat) (h : j < l.length) : chr (hexL l) (2 * j) = hexC ((chr l j).toNat / 16) ∧ chr (hexL l) (2 * j + 1) = hexC ((chr l j).toNat % 16) := by
  induction l generalizing j with
  | nil => simp at h
  | cons a l ih =>
    cases j with
    | zero => exact ⟨rfl, rfl⟩
    | succ j =>
      have := ih j (by simpa using h)
      rw [show 2 * (j + 1) + 1 = (2 * j + 1) + 1 + 1 by omega, show 2 * (j + 1) = 2 * j + 1 + 1 by omega]
      exact this
theorem hex_back {l : List UInt8} {s : ByteArray} {e : Int} (h : unhexR (hexL l) s e) : s = strL l ∧ e = 0 := by
  have hlen := hexL_len l
  have hall : allD (hexL l) (hexL l).length := by
    intro j hj
    rw [hlen] at hj
    have hc := chr_hex l (j / 2) (by omega)
    rcases Nat.mod_two_eq_zero_or_one j with h2 | h2
    · rw [show j = 2 * (j / 2) by omega, hc.1, digV_hex _ (by have := (chr l (j / 2)).toNat_lt; omega)]; omega
    · rw [show j = 2 * (j / 2) + 1 by omega, hc.2, digV_hex _ (by omega)]; omega
  have hp : pairsL (hexL l) ((hexL l).length / 2) = l := by
    rw [hlen, show 2 * l.length / 2 = l.length by omega]
    refine List.ext_getElem (by rw [pairsL_len]) (fun j h1 h2 => ?_)
    rw [pairsL_len] at h1
    have hc := chr_hex l j h1
    have hlt := (chr l j).toNat_lt
    simp only [pairsL, List.getElem_map, List.getElem_range]
    unfold pairB
    rw [hc.1, hc.2, digV_hex _ (by omega), digV_hex _ (by omega)]
    have : (16 * (((chr l j).toNat / 16 : Nat) : Int) + (((chr l j).toNat % 16 : Nat) : Int)).toNat = (chr l j).toNat := by omega
    rw [this, of_toNat]
    simp [chr, List.getD_eq_getElem?_getD, h1]
  rcases h with ⟨a, b, c⟩ | ⟨a, d, b, c⟩ | ⟨a, d, b, c⟩
  · omega
  · exact absurd hall d
  · exact ⟨by rw [b, hp], c⟩
end Go.Proofs.YthhaofdnbemogaaDoor
