/-
  Plain mathematics: different numbers have different encodings, none of which begins another one.
-/
import Derived.Test.YtjjdfodjkoiedaaDoorWMath
set_option linter.unusedVariables false
namespace Go.Proofs.YtjjdfodjkoiedaaDoor
open Go

theorem byteI_eq {a b : Int} (h : byteI a = byteI b) : a % 256 = b % 256 := by
  have h1 := byteI_nat a
  have h2 := byteI_nat b
  rw [h] at h1
  omega
theorem b224 : (224 : UInt8) = byteI 224 := by decide

def I64 (n : Int) : Prop := -9223372036854775808 ≤ n ∧ n ≤ 9223372036854775807

theorem top_eq {n m : Int} (hn : I64 n) (hm : I64 m) (h7 : n / 72057594037927936 % 256 = m / 72057594037927936 % 256) (h6 : n / 281474976710656 % 256 = m / 281474976710656 % 256)
    (h5 : n / 1099511627776 % 256 = m / 1099511627776 % 256) (h4 : n / 4294967296 % 256 = m / 4294967296 % 256) (h3 : n / 16777216 % 256 = m / 16777216 % 256)
    (h2 : n / 65536 % 256 = m / 65536 % 256) (h1 : n / 256 % 256 = m / 256 % 256) (h0 : n % 256 = m % 256) : n = m := by
  unfold I64 at hn hm
  have g7 : n / 72057594037927936 = m / 72057594037927936 := by omega
  have g6 : n / 281474976710656 = m / 281474976710656 := by clear h5 h4 h3 h2 h1 h0 hn hm h7; omega
  have g5 : n / 1099511627776 = m / 1099511627776 := by clear h4 h3 h2 h1 h0 hn hm h7 g7 h6; omega
  have g4 : n / 4294967296 = m / 4294967296 := by clear h3 h2 h1 h0 hn hm h7 g7 h6 g6 h5; omega
  have g3 : n / 16777216 = m / 16777216 := by clear h2 h1 h0 hn hm h7 g7 h6 g6 h5 g5 h4; omega
  have g2 : n / 65536 = m / 65536 := by clear h1 h0 hn hm h7 g7 h6 g6 h5 g5 h4 g4 h3; omega
  have g1 : n / 256 = m / 256 := by clear h0 hn hm h7 g7 h6 g6 h5 g5 h4 g4 h3 g3 h2; omega
  clear hn hm h7 g7 h6 g6 h5 g5 h4 g4 h3 g3 h2 g2 h1
  omega

theorem encNum_prefix {n m : Int} (hn : I64 n) (hm : I64 m) (h : (encNum m).take (encNum n).length = encNum n) : n = m := by
  unfold encNum at h
  rw [b224] at h
  by_cases n1 : -64 ≤ n ∧ n ≤ 63
  · rw [if_pos n1] at h
    by_cases m1 : -64 ≤ m ∧ m ≤ 63
    · rw [if_pos m1] at h
      simp at h
      have := byteI_eq h
      omega
    rw [if_neg m1] at h
    by_cases m2 : -8192 ≤ m ∧ m ≤ 8191
    · rw [if_pos m2] at h
      simp at h
      have := byteI_eq h
      omega
    rw [if_neg m2] at h
    by_cases m3 : -268435456 ≤ m ∧ m ≤ 268435455
    · rw [if_pos m3] at h
      simp at h
      have := byteI_eq h
      omega
    · rw [if_neg m3] at h
      simp at h
      have := byteI_eq h
      omega
  rw [if_neg n1] at h
  by_cases n2 : -8192 ≤ n ∧ n ≤ 8191
  · rw [if_pos n2] at h
    by_cases m1 : -64 ≤ m ∧ m ≤ 63
    · rw [if_pos m1] at h
      simp at h
    rw [if_neg m1] at h
    by_cases m2 : -8192 ≤ m ∧ m ≤ 8191
    · rw [if_pos m2] at h
      simp at h
      have a0 := byteI_eq h.1
      have a1 := byteI_eq h.2
      omega
    rw [if_neg m2] at h
    by_cases m3 : -268435456 ≤ m ∧ m ≤ 268435455
    · rw [if_pos m3] at h
      simp at h
      have a0 := byteI_eq h.1
      omega
    · rw [if_neg m3] at h
      simp at h
      have a0 := byteI_eq h.1
      omega
  rw [if_neg n2] at h
  by_cases n3 : -268435456 ≤ n ∧ n ≤ 268435455
  · rw [if_pos n3] at h
    by_cases m1 : -64 ≤ m ∧ m ≤ 63
    · rw [if_pos m1] at h
      simp at h
    rw [if_neg m1] at h
    by_cases m2 : -8192 ≤ m ∧ m ≤ 8191
    · rw [if_pos m2] at h
      simp at h
    rw [if_neg m2] at h
    by_cases m3 : -268435456 ≤ m ∧ m ≤ 268435455
    · rw [if_pos m3] at h
      simp at h
      have a0 := byteI_eq h.1
      have a1 := byteI_eq h.2.1
      have a2 := byteI_eq h.2.2.1
      have a3 := byteI_eq h.2.2.2
      have g2 : n / 65536 = m / 65536 := by clear a2 a3; omega
      have g1 : n / 256 = m / 256 := by clear a0 a1 a3 n1 n2 n3 m1 m2 m3; omega
      clear a0 a1 a2 g2 n1 n2 n3 m1 m2 m3
      omega
    · rw [if_neg m3] at h
      simp at h
      have a0 := byteI_eq h.1
      omega
  rw [if_neg n3] at h
  by_cases m1 : -64 ≤ m ∧ m ≤ 63
  · rw [if_pos m1] at h
    simp at h
  rw [if_neg m1] at h
  by_cases m2 : -8192 ≤ m ∧ m ≤ 8191
  · rw [if_pos m2] at h
    simp at h
  rw [if_neg m2] at h
  by_cases m3 : -268435456 ≤ m ∧ m ≤ 268435455
  · rw [if_pos m3] at h
    simp at h
  · rw [if_neg m3] at h
    simp at h
    obtain ⟨h7, h6, h5, h4, h3, h2, h1, h0⟩ := h
    exact (top_eq hm hn (byteI_eq h7) (byteI_eq h6) (byteI_eq h5) (byteI_eq h4) (byteI_eq h3) (byteI_eq h2) (byteI_eq h1) (byteI_eq h0)).symm

theorem encNum_inj {n m : Int} (hn : I64 n) (hm : I64 m) (h : encNum n = encNum m) : n = m :=
  encNum_prefix hn hm (by rw [h]; exact List.take_length)

theorem szN_near {n m : Int} (h : szN n < szN m) (hs : (n < 0) = (m < 0)) : (0 ≤ n → n < m) ∧ (n < 0 → m < n) := by
  have hs' : n < 0 ↔ m < 0 := by rw [hs]
  unfold szN at h
  repeat' split at h
  all_goals omega
theorem szN_bd (n : Int) : 1 ≤ szN n ∧ szN n ≤ 9 := by
  unfold szN
  repeat' split
  all_goals omega
end Go.Proofs.YtjjdfodjkoiedaaDoor
