/-
  Plain mathematics: what was read is what is written for it: strings, bit maps, all kinds.
-/
import Derived.Test.YtjjdfodjkoiedaaDoorMathB
set_option linter.unusedVariables false
namespace Go.Proofs.YtjjdfodjkoiedaaDoor
open Go

theorem cnt_eq (s : ByteArray) (m : Int) (h : (cntR s m).2.2 = 0) : cntR s m = numR s ∧ (numR s).2.2 = 0 := by
  unfold cntR at *
  by_cases h1 : (numR s).2.2 = 0
  · rw [if_pos h1] at h ⊢
    by_cases h2 : (numR s).1 < 0
    · rw [if_pos h2] at h; simp at h
    rw [if_neg h2] at h ⊢
    by_cases h3 : m < (numR s).1
    · rw [if_pos h3] at h; simp at h
    rw [if_neg h3]
    exact ⟨rfl, h1⟩
  · rw [if_neg h1] at h
    exact absurd h h1

theorem cnt_back (s : ByteArray) (m : Int) (h : (cntR s m).2.2 = 0) : encNum (cntR s m).1 = pre s (cntR s m).2.1.toNat := by
  obtain ⟨e, h1⟩ := cnt_eq s m h
  rw [e]
  exact num_back s h1

theorem pre_add (s : ByteArray) (a b : Nat) : pre s (a + b) = pre s a ++ (s.extract a (a + b)).data.toList := by
  unfold pre
  rw [ByteArray.data_extract, Array.toList_extract, List.extract_eq_take_drop]
  rw [show a + b - a = b by omega]
  exact List.take_add

theorem ext_size (s : ByteArray) (a b : Nat) (h : a + b ≤ s.size) : (s.extract a (a + b)).size = b := by
  rw [ByteArray.size_extract]
  omega

theorem str_back (s : ByteArray) (m : Int) (h : (strR s m).2.2 = 0) : strS (strR s m).1 = pre s (strR s m).2.1.toNat ∧ (strR s m).1.size ≤ 1048576 := by
  have hbd := cntR_bd s (min m 1048576)
  have hbk := cnt_back s (min m 1048576)
  unfold strR at *
  have hm : min m 1048576 ≤ 1048576 := by omega
  generalize cntR s (min m 1048576) = r at *
  obtain ⟨v, n, x⟩ := r
  simp only at *
  by_cases hx : x = 0
  · subst hx
    simp only [if_true] at h ⊢
    obtain ⟨h0, h1, h2, h3, h4⟩ := hbd rfl
    obtain ⟨v, rfl⟩ := Int.eq_ofNat_of_zero_le h0
    obtain ⟨n, rfl⟩ := Int.eq_ofNat_of_zero_le h2
    by_cases hl : (s.size : Int) - (n : Int) < (v : Int)
    · simp [hl] at h
    · simp only [if_neg hl]
      rw [show ((n : Int) + (v : Int)).toNat = n + v by omega, Int.toNat_natCast]
      have hsz := ext_size s n v (by omega)
      unfold strS
      rw [hsz, hbk rfl, Int.toNat_natCast, ← pre_add]
      exact ⟨rfl, by omega⟩
  · simp [hx] at h

theorem raw_back (s : ByteArray) (m : Int) (h : (rawR s m).2.2 = 0) : (rawR s m).1.data.toList = pre s (rawR s m).2.1.toNat ∧ (rawR s m).1.size ≤ s.size := by
  unfold rawR at *
  by_cases h1 : m < 0
  · simp [h1] at h
  rw [if_neg h1] at h ⊢
  by_cases h2 : (s.size : Int) < m
  · simp [h2] at h
  rw [if_neg h2]
  have := pre_add s 0 m.toNat
  simp only [Nat.zero_add] at this
  refine ⟨?_, ?_⟩
  · show (s.extract 0 m.toNat).data.toList = pre s m.toNat
    rw [this]
    unfold pre
    simp
  · show (s.extract 0 m.toNat).size ≤ s.size
    rw [ByteArray.size_extract]; omega

set_option maxRecDepth 100000 in
theorem byte_sum (c r : Nat) (hc : c < 256) (hr : r < 8) (h0 : 0 < r) (h : c * 2 ^ r % 256 = 0) : ((List.range r).map fun k => if bitB c k then 2 ^ (7 - k) else 0).sum = c := by
  have key : ∀ r : Fin 8, ∀ c : Fin 256, 0 < r.val → c.val * 2 ^ r.val % 256 = 0 → ((List.range r.val).map fun k => if bitB c.val k then 2 ^ (7 - k) else 0).sum = c.val := by decide +kernel
  exact key ⟨r, hr⟩ ⟨c, hc⟩ h0 h
set_option maxRecDepth 100000 in
theorem byte_sum8 (c : Nat) (hc : c < 256) : ((List.range 8).map fun k => if bitB c k then 2 ^ (7 - k) else 0).sum = c := by
  have key : ∀ c : Fin 256, ((List.range 8).map fun k => if bitB c.val k then 2 ^ (7 - k) else 0).sum = c.val := by decide +kernel
  exact key ⟨c, hc⟩

theorem bitL_get (s : ByteArray) (f n i : Nat) (h : i < n) : (bitL s f n).getD i false = bitB (bt s (f + i / 8)) (i % 8) := by
  unfold bitL
  rw [List.getD_eq_getElem?_getD, List.getElem?_map, List.getElem?_range h]
  rfl

theorem byteP_sum (s : ByteArray) (f n j k : Nat) (hk : k ≤ 8) (h : 8 * j + k ≤ n) : byteP (bitL s f n) j k = ((List.range k).map fun t => if bitB (bt s (f + j)) t then 2 ^ (7 - t) else 0).sum := by
  induction k with
  | zero => rfl
  | succ k ih =>
    rw [List.range_succ, List.map_append, List.sum_append, byteP, ih (by omega) (by omega), bitL_get _ _ _ _ (by omega)]
    rw [show (8 * j + k) / 8 = j by omega, show (8 * j + k) % 8 = k by omega]
    simp

theorem bits_back (s : ByteArray) (f n : Nat) (hs : f + (n + 7) / 8 ≤ s.size) (ht : ¬ (0 < n % 8 ∧ bt s (f + (n + 7) / 8 - 1) * 2 ^ (n % 8) % 256 ≠ 0)) :
    bitsB (bitL s f n) = (s.extract f (f + (n + 7) / 8)).data.toList := by
  have hlen : (bitL s f n).length = n := by simp [bitL]
  have hsz := ext_size s f ((n + 7) / 8) hs
  apply List.ext_getElem
  · rw [bitsB_len, hlen, Array.length_toList]; exact hsz.symm
  intro j h1 h2
  rw [bitsB_len, hlen] at h1
  have hfj : f + j < s.size := by omega
  have e2 : (s.extract f (f + (n + 7) / 8)).data.toList[j]'h2 = s[f + j] := by
    simp only [Array.getElem_toList]
    show (s.extract f (f + (n + 7) / 8))[j]'(by rw [hsz]; exact h1) = _
    rw [ByteArray.getElem_extract]
  rw [e2]
  simp only [bitsB, List.getElem_map, List.getElem_range, hlen]
  have hb := s[f + j].toNat_lt
  have hbt := bt_in s (f + j) hfj
  have key : stB (bitL s f n) n j = s[f + j].toNat := by
    unfold stB
    by_cases hj : j < n / 8
    · rw [if_pos hj, byteP_sum s f n j 8 (by omega) (by omega), hbt]
      exact byte_sum8 _ hb
    · have hr : 0 < n % 8 := by omega
      have hj2 : j = n / 8 := by omega
      rw [if_neg hj, if_pos hj2, byteP_sum s f n j (n % 8) (by omega) (by omega), hbt]
      refine byte_sum _ _ hb (by omega) hr ?_
      have hlast : f + (n + 7) / 8 - 1 = f + j := by omega
      have h0 : bt s (f + (n + 7) / 8 - 1) * 2 ^ (n % 8) % 256 = 0 := by
        refine Decidable.byContradiction fun hne => ht ⟨hr, hne⟩
      rw [hlast, hbt] at h0
      have : ((s[f + j].toNat * 2 ^ (n % 8) % 256 : Nat) : Int) = 0 := by
        rw [Int.natCast_emod, Int.natCast_mul, Int.natCast_pow]
        exact h0
      exact Int.ofNat.inj this
  rw [key]
  exact UInt8.ofNat_toNat

theorem bit_back (s : ByteArray) (m : Int) (h : (bitR s m).2.2 = 0) : bitS (bitR s m).1 = pre s (bitR s m).2.1.toNat ∧ (bitR s m).1.length ≤ 65536 := by
  have hbd := cntR_bd s (min m 65536)
  have hbk := cnt_back s (min m 65536)
  unfold bitR at *
  have hm : min m 65536 ≤ 65536 := by omega
  generalize cntR s (min m 65536) = r at *
  obtain ⟨v, n, x⟩ := r
  simp only at *
  by_cases hx : x = 0
  · subst hx
    simp only [if_true] at h ⊢
    obtain ⟨h0, h1, h2, h3, h4⟩ := hbd rfl
    obtain ⟨v, rfl⟩ := Int.eq_ofNat_of_zero_le h0
    obtain ⟨n, rfl⟩ := Int.eq_ofNat_of_zero_le h2
    by_cases hl : (s.size : Int) < (n : Int) + ((v : Int) + 7) / 8
    · rw [if_pos hl] at h; exact absurd h (by decide)
    simp only [if_neg hl] at h ⊢
    have e1 : ((n : Int) + ((v : Int) + 7) / 8 - 1).toNat = n + (v + 7) / 8 - 1 := by omega
    have e2 : ((v : Int) % 8).toNat = v % 8 := by omega
    have e3 : (0 < (v : Int) % 8) ↔ 0 < v % 8 := by omega
    have e4 : ((n : Int) + ((v : Int) + 7) / 8).toNat = n + (v + 7) / 8 := by omega
    rw [e1, e2] at h ⊢
    simp only [e3] at h ⊢
    by_cases ht : 0 < v % 8 ∧ bt s (n + (v + 7) / 8 - 1) * 2 ^ (v % 8) % 256 ≠ 0
    · rw [if_pos ht] at h; exact absurd h (by decide)
    · simp only [if_neg ht, Int.toNat_natCast, e4]
      have hlen : (bitL s n v).length = v := by simp [bitL]
      unfold bitS
      rw [hlen, hbk rfl, Int.toNat_natCast, bits_back s n v (by omega) ht, ← pre_add]
      exact ⟨rfl, by omega⟩
  · simp [hx] at h

theorem rdv_back (k n : Int) (s : ByteArray) (la : Option Addr) (ll lc : Nat) (h : (rdv k n s).x = 0) :
    wrS ⟨k, n, (rdv k n s).N, (rdv k n s).S, la, ll, lc⟩ (rdv k n s).L = (0, pre s (rdv k n s).n.toNat) := by
  revert h
  unfold rdv wrS
  by_cases h0 : k = 0
  · subst h0; simp only [if_true]; exact fun h => lit_back s n h
  by_cases h1 : k = 1
  · subst h1; simp only [if_neg h0, if_true]; exact fun h => sig_back s n h
  by_cases h2 : k = 2
  · subst h2; simp only [if_neg h0, if_neg h1, if_true, true_or]; exact fun h => by rw [num_back s h]
  by_cases h3 : k = 3
  · subst h3
    simp only [if_neg h0, if_neg h1, if_neg h2, if_true]
    rw [if_neg (by decide)]
    exact fun h => by rw [(str_back s n h).1]
  by_cases h4 : k = 4
  · subst h4
    simp only [if_neg h0, if_neg h1, if_neg h2, if_neg h3, if_true]
    rw [if_neg (by decide)]
    exact fun h => by rw [(bit_back s n h).1]
  by_cases h6 : k = 6
  · subst h6
    simp only [if_neg h0, if_neg h1, if_neg h2, if_neg h3, if_neg h4, if_true, or_true]
    exact fun h => by rw [cnt_back s n h]
  · simp only [if_neg h0, if_neg h1, if_neg h2, if_neg h3, if_neg h4, if_neg h6]
    rw [if_neg (by simp [h2, h6])]
    exact fun h => by rw [(raw_back s n h).1]

theorem rdv_small (k n : Int) (s : ByteArray) (hs : s.size ≤ 5000) (h : (rdv k n s).x = 0) : (rdv k n s).S.size ≤ 1048576 ∧ (rdv k n s).L.length ≤ 65536 := by
  revert h
  unfold rdv
  repeat' split
  · exact fun h => ⟨Nat.zero_le _, Nat.zero_le _⟩
  · exact fun h => ⟨Nat.zero_le _, Nat.zero_le _⟩
  · exact fun h => ⟨Nat.zero_le _, Nat.zero_le _⟩
  · exact fun h => ⟨(str_back s n h).2, Nat.zero_le _⟩
  · exact fun h => ⟨Nat.zero_le _, (bit_back s n h).2⟩
  · exact fun h => ⟨Nat.zero_le _, Nat.zero_le _⟩
  · exact fun h => ⟨by have := (raw_back s n h).2; show (rawR s n).1.size ≤ _; omega, Nat.zero_le _⟩
end Go.Proofs.YtjjdfodjkoiedaaDoor
