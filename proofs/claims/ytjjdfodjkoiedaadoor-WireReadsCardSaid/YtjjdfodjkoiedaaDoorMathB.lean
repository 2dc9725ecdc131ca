/-
  Plain mathematics: what was read is what is written for it.
-/
import Derived.Test.YtjjdfodjkoiedaaDoorWr
import Derived.Test.YtjjdfodjkoiedaaDoorRdUse
set_option linter.unusedVariables false
namespace Go.Proofs.YtjjdfodjkoiedaaDoor
open Go

/-- The first n bytes. -/
def pre (s : ByteArray) (n : Nat) : List UInt8 := s.data.toList.take n
theorem pre_len (s : ByteArray) (n : Nat) (h : n ≤ s.size) : (pre s n).length = n := by
  unfold pre
  rw [List.length_take, Array.length_toList]
  exact Nat.min_eq_left h
theorem pre_succ (s : ByteArray) (n : Nat) (h : n < s.size) : pre s (n + 1) = pre s n ++ [byteI (bt s n)] := by
  unfold pre
  have hl : n < s.data.toList.length := by rw [Array.length_toList]; exact h
  rw [List.take_succ_eq_append_getElem hl, bt_in s n h, byteI_toNat]
  rfl

theorem p256 (j : Nat) : (2 : Int) ^ (8 * j) = 256 ^ j := by rw [Int.pow_mul]; rfl

/-- A digit of a sum that ends in a multiple of 256^z. -/
theorem digit_add (u c : Int) (z j : Nat) (h : j < z) : (u + c * 256 ^ z) / 256 ^ j % 256 = u / 256 ^ j % 256 := by
  obtain ⟨d, rfl⟩ : ∃ d, z = j + (d + 1) := ⟨z - j - 1, by omega⟩
  have hp : (256 : Int) ^ j ≠ 0 := by have := pow_pos' j; omega
  rw [Int.pow_add, Int.pow_succ, show c * (256 ^ j * (256 ^ d * 256)) = (c * 256 ^ d * 256) * 256 ^ j by
    rw [Int.mul_comm (256 ^ j), Int.mul_assoc, Int.mul_assoc, Int.mul_assoc]]
  rw [Int.add_mul_ediv_right _ _ hp, Int.add_mul_emod_self_right]

theorem leV_digit (s : ByteArray) (z j : Nat) (h : j < z) : leV s z / 256 ^ j % 256 = bt s j := by
  induction z with
  | zero => omega
  | succ z ih =>
    simp only [leV]
    by_cases hj : j < z
    · rw [digit_add _ _ _ _ hj, ih hj]
    · obtain rfl : j = z := by omega
      have hp : (256 : Int) ^ j ≠ 0 := by have := pow_pos' j; omega
      have hl := leV_bd s j
      have hb := bt_bd s j
      rw [Int.add_mul_ediv_right _ _ hp, Int.ediv_eq_zero_of_lt hl.1 hl.2, Int.zero_add]
      omega

theorem encLE_pre (s : ByteArray) (z k : Nat) (n : Int) (hk : k ≤ z) (hz : z ≤ s.size) (hn : ∃ c, n = leV s z + c * 256 ^ z) : encLE n k = pre s k := by
  obtain ⟨c, rfl⟩ := hn
  induction k with
  | zero => rfl
  | succ k ih =>
    rw [encLE, ih (by omega), pre_succ s k (by omega)]
    congr 2
    rw [p256]
    refine byteI_congr ?_
    rw [digit_add _ _ _ _ (by omega), leV_digit s z k (by omega)]
    have := bt_bd s k
    omega

theorem lit_back (s : ByteArray) (z : Int) (h : (litR s z).2.2 = 0) : litS (litR s z).1 z = (0, pre s (litR s z).2.1.toNat) := by
  unfold litR lowS at *
  by_cases h1 : isSz z = true
  · obtain ⟨k, rfl, hk⟩ := isSz_cases h1
    simp only [if_pos h1] at h ⊢
    by_cases h2 : (s.size : Int) < (k : Int)
    · simp [h2] at h
    · simp only [if_neg h2, if_true, Int.toNat_natCast] at h ⊢
      by_cases h3 : 9223372036854775807 < leV s k
      · simp [h3] at h
      · simp only [if_neg h3, Int.toNat_natCast] at h ⊢
        have hb := leV_bd s k
        unfold litS
        rw [if_pos h1, Int.toNat_natCast, p256, if_pos hb]
        rw [encLE_pre s k k _ (Nat.le_refl _) (by omega) ⟨0, by simp⟩]
  · simp [h1] at h

theorem sgn_mod (u : Int) (b : Nat) : ∃ c, sgn u b = u + c * 2 ^ b := by
  have h := Int.emod_add_mul_ediv u (2 ^ b)
  unfold sgn
  split
  · exact ⟨-(u / 2 ^ b), by rw [Int.neg_mul, Int.mul_comm]; omega⟩
  · refine ⟨-(u / 2 ^ b) - 1, ?_⟩
    rw [Int.sub_mul, Int.neg_mul, Int.mul_comm (u / 2 ^ b)]
    omega
theorem sgn_fix (u : Int) (b : Nat) (hb : 0 < b) : sgn (sgn u b) b = sgn u b := by
  obtain ⟨c, hc⟩ := sgn_mod u b
  refine sgn_congr ?_
  rw [hc, Int.add_mul_emod_self_right]

theorem sig_back (s : ByteArray) (z : Int) (h : (sigR s z).2.2 = 0) : sigS (sigR s z).1 z = (0, pre s (sigR s z).2.1.toNat) := by
  unfold sigR lowS at *
  by_cases h1 : isSz z = true
  · obtain ⟨k, rfl, hk⟩ := isSz_cases h1
    simp only [if_pos h1] at h ⊢
    by_cases h2 : (s.size : Int) < (k : Int)
    · simp [h2] at h
    · simp only [if_neg h2, if_true, Int.toNat_natCast] at h ⊢
      unfold sigS
      rw [if_pos h1, Int.toNat_natCast, if_pos (sgn_fix _ _ (by omega))]
      obtain ⟨c, hc⟩ := sgn_mod (leV s k) (8 * k)
      rw [p256] at hc
      rw [encLE_pre s k k _ (Nat.le_refl _) (by omega) ⟨c, hc⟩]
  · simp [h1] at h

theorem toNat_ofInt (z : Nat) : ((z : Nat) : Int).toNat = z := Int.toNat_natCast z

/-- The operand number. -/
theorem num_back (s : ByteArray) (h : (numR s).2.2 = 0) : encNum (numR s).1 = pre s (numR s).2.1.toNat := by
  revert h
  unfold numR
  by_cases h0 : s.size = 0
  · simp [h0]
  rw [if_neg h0]
  by_cases hc : 224 < bt s 0
  · simp [hc]
  rw [if_neg hc]
  by_cases hl : s.size < szC (bt s 0)
  · simp [hl]
  rw [if_neg hl]
  by_cases hz : szN (sgn (beV s (szC (bt s 0))) (bitC (bt s 0))) = szC (bt s 0)
  · rw [if_pos hz]
    intro hh
    clear hh
    simp only [toNat_ofInt]
    have b0 := bt_bd s 0
    by_cases c1 : bt s 0 < 128
    · have e1 : szC (bt s 0) = 1 := by unfold szC; rw [if_pos c1]
      have e2 : bitC (bt s 0) = 7 := by unfold bitC; rw [if_pos c1]
      rw [e1] at hl hz ⊢
      rw [e2] at hz ⊢
      clear e1 e2
      rw [pre_succ s 0 (by omega)]
      have hv : beV s 1 = bt s 0 := by simp [beV]
      rw [hv] at hz ⊢
      clear hv
      have hs : sgn (bt s 0) 7 = if bt s 0 < 64 then bt s 0 else bt s 0 - 128 := by
        unfold sgn
        have : bt s 0 % 2 ^ 7 = bt s 0 := by omega
        rw [this]
        rfl
      unfold encNum
      rw [hs] at hz ⊢
      clear hs
      rw [if_pos (by split <;> omega)]
      show _ = [] ++ [_]
      rw [List.nil_append]
      congr 1
      refine byteI_congr ?_
      split <;> omega
    by_cases c2 : bt s 0 < 192
    · have e1 : szC (bt s 0) = 2 := by unfold szC; rw [if_neg c1, if_pos c2]
      have e2 : bitC (bt s 0) = 14 := by unfold bitC; rw [if_neg c1, if_pos c2]
      rw [e1] at hl hz ⊢
      rw [e2] at hz ⊢
      clear e1 e2
      rw [pre_succ s 1 (by omega), pre_succ s 0 (by omega)]
      have b1 := bt_bd s 1
      have hv : beV s 2 = bt s 0 * 256 + bt s 1 := by simp [beV]
      rw [hv] at hz ⊢
      clear hv
      generalize bt s 0 = x at *
      generalize bt s 1 = y at *
      have hs : sgn (x * 256 + y) 14 = if (x - 128) * 256 + y < 8192 then (x - 128) * 256 + y else (x - 128) * 256 + y - 16384 := by
        unfold sgn
        have : (x * 256 + y) % 2 ^ 14 = (x - 128) * 256 + y := by omega
        rw [this]
        rfl
      rw [hs] at hz ⊢
      clear hs
      generalize hn : (if (x - 128) * 256 + y < 8192 then (x - 128) * 256 + y else (x - 128) * 256 + y - 16384) = n at *
      have hn' : n = (x - 128) * 256 + y ∧ n < 8192 ∨ n = (x - 128) * 256 + y - 16384 ∧ -8192 ≤ n ∧ n < 0 := by split at hn <;> omega
      unfold szN at hz
      unfold encNum
      by_cases k1 : -64 ≤ n ∧ n ≤ 63
      · rw [if_pos k1] at hz; simp at hz
      rw [if_neg k1, if_pos (by omega)]
      show _ = ([] ++ [_]) ++ [_]
      rw [List.nil_append]
      show [_, _] = [_, _]
      rw [byteI_congr (a := 128 + n / 256 % 64) (b := x) (by omega), byteI_congr (a := n) (b := y) (by omega)]
    by_cases c3 : bt s 0 < 224
    · have e1 : szC (bt s 0) = 4 := by unfold szC; rw [if_neg c1, if_neg c2, if_pos c3]
      have e2 : bitC (bt s 0) = 29 := by unfold bitC; rw [if_neg c1, if_neg c2, if_pos c3]
      rw [e1] at hl hz ⊢
      rw [e2] at hz ⊢
      clear e1 e2
      rw [pre_succ s 3 (by omega), pre_succ s 2 (by omega), pre_succ s 1 (by omega), pre_succ s 0 (by omega)]
      have b1 := bt_bd s 1
      have b2 := bt_bd s 2
      have b3 := bt_bd s 3
      have hv : beV s 4 = ((bt s 0 * 256 + bt s 1) * 256 + bt s 2) * 256 + bt s 3 := by simp [beV]
      rw [hv] at hz ⊢
      clear hv
      generalize bt s 0 = x at *
      generalize bt s 1 = y at *
      generalize bt s 2 = u at *
      generalize bt s 3 = v at *
      have hs : sgn (((x * 256 + y) * 256 + u) * 256 + v) 29 = if (((x - 192) * 256 + y) * 256 + u) * 256 + v < 268435456 then (((x - 192) * 256 + y) * 256 + u) * 256 + v else (((x - 192) * 256 + y) * 256 + u) * 256 + v - 536870912 := by
        unfold sgn
        have : (((x * 256 + y) * 256 + u) * 256 + v) % 2 ^ 29 = (((x - 192) * 256 + y) * 256 + u) * 256 + v := by omega
        rw [this]
        rfl
      rw [hs] at hz ⊢
      clear hs
      generalize hn : (if (((x - 192) * 256 + y) * 256 + u) * 256 + v < 268435456 then (((x - 192) * 256 + y) * 256 + u) * 256 + v else (((x - 192) * 256 + y) * 256 + u) * 256 + v - 536870912) = n at *
      have hn' : n = (((x - 192) * 256 + y) * 256 + u) * 256 + v ∧ n < 268435456 ∨ n = (((x - 192) * 256 + y) * 256 + u) * 256 + v - 536870912 ∧ -268435456 ≤ n ∧ n < 0 := by split at hn <;> omega
      unfold szN at hz
      unfold encNum
      by_cases k1 : -64 ≤ n ∧ n ≤ 63
      · rw [if_pos k1] at hz; simp at hz
      rw [if_neg k1] at hz ⊢
      by_cases k2 : -8192 ≤ n ∧ n ≤ 8191
      · rw [if_pos k2] at hz; simp at hz
      rw [if_neg k2, if_pos (by omega)]
      show _ = ((([] ++ [_]) ++ [_]) ++ [_]) ++ [_]
      rw [List.nil_append]
      show [_, _, _, _] = [_, _, _, _]
      rw [byteI_congr (a := 192 + n / 16777216 % 32) (b := x) (by omega), byteI_congr (a := n / 65536) (b := y) (by omega), byteI_congr (a := n / 256) (b := u) (by omega), byteI_congr (a := n) (b := v) (by omega)]
    · have hx : bt s 0 = 224 := by omega
      have e1 : szC (bt s 0) = 9 := by unfold szC; rw [if_neg c1, if_neg c2, if_neg c3]
      have e2 : bitC (bt s 0) = 64 := by unfold bitC; rw [if_neg c1, if_neg c2, if_neg c3]
      rw [e1] at hl hz ⊢
      rw [e2] at hz ⊢
      clear e1 e2
      rw [pre_succ s 8 (by omega), pre_succ s 7 (by omega), pre_succ s 6 (by omega), pre_succ s 5 (by omega), pre_succ s 4 (by omega), pre_succ s 3 (by omega), pre_succ s 2 (by omega), pre_succ s 1 (by omega), pre_succ s 0 (by omega)]
      have b1 := bt_bd s 1
      have b2 := bt_bd s 2
      have b3 := bt_bd s 3
      have b4 := bt_bd s 4
      have b5 := bt_bd s 5
      have b6 := bt_bd s 6
      have b7 := bt_bd s 7
      have b8 := bt_bd s 8
      have hv : beV s 9 = ((((((((224 * 256 + bt s 1) * 256 + bt s 2) * 256 + bt s 3) * 256 + bt s 4) * 256 + bt s 5) * 256 + bt s 6) * 256 + bt s 7) * 256 + bt s 8) := by simp [beV, hx]
      rw [hv] at hz ⊢
      rw [hx]
      generalize bt s 1 = y1 at *
      generalize bt s 2 = y2 at *
      generalize bt s 3 = y3 at *
      generalize bt s 4 = y4 at *
      generalize bt s 5 = y5 at *
      generalize bt s 6 = y6 at *
      generalize bt s 7 = y7 at *
      generalize bt s 8 = y8 at *
      clear hv hx hl hc c1 c2 c3 h0 b0
      obtain ⟨r, hr⟩ : ∃ r, r = (((((((y1 * 256 + y2) * 256 + y3) * 256 + y4) * 256 + y5) * 256 + y6) * 256 + y7) * 256 + y8) := ⟨_, rfl⟩
      have hrb : 0 ≤ r ∧ r < 18446744073709551616 := by omega
      have hs : sgn ((((((((224 * 256 + y1) * 256 + y2) * 256 + y3) * 256 + y4) * 256 + y5) * 256 + y6) * 256 + y7) * 256 + y8) 64 = if r < 9223372036854775808 then r else r - 18446744073709551616 := by
        unfold sgn
        have : ((((((((224 * 256 + y1) * 256 + y2) * 256 + y3) * 256 + y4) * 256 + y5) * 256 + y6) * 256 + y7) * 256 + y8) % 2 ^ 64 = r := by
          show _ % 18446744073709551616 = _
          omega
        rw [this]
        rfl
      rw [hs] at hz ⊢
      clear hs
      generalize hn : (if r < 9223372036854775808 then r else r - 18446744073709551616) = n at *
      have hn' : ∃ t, n = r - 18446744073709551616 * t := by
        split at hn
        · exact ⟨0, by omega⟩
        · exact ⟨1, by omega⟩
      clear hn
      unfold szN at hz
      unfold encNum
      by_cases k1 : -64 ≤ n ∧ n ≤ 63
      · rw [if_pos k1] at hz; simp at hz
      rw [if_neg k1] at hz ⊢
      by_cases k2 : -8192 ≤ n ∧ n ≤ 8191
      · rw [if_pos k2] at hz; simp at hz
      rw [if_neg k2] at hz ⊢
      by_cases k3 : -268435456 ≤ n ∧ n ≤ 268435455
      · rw [if_pos k3] at hz; simp at hz
      rw [if_neg k3]
      clear hz k1 k2 k3
      obtain ⟨t, hn'⟩ := hn'
      show _ = (((((((([] ++ [_]) ++ [_]) ++ [_]) ++ [_]) ++ [_]) ++ [_]) ++ [_]) ++ [_]) ++ [_]
      rw [List.nil_append]
      show [_, _, _, _, _, _, _, _, _] = [_, _, _, _, _, _, _, _, _]
      rw [byteI_congr (a := n / 72057594037927936) (b := y1) (by omega), byteI_congr (a := n / 281474976710656) (b := y2) (by omega), byteI_congr (a := n / 1099511627776) (b := y3) (by omega),
        byteI_congr (a := n / 4294967296) (b := y4) (by omega), byteI_congr (a := n / 16777216) (b := y5) (by omega), byteI_congr (a := n / 65536) (b := y6) (by omega), byteI_congr (a := n / 256) (b := y7) (by omega), byteI_congr (a := n) (b := y8) (by omega)]
      rfl
  · rw [if_neg hz]; simp
end Go.Proofs.YtjjdfodjkoiedaaDoor
