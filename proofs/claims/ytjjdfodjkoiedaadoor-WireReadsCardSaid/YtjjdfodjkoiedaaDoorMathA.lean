/-
  Plain mathematics: what is written is read back, whatever follows.
-/
import Derived.Test.YtjjdfodjkoiedaaDoorMathB2
import Derived.Test.YtjjdfodjkoiedaaDoorWMath3
set_option linter.unusedVariables false
namespace Go.Proofs.YtjjdfodjkoiedaaDoor
open Go

def mk (L : List UInt8) : ByteArray := ⟨L.toArray⟩
theorem mk_size (L : List UInt8) : (mk L).size = L.length := by show L.toArray.size = _; simp
theorem bt_zero (a : UInt8) (L : List UInt8) : bt (mk (a :: L)) 0 = (a.toNat : Int) := by
  rw [bt_in _ 0 (by rw [mk_size]; simp)]; rfl
theorem bt_get (L : List UInt8) (i : Nat) (h : i < L.length) : bt (mk L) i = (L[i].toNat : Int) := by
  rw [bt_in _ i (by rw [mk_size]; exact h)]
  rfl
theorem bt_succ (a : UInt8) (L : List UInt8) (i : Nat) : bt (mk (a :: L)) (i + 1) = bt (mk L) i := by
  unfold bt
  by_cases h : i < L.length
  · rw [dif_pos (by rw [mk_size]; simp; exact h), dif_pos (by rw [mk_size]; exact h)]; rfl
  · rw [dif_neg (by rw [mk_size]; simp; omega), dif_neg (by rw [mk_size]; exact h)]

theorem sgn_of (u n : Int) (b : Nat) (hb : 0 < b) (hm : u % 2 ^ b = n % 2 ^ b) (h0 : -(2 ^ (b - 1)) ≤ n) (h1 : n < 2 ^ (b - 1)) : sgn u b = n := by
  rw [sgn_congr hm]
  exact (sgn_id n b hb).2 ⟨h0, h1⟩

theorem numA_of (s : ByteArray) (n c u : Int) (k b : Nat) (hc : bt s 0 = c) (hcl : c ≤ 224) (hk : szC c = k) (hb : bitC c = b) (hu : beV s k = u) (hsz : k ≤ s.size) (hk0 : 0 < k) (hs : sgn u b = n) (hz : szN n = k) : numR s = (n, (k : Int), 0) := by
  unfold numR
  rw [if_neg (by omega), hc, if_neg (by omega), hk, if_neg (by omega), hb, hu, hs, if_pos hz]

theorem numA (n : Int) (hn : I64 n) (t : List UInt8) : numR (mk (encNum n ++ t)) = (n, ((encNum n).length : Int), 0) := by
  have hl := encNum_len n
  rw [hl]
  clear hl
  unfold I64 at hn
  unfold encNum szN
  by_cases h1 : -64 ≤ n ∧ n ≤ 63
  · rw [if_pos h1, if_pos h1]
    have b0 : bt (mk ([byteI (n % 128)] ++ t)) 0 = n % 128 := by
      show bt (mk (_ :: _)) 0 = _
      rw [bt_zero, byteI_nat]; omega
    refine numA_of _ n (n % 128) (n % 128) 1 7 b0 (by omega) (by unfold szC; rw [if_pos (by omega)]) (by unfold bitC; rw [if_pos (by omega)]) (by simp only [beV, b0]; omega) (by rw [mk_size]; simp) (by omega) ?_ (by unfold szN; rw [if_pos h1]; rfl)
    exact sgn_of _ _ 7 (by omega) (by omega) (by omega) (by omega)
  rw [if_neg h1, if_neg h1]
  by_cases h2 : -8192 ≤ n ∧ n ≤ 8191
  · rw [if_pos h2, if_pos h2]
    have b0 : bt (mk ([byteI (128 + n / 256 % 64), byteI n] ++ t)) 0 = 128 + n / 256 % 64 := by
      show bt (mk (_ :: _)) 0 = _
      rw [bt_zero, byteI_nat]; omega
    have b1 : bt (mk ([byteI (128 + n / 256 % 64), byteI n] ++ t)) 1 = n % 256 := by
      show bt (mk (_ :: _ :: _)) (0 + 1) = _
      rw [bt_succ, bt_zero, byteI_nat]
    refine numA_of _ n (128 + n / 256 % 64) ((128 + n / 256 % 64) * 256 + n % 256) 2 14 b0 (by omega) (by unfold szC; rw [if_neg (by omega), if_pos (by omega)]) (by unfold bitC; rw [if_neg (by omega), if_pos (by omega)]) (by simp only [beV, b0, b1]; omega) (by rw [mk_size]; simp) (by omega) ?_ (by unfold szN; rw [if_neg h1, if_pos h2]; rfl)
    exact sgn_of _ _ 14 (by omega) (by omega) (by omega) (by omega)
  rw [if_neg h2, if_neg h2]
  by_cases h3 : -268435456 ≤ n ∧ n ≤ 268435455
  · rw [if_pos h3, if_pos h3]
    generalize hs : mk ([byteI (192 + n / 16777216 % 32), byteI (n / 65536), byteI (n / 256), byteI n] ++ t) = s
    have hsz : 4 ≤ s.size := by rw [← hs, mk_size]; simp
    have b0 : bt s 0 = 192 + n / 16777216 % 32 := by
      rw [← hs]
      show bt (mk (_ :: _)) 0 = _
      rw [bt_zero, byteI_nat]; omega
    have b1 : bt s 1 = n / 65536 % 256 := by
      rw [← hs]
      show bt (mk (_ :: _ :: _)) (0 + 1) = _
      rw [bt_succ, bt_zero, byteI_nat]
    have b2 : bt s 2 = n / 256 % 256 := by
      rw [← hs]
      show bt (mk (_ :: _ :: _ :: _)) (0 + 1 + 1) = _
      rw [bt_succ, bt_succ, bt_zero, byteI_nat]
    have b3 : bt s 3 = n % 256 := by
      rw [← hs]
      show bt (mk (_ :: _ :: _ :: _ :: _)) (0 + 1 + 1 + 1) = _
      rw [bt_succ, bt_succ, bt_succ, bt_zero, byteI_nat]
    refine numA_of _ n (192 + n / 16777216 % 32) ((((192 + n / 16777216 % 32) * 256 + n / 65536 % 256) * 256 + n / 256 % 256) * 256 + n % 256) 4 29 b0 (by omega) (by unfold szC; rw [if_neg (by omega), if_neg (by omega), if_pos (by omega)]) (by unfold bitC; rw [if_neg (by omega), if_neg (by omega), if_pos (by omega)]) (by simp [beV, b0, b1, b2, b3]) hsz (by omega) ?_ (by unfold szN; rw [if_neg h1, if_neg h2, if_pos h3]; rfl)
    exact sgn_of _ _ 29 (by omega) (by omega) (by omega) (by omega)
  · rw [if_neg h3, if_neg h3]
    generalize hs : mk ([224, byteI (n / 72057594037927936), byteI (n / 281474976710656), byteI (n / 1099511627776), byteI (n / 4294967296), byteI (n / 16777216), byteI (n / 65536), byteI (n / 256), byteI n] ++ t) = s
    have hsz : 9 ≤ s.size := by rw [← hs, mk_size]; simp
    have b0 : bt s 0 = 224 := by rw [← hs]; show bt (mk (_ :: _)) 0 = _; rw [bt_zero]; rfl
    have b1 : bt s 1 = n / 72057594037927936 % 256 := by rw [← hs]; show bt (mk (_ :: _ :: _)) (0 + 1) = _; rw [bt_succ, bt_zero, byteI_nat]
    have b2 : bt s 2 = n / 281474976710656 % 256 := by rw [← hs]; show bt (mk (_ :: _ :: _ :: _)) (0 + 1 + 1) = _; rw [bt_succ, bt_succ, bt_zero, byteI_nat]
    have b3 : bt s 3 = n / 1099511627776 % 256 := by rw [← hs]; show bt (mk (_ :: _ :: _ :: _ :: _)) (0 + 1 + 1 + 1) = _; rw [bt_succ, bt_succ, bt_succ, bt_zero, byteI_nat]
    have b4 : bt s 4 = n / 4294967296 % 256 := by rw [← hs]; show bt (mk (_ :: _ :: _ :: _ :: _ :: _)) (0 + 1 + 1 + 1 + 1) = _; rw [bt_succ, bt_succ, bt_succ, bt_succ, bt_zero, byteI_nat]
    have b5 : bt s 5 = n / 16777216 % 256 := by rw [← hs]; show bt (mk (_ :: _ :: _ :: _ :: _ :: _ :: _)) (0 + 1 + 1 + 1 + 1 + 1) = _; rw [bt_succ, bt_succ, bt_succ, bt_succ, bt_succ, bt_zero, byteI_nat]
    have b6 : bt s 6 = n / 65536 % 256 := by rw [← hs]; show bt (mk (_ :: _ :: _ :: _ :: _ :: _ :: _ :: _)) (0 + 1 + 1 + 1 + 1 + 1 + 1) = _; rw [bt_succ, bt_succ, bt_succ, bt_succ, bt_succ, bt_succ, bt_zero, byteI_nat]
    have b7 : bt s 7 = n / 256 % 256 := by rw [← hs]; show bt (mk (_ :: _ :: _ :: _ :: _ :: _ :: _ :: _ :: _)) (0 + 1 + 1 + 1 + 1 + 1 + 1 + 1) = _; rw [bt_succ, bt_succ, bt_succ, bt_succ, bt_succ, bt_succ, bt_succ, bt_zero, byteI_nat]
    have b8 : bt s 8 = n % 256 := by rw [← hs]; show bt (mk (_ :: _ :: _ :: _ :: _ :: _ :: _ :: _ :: _ :: _)) (0 + 1 + 1 + 1 + 1 + 1 + 1 + 1 + 1) = _; rw [bt_succ, bt_succ, bt_succ, bt_succ, bt_succ, bt_succ, bt_succ, bt_succ, bt_zero, byteI_nat]
    refine numA_of _ n 224 (224 * 18446744073709551616 + n % 18446744073709551616) 9 64 b0 (by omega) (by decide) (by decide) ?_ hsz (by omega) ?_ (by unfold szN; rw [if_neg h1, if_neg h2, if_neg h3]; rfl)
    · have hv : beV s 9 = ((((((((224 * 256 + bt s 1) * 256 + bt s 2) * 256 + bt s 3) * 256 + bt s 4) * 256 + bt s 5) * 256 + bt s 6) * 256 + bt s 7) * 256 + bt s 8) := by simp [beV, b0]
      rw [hv, b1, b2, b3, b4, b5, b6, b7, b8]
      clear hv b0 b1 b2 b3 b4 b5 b6 b7 b8 hs hsz h1 h2 h3 hn
      have g1 : n / 256 = (n / 256 / 256) * 256 + n / 256 % 256 := by omega
      have e2 : n / 65536 = n / 256 / 256 := by omega
      have e3 : n / 16777216 = n / 256 / 256 / 256 := by omega
      have e4 : n / 4294967296 = n / 256 / 256 / 256 / 256 := by omega
      have e5 : n / 1099511627776 = n / 256 / 256 / 256 / 256 / 256 := by omega
      have e6 : n / 281474976710656 = n / 256 / 256 / 256 / 256 / 256 / 256 := by omega
      have e7 : n / 72057594037927936 = n / 256 / 256 / 256 / 256 / 256 / 256 / 256 := by omega
      omega
    · exact sgn_of _ _ 64 (by omega) (by show _ % 18446744073709551616 = _ % 18446744073709551616; omega) (by show -9223372036854775808 ≤ n; omega) (by show n < 9223372036854775808; omega)

theorem cntA (n m : Int) (hn : I64 n) (h0 : 0 ≤ n) (h1 : n ≤ m) (t : List UInt8) : cntR (mk (encNum n ++ t)) m = (n, ((encNum n).length : Int), 0) := by
  unfold cntR
  rw [numA n hn t]
  simp only [if_true]
  rw [if_neg (by omega), if_neg (by omega)]

theorem leA (n : Int) (k : Nat) : ∀ t : List UInt8, leV (mk (encLE n k ++ t)) k = n % 256 ^ k := by
  induction k with
  | zero => intro t; simp [leV]
  | succ k ih =>
    intro t
    have hb : bt (mk (encLE n (k + 1) ++ t)) k = n / 256 ^ k % 256 := by
      rw [bt_get _ k (by simp [encLE_len]; omega)]
      have hk : (encLE n k).length = k := encLE_len n k
      have : (encLE n (k + 1) ++ t)[k]'(by simp [encLE_len]; omega) = byteI (n / 2 ^ (8 * k)) := by
        simp only [encLE]
        rw [List.getElem_append_left (by simp [encLE_len]), List.getElem_append_right (by simp [encLE_len])]
        simp [encLE_len]
      rw [this, byteI_nat, p256]
    simp only [leV]
    rw [hb]
    have e : encLE n (k + 1) ++ t = encLE n k ++ ([byteI (n / 2 ^ (8 * k))] ++ t) := by simp [encLE]
    rw [e, ih, Int.pow_succ]
    have hp := pow_pos' k
    generalize (256 : Int) ^ k = q at *
    have h1 := Int.emod_add_mul_ediv n q
    have h2 := Int.emod_add_mul_ediv (n / q) 256
    have h3 := Int.emod_add_mul_ediv n (q * 256)
    have h4 : n / (q * 256) = n / q / 256 := by rw [Int.ediv_ediv_of_nonneg (by omega)]
    rw [h4] at h3
    have h5 : q * 256 * (n / q / 256) = q * (256 * (n / q / 256)) := Int.mul_assoc _ _ _
    have h6 : n / q % 256 * q = q * (n / q) - q * (256 * (n / q / 256)) := by
      rw [← Int.mul_sub, Int.mul_comm]; congr 1; omega
    omega

theorem litA (n z : Int) (hn : I64 n) (h : (litS n z).1 = 0) (t : List UInt8) : litR (mk ((litS n z).2 ++ t)) z = (n, ((litS n z).2.length : Int), 0) := by
  revert h
  unfold litS
  cases hz : isSz z
  · simp
  simp only [if_true]
  obtain ⟨k, rfl, hk⟩ := isSz_cases hz
  simp only [Int.toNat_natCast]
  split
  · rename_i hr
    intro _
    simp only
    have hl := leA n k t
    rw [p256] at hr
    rw [Int.emod_eq_of_lt hr.1 hr.2] at hl
    have hw : lowS (mk (encLE n k ++ t)) (k : Int) = (n, 0) := by
      unfold lowS
      rw [if_pos hz, if_neg (by rw [mk_size, List.length_append, encLE_len]; omega), Int.toNat_natCast, hl]
    unfold litR
    rw [hw]
    simp only [if_true]
    unfold I64 at hn
    rw [if_neg (by omega), encLE_len]
  · simp

theorem sigA (n z : Int) (hn : I64 n) (h : (sigS n z).1 = 0) (t : List UInt8) : sigR (mk ((sigS n z).2 ++ t)) z = (n, ((sigS n z).2.length : Int), 0) := by
  revert h
  unfold sigS
  cases hz : isSz z
  · simp
  simp only [if_true]
  obtain ⟨k, rfl, hk⟩ := isSz_cases hz
  simp only [Int.toNat_natCast]
  split
  · rename_i hr
    intro _
    simp only
    have hl := leA n k t
    have hw : lowS (mk (encLE n k ++ t)) (k : Int) = (n % 256 ^ k, 0) := by
      unfold lowS
      rw [if_pos hz, if_neg (by rw [mk_size, List.length_append, encLE_len]; omega), Int.toNat_natCast, hl]
    unfold sigR
    rw [hw]
    simp only [if_true, Int.toNat_natCast]
    rw [encLE_len, ← p256]
    have : sgn (n % 2 ^ (8 * k)) (8 * k) = n := by
      rw [sgn_congr (v := n) (by rw [Int.emod_emod_of_dvd _ (Int.dvd_refl _)])]; exact hr
    rw [this]
  · simp

theorem ext_mk (A B C : List UInt8) (a b : Nat) (ha : a = A.length) (hb : b = A.length + B.length) : (mk (A ++ (B ++ C))).extract a b = mk B := by
  subst ha hb
  apply ByteArray.ext
  apply Array.toList_inj.1
  rw [ByteArray.data_extract, Array.toList_extract, List.extract_eq_take_drop]
  simp [mk]
theorem mk_data (s : ByteArray) : mk s.data.toList = s := by apply ByteArray.ext; simp [mk]
theorem data_len (s : ByteArray) : s.data.toList.length = s.size := by rw [Array.length_toList]; rfl

theorem strA (s : ByteArray) (hs : s.size ≤ 1048576) (t : List UInt8) : strR (mk (strS s ++ t)) (s.size : Int) = (s, ((strS s).length : Int), 0) := by
  have hc := cntA (s.size : Int) (min (s.size : Int) 1048576) (by unfold I64; omega) (by omega) (by omega) (s.data.toList ++ t)
  unfold strR strS
  rw [List.append_assoc, hc]
  simp only [if_true]
  rw [if_neg (by rw [mk_size, List.length_append, List.length_append, data_len]; omega)]
  rw [ext_mk _ _ _ _ _ (by omega) (by rw [data_len]; omega), mk_data, List.length_append, data_len]
  simp

theorem rawA (s : ByteArray) (t : List UInt8) : rawR (mk (s.data.toList ++ t)) (s.size : Int) = (s, (s.data.toList.length : Int), 0) := by
  unfold rawR
  rw [if_neg (by omega), if_neg (by rw [mk_size, List.length_append, data_len]; omega)]
  have := ext_mk [] s.data.toList t 0 s.size rfl (by rw [data_len]; simp)
  rw [List.nil_append] at this
  rw [Int.toNat_natCast, this, mk_data, data_len]

set_option maxRecDepth 1000000 in
theorem bit_add (k x r : Nat) (b : Bool) (hk : k < 8) (hx : x < 256) (hr : r ≤ k) (h : x % 2 ^ (8 - k) = 0) : bitB ((x + (if b then 2 ^ (7 - k) else 0) : Nat) : Int) r = if r = k then b else bitB (x : Int) r := by
  have key : ∀ k : Fin 8, ∀ r : Fin 8, ∀ b : Bool, ∀ x : Fin 256, r.val ≤ k.val → x.val % 2 ^ (8 - k.val) = 0 → bitB ((x.val + (if b then 2 ^ (7 - k.val) else 0) : Nat) : Int) r.val = if r.val = k.val then b else bitB (x.val : Int) r.val := by decide +kernel
  exact key ⟨k, hk⟩ ⟨r, by omega⟩ b ⟨x, hx⟩ hr h

theorem byteP_bit (l : List Bool) (j k r : Nat) (hk : k ≤ 8) (hr : r < k) : bitB (byteP l j k : Int) r = l.getD (8 * j + r) false := by
  induction k with
  | zero => omega
  | succ k ih =>
    have hm := byteP_mod l j k (by omega)
    have h2 : 0 < 2 ^ (8 - k) := Nat.pos_of_ne_zero (by simp)
    rw [byteP, bit_add k _ r _ (by omega) (by omega) (by omega) hm.1]
    by_cases e : r = k
    · rw [if_pos e, e]
    · rw [if_neg e, ih (by omega) (by omega)]

theorem bits_bt (l : List Bool) (A t : List UInt8) (j : Nat) (hj : j < (l.length + 7) / 8) : bt (mk (A ++ (bitsB l ++ t))) (A.length + j) = (stB l l.length j : Int) := by
  have hb := bitsB_len l
  rw [bt_get _ _ (by simp; omega)]
  have e : (A ++ (bitsB l ++ t))[A.length + j]'(by simp; omega) = UInt8.ofNat (stB l l.length j) := by
    rw [List.getElem_append_right (by omega), List.getElem_append_left (by omega)]
    simp [bitsB]
  rw [e]
  have := stB_lt l l.length j
  simp
  omega

theorem bitL_of (l : List Bool) (A t : List UInt8) : bitL (mk (A ++ (bitsB l ++ t))) A.length l.length = l := by
  apply List.ext_getElem
  · simp [bitL]
  intro i h1 h2
  simp only [bitL, List.getElem_map, List.getElem_range]
  rw [bits_bt l A t (i / 8) (by omega)]
  have hg : l[i] = l.getD i false := by rw [List.getD_eq_getElem?_getD, List.getElem?_eq_getElem h2]; rfl
  rw [hg]
  unfold stB
  by_cases hj : i / 8 < l.length / 8
  · rw [if_pos hj, byteP_bit l _ 8 _ (by omega) (by omega)]
    congr 1; omega
  · rw [if_neg hj, if_pos (by omega), byteP_bit l _ _ _ (by omega) (by omega)]
    congr 1; omega

theorem bits_tail0 (l : List Bool) (A t : List UInt8) (h : 0 < l.length % 8) : bt (mk (A ++ (bitsB l ++ t))) (A.length + (l.length + 7) / 8 - 1) * 2 ^ (l.length % 8) % 256 = 0 := by
  rw [show A.length + (l.length + 7) / 8 - 1 = A.length + l.length / 8 by omega, bits_bt l A t _ (by omega), stB_cur]
  have hm := (byteP_mod l (l.length / 8) (l.length % 8) (by omega)).1
  have : ((byteP l (l.length / 8) (l.length % 8) * 2 ^ (l.length % 8) % 256 : Nat) : Int) = 0 := by
    have hk : l.length % 8 = 1 ∨ l.length % 8 = 2 ∨ l.length % 8 = 3 ∨ l.length % 8 = 4 ∨ l.length % 8 = 5 ∨ l.length % 8 = 6 ∨ l.length % 8 = 7 := by omega
    generalize byteP l (l.length / 8) (l.length % 8) = x at *
    generalize l.length % 8 = r at *
    rcases hk with rfl | rfl | rfl | rfl | rfl | rfl | rfl <;> simp at hm ⊢ <;> omega
  rw [Int.natCast_emod, Int.natCast_mul, Int.natCast_pow] at this
  exact this

theorem bitA (l : List Bool) (hs : l.length ≤ 65536) (t : List UInt8) : bitR (mk (bitS l ++ t)) (l.length : Int) = (l, ((bitS l).length : Int), 0) := by
  have hc := cntA (l.length : Int) (min (l.length : Int) 65536) (by unfold I64; omega) (by omega) (by omega) (bitsB l ++ t)
  have hb := bitsB_len l
  have ht := bits_tail0 l (encNum (l.length : Int)) t
  have hL := bitL_of l (encNum (l.length : Int)) t
  unfold bitR bitS
  rw [List.append_assoc, hc]
  simp only [if_true]
  have e1 : (((encNum (l.length : Int)).length : Int) + ((l.length : Int) + 7) / 8 - 1).toNat = (encNum (l.length : Int)).length + (l.length + 7) / 8 - 1 := by omega
  have e2 : ((l.length : Int) % 8).toNat = l.length % 8 := by omega
  have e3 : (0 < (l.length : Int) % 8) ↔ 0 < l.length % 8 := by omega
  rw [if_neg (by rw [mk_size, List.length_append, List.length_append]; omega), e1, e2]
  rw [if_neg (fun h => h.2 (ht (e3.1 h.1)))]
  simp only [Int.toNat_natCast]
  rw [hL, List.length_append, hb]
  simp
end Go.Proofs.YtjjdfodjkoiedaaDoor
