/-
  Plain mathematics: decoding as the reference of layer 1 does it.
-/
import Derived.Test.YtjpnkffdpcfnjaaDoorPlain
set_option linter.unusedVariables false
namespace Go.Proofs.YtjpnkffdpcfnjaaDoor

def byteAt (s : ByteArray) (k : Nat) : Nat := (s.get! k).toNat

theorem byteAt_eq (s : ByteArray) (k : Nat) (h : k < s.size) : s[k].toNat = byteAt s k := by
  simp [byteAt, ByteArray.get!, ByteArray.getElem_eq_getElem_data, h]

theorem byteAt_lt (s : ByteArray) (k : Nat) : byteAt s k < 256 := (s.get! k).toNat_lt

/-- The value after the bytes 1 to k. -/
def cval (s : ByteArray) (b : Nat) : Nat → Nat
  | 0 => byteAt s 0 - b
  | k + 1 => 64 * cval s b k + byteAt s (k + 1) - 128

theorem cval1 (s : ByteArray) (b : Nat) : cval s b 1 = 64 * (byteAt s 0 - b) + byteAt s 1 - 128 := rfl
theorem cval2 (s : ByteArray) (b : Nat) : cval s b 2 = 64 * (64 * (byteAt s 0 - b) + byteAt s 1 - 128) + byteAt s 2 - 128 := rfl
theorem cval3 (s : ByteArray) (b : Nat) : cval s b 3 = 64 * (64 * (64 * (byteAt s 0 - b) + byteAt s 1 - 128) + byteAt s 2 - 128) + byteAt s 3 - 128 := rfl

def Conts (s : ByteArray) (n : Nat) : Prop := ∀ j, 1 ≤ j → j < n → 128 ≤ byteAt s j ∧ byteAt s j ≤ 191

theorem cval_lt (s : ByteArray) (n lo hi : Nat) (hh : hi ≤ lo + 32) (h0 : lo ≤ byteAt s 0) (h1 : byteAt s 0 < hi) (k : Nat) (hk : k ≤ 3) (hc : Conts s (k + 1)) : cval s lo k < 32 * 64 ^ k := by
  induction k with
  | zero => show byteAt s 0 - lo < 32 * 1; omega
  | succ k ih =>
    have := ih (by omega) (fun j a b => hc j a (by omega))
    have c := hc (k + 1) (by omega) (by omega)
    show 64 * cval s lo k + byteAt s (k + 1) - 128 < _
    rw [Nat.pow_succ]
    omega

theorem extract_eq (s : ByteArray) (n : Nat) (l : List UInt8) (hn : n ≤ s.size) (hl : l.length = n) (h : ∀ j (hj : j < n), (l[j]'(by omega)).toNat = byteAt s j) : (⟨l.toArray⟩ : ByteArray) = s.extract 0 n := by
  apply ByteArray.ext
  apply Array.ext
  · simp; omega
  · intro i h1 h2
    have hi : i < n := by simpa [hl] using h1
    have e := h i hi
    rw [← byteAt_eq s i (by omega)] at e
    have e2 := UInt8.toNat_inj.1 e
    simp only [List.getElem_toArray]
    rw [e2]
    simp [ByteArray.getElem_eq_getElem_data]

theorem extract_ne (s : ByteArray) (n : Nat) (l : List UInt8) (hn : n ≤ s.size) (hl : l.length ≠ n) : (⟨l.toArray⟩ : ByteArray) ≠ s.extract 0 n := by
  intro h
  have := congrArg ByteArray.size h
  have e : (⟨l.toArray⟩ : ByteArray).size = l.length := by show (List.toArray l).size = _; simp
  rw [e] at this
  simp at this
  omega

theorem dec_one (s : ByteArray) (h : byteAt s 0 < 128) : Utf8.decode s 0 = (byteAt s 0, 1) := by
  simp only [Utf8.decode, Nat.zero_add]
  rw [if_pos (by exact h)]
  rfl

theorem dec_bad (s : ByteArray) (h : (128 ≤ byteAt s 0 ∧ byteAt s 0 < 192) ∨ 248 ≤ byteAt s 0) : Utf8.decode s 0 = (65533, 1) := by
  have hb := byteAt_lt s 0
  unfold byteAt at h hb
  simp only [Utf8.decode, Nat.zero_add]
  rw [if_neg (by omega)]
  have e1 : ((s.get! 0).toNat / 32 == 6) = false := by simp; omega
  have e2 : ((s.get! 0).toNat / 16 == 14) = false := by simp; omega
  have e3 : ((s.get! 0).toNat / 8 == 30) = false := by simp; omega
  simp only [e1, e2, e3, Bool.false_and, Bool.false_eq_true, if_false]
  rfl

/-- Are all the bytes 1 .. n - 1 there, and continuations? -/
def contB (s : ByteArray) (k : Nat) : Bool := decide (k < s.size) && (byteAt s k / 64 == 2)

theorem contB_iff (s : ByteArray) (k : Nat) : contB s k = true ↔ k < s.size ∧ 128 ≤ byteAt s k ∧ byteAt s k ≤ 191 := by
  unfold contB
  simp
  omega

theorem dec_two (s : ByteArray) (h0 : 192 ≤ byteAt s 0) (h1 : byteAt s 0 < 224) :
    Utf8.decode s 0 = if contB s 1 then (if 128 ≤ (byteAt s 0 % 32) * 64 + byteAt s 1 % 64 then ((byteAt s 0 % 32) * 64 + byteAt s 1 % 64, 2) else (65533, 1)) else (65533, 1) := by
  have e1 : (byteAt s 0 / 32 == 6) = true := by simp; omega
  have e2 : (byteAt s 0 / 16 == 14) = false := by simp; omega
  have e3 : (byteAt s 0 / 8 == 30) = false := by simp; omega
  unfold byteAt at e1 e2 e3 h0 h1
  unfold contB byteAt
  simp only [Utf8.decode, Nat.zero_add]
  rw [if_neg (by omega)]
  simp only [e1, e2, e3, Bool.false_and, Bool.true_and, Bool.false_eq_true, if_false]
  rfl

theorem dec_three (s : ByteArray) (h0 : 224 ≤ byteAt s 0) (h1 : byteAt s 0 < 240) :
    Utf8.decode s 0 = if (contB s 1 && contB s 2) = true then (if 2048 ≤ (byteAt s 0 % 16) * 4096 + (byteAt s 1 % 64) * 64 + byteAt s 2 % 64 ∧ Utf8.valid (((byteAt s 0 % 16) * 4096 + (byteAt s 1 % 64) * 64 + byteAt s 2 % 64 : Nat) : Int) = true then ((byteAt s 0 % 16) * 4096 + (byteAt s 1 % 64) * 64 + byteAt s 2 % 64, 3) else (65533, 1)) else (65533, 1) := by
  have e1 : (byteAt s 0 / 32 == 6) = false := by simp; omega
  have e2 : (byteAt s 0 / 16 == 14) = true := by simp; omega
  have e3 : (byteAt s 0 / 8 == 30) = false := by simp; omega
  unfold byteAt at e1 e2 e3 h0 h1
  unfold contB byteAt
  simp only [Utf8.decode, Nat.zero_add]
  rw [if_neg (by omega)]
  simp only [e1, e2, e3, Bool.false_and, Bool.true_and, Bool.false_eq_true, if_false, Bool.and_eq_true, decide_eq_true_eq, ge_iff_le]
  rfl

theorem dec_four (s : ByteArray) (h0 : 240 ≤ byteAt s 0) (h1 : byteAt s 0 < 248) :
    Utf8.decode s 0 = if (contB s 1 && contB s 2 && contB s 3) = true then (if 65536 ≤ (byteAt s 0 % 8) * 262144 + (byteAt s 1 % 64) * 4096 + (byteAt s 2 % 64) * 64 + byteAt s 3 % 64 ∧ Utf8.valid (((byteAt s 0 % 8) * 262144 + (byteAt s 1 % 64) * 4096 + (byteAt s 2 % 64) * 64 + byteAt s 3 % 64 : Nat) : Int) = true then ((byteAt s 0 % 8) * 262144 + (byteAt s 1 % 64) * 4096 + (byteAt s 2 % 64) * 64 + byteAt s 3 % 64, 4) else (65533, 1)) else (65533, 1) := by
  have e1 : (byteAt s 0 / 32 == 6) = false := by simp; omega
  have e2 : (byteAt s 0 / 16 == 14) = false := by simp; omega
  have e3 : (byteAt s 0 / 8 == 30) = true := by simp; omega
  unfold byteAt at e1 e2 e3 h0 h1
  unfold contB byteAt
  simp only [Utf8.decode, Nat.zero_add]
  rw [if_neg (by omega)]
  simp only [e1, e2, e3, Bool.false_and, Bool.true_and, Bool.false_eq_true, if_false, Bool.and_eq_true, decide_eq_true_eq, ge_iff_le]
  rfl

theorem dec_short (s : ByteArray) (n k : Nat) (hn : (n = 2 ∧ 192 ≤ byteAt s 0 ∧ byteAt s 0 < 224) ∨ (n = 3 ∧ 224 ≤ byteAt s 0 ∧ byteAt s 0 < 240) ∨ (n = 4 ∧ 240 ≤ byteAt s 0 ∧ byteAt s 0 < 248))
    (hk : 1 ≤ k) (hkn : k < n) (hc : contB s k = false) : Utf8.decode s 0 = (65533, 1) := by
  rcases hn with ⟨rfl, h0, h1⟩ | ⟨rfl, h0, h1⟩ | ⟨rfl, h0, h1⟩
  · obtain rfl : k = 1 := by omega
    rw [dec_two s h0 h1, hc]; rfl
  · rw [dec_three s h0 h1]
    have : (contB s 1 && contB s 2) = false := by
      rcases (by omega : k = 1 ∨ k = 2) with rfl | rfl <;> simp [hc]
    rw [this]; rfl
  · rw [dec_four s h0 h1]
    have : (contB s 1 && contB s 2 && contB s 3) = false := by
      rcases (by omega : k = 1 ∨ k = 2 ∨ k = 3) with rfl | rfl | rfl <;> simp [hc]
    rw [this]; rfl

theorem contB_false (s : ByteArray) (k : Nat) (h : s.size ≤ k ∨ byteAt s k < 128 ∨ 191 < byteAt s k) : contB s k = false := by
  have := contB_iff s k
  cases hb : contB s k
  · rfl
  · rw [hb] at this
    have := this.1 rfl
    omega

def FirstEnd (s : ByteArray) (c n : Nat) : Prop :=
  (okc c = false → Utf8.decode s 0 = (65533, 1)) ∧
  (okc c = true → c < 1114112 ∧ ((⟨(enc c).toArray⟩ = s.extract 0 n ∧ Utf8.decode s 0 = (c, n)) ∨ (⟨(enc c).toArray⟩ ≠ s.extract 0 n ∧ Utf8.decode s 0 = (65533, 1))))

theorem valid_okc (c : Nat) : Utf8.valid (c : Int) = okc (c : Int) := by
  rw [Bool.eq_iff_iff]
  unfold Utf8.valid okc
  simp
  omega

theorem okc_iff (c : Nat) : okc (c : Int) = true ↔ c ≤ 1114111 ∧ (c < 55296 ∨ 57343 < c) := by
  unfold okc
  simp
  omega

theorem end_two (s : ByteArray) (h0 : 192 ≤ byteAt s 0) (h1 : byteAt s 0 < 224) (hs : 2 ≤ s.size) (hc : Conts s 2) : FirstEnd s (cval s 192 1) 2 := by
  have c1 := hc 1 (by omega) (by omega)
  have hcv : cval s 192 1 = (byteAt s 0 % 32) * 64 + byteAt s 1 % 64 := by rw [cval1]; omega
  have hd := dec_two s h0 h1
  rw [(contB_iff s 1).2 ⟨by omega, c1⟩, if_pos rfl, ← hcv] at hd
  have hok := okc_iff (cval s 192 1)
  have hb : cval s 192 1 = (byteAt s 0 - 192) * 64 + byteAt s 1 - 128 := by rw [cval1]; omega
  generalize cval s 192 1 = c at *
  refine ⟨fun h => ?_, fun h => ⟨by omega, ?_⟩⟩
  · rw [h] at hok
    have := hok.2 (by omega)
    cases this
  · by_cases h2 : 128 ≤ c
    · left
      rw [if_pos h2] at hd
      refine ⟨?_, hd⟩
      have e : enc c = [UInt8.ofNat (192 + c / 64), UInt8.ofNat (128 + c % 64)] := by unfold enc; rw [if_neg (by omega), if_pos (by omega)]
      rw [e]
      refine extract_eq s 2 _ hs rfl fun j hj => ?_
      rcases (by omega : j = 0 ∨ j = 1) with rfl | rfl <;> simp <;> omega
    · right
      rw [if_neg h2] at hd
      refine ⟨extract_ne s 2 _ hs ?_, hd⟩
      have e : enc c = [UInt8.ofNat c] := by unfold enc; rw [if_pos (by omega)]
      rw [e]
      simp

theorem end_three (s : ByteArray) (h0 : 224 ≤ byteAt s 0) (h1 : byteAt s 0 < 240) (hs : 3 ≤ s.size) (hc : Conts s 3) : FirstEnd s (cval s 224 2) 3 := by
  have c1 := hc 1 (by omega) (by omega)
  have c2 := hc 2 (by omega) (by omega)
  have hcv : cval s 224 2 = (byteAt s 0 % 16) * 4096 + (byteAt s 1 % 64) * 64 + byteAt s 2 % 64 := by rw [cval2]; omega
  have hd := dec_three s h0 h1
  rw [(contB_iff s 1).2 ⟨by omega, c1⟩, (contB_iff s 2).2 ⟨by omega, c2⟩, show (true && true) = true from rfl, if_pos rfl, ← hcv, valid_okc] at hd
  have hok := okc_iff (cval s 224 2)
  have hb : cval s 224 2 = ((byteAt s 0 - 224) * 64 + byteAt s 1 - 128) * 64 + byteAt s 2 - 128 := by rw [cval2]; omega
  generalize cval s 224 2 = c at *
  refine ⟨fun h => ?_, fun h => ⟨by omega, ?_⟩⟩
  · rw [if_neg (by rw [h]; simp)] at hd
    exact hd
  · by_cases h2 : 2048 ≤ c
    · left
      rw [if_pos ⟨h2, h⟩] at hd
      refine ⟨?_, hd⟩
      have e : enc c = [UInt8.ofNat (224 + c / 4096), UInt8.ofNat (128 + c / 64 % 64), UInt8.ofNat (128 + c % 64)] := by unfold enc; rw [if_neg (by omega), if_neg (by omega), if_pos (by omega)]
      rw [e]
      refine extract_eq s 3 _ hs rfl fun j hj => ?_
      rcases (by omega : j = 0 ∨ j = 1 ∨ j = 2) with rfl | rfl | rfl <;> simp <;> omega
    · right
      rw [if_neg (by omega)] at hd
      refine ⟨extract_ne s 3 _ hs ?_, hd⟩
      unfold enc
      split
      · simp
      · rw [if_pos (by omega)]; simp

theorem end_four (s : ByteArray) (h0 : 240 ≤ byteAt s 0) (h1 : byteAt s 0 < 248) (hs : 4 ≤ s.size) (hc : Conts s 4) : FirstEnd s (cval s 240 3) 4 := by
  have c1 := hc 1 (by omega) (by omega)
  have c2 := hc 2 (by omega) (by omega)
  have c3 := hc 3 (by omega) (by omega)
  have hcv : cval s 240 3 = (byteAt s 0 % 8) * 262144 + (byteAt s 1 % 64) * 4096 + (byteAt s 2 % 64) * 64 + byteAt s 3 % 64 := by rw [cval3]; omega
  have hd := dec_four s h0 h1
  rw [(contB_iff s 1).2 ⟨by omega, c1⟩, (contB_iff s 2).2 ⟨by omega, c2⟩, (contB_iff s 3).2 ⟨by omega, c3⟩, show (true && true && true) = true from rfl, if_pos rfl, ← hcv, valid_okc] at hd
  have hok := okc_iff (cval s 240 3)
  have hb : cval s 240 3 = (((byteAt s 0 - 240) * 64 + byteAt s 1 - 128) * 64 + byteAt s 2 - 128) * 64 + byteAt s 3 - 128 := by rw [cval3]; omega
  generalize cval s 240 3 = c at *
  refine ⟨fun h => ?_, fun h => ⟨by have := hok.1 h; omega, ?_⟩⟩
  · rw [if_neg (by rw [h]; simp)] at hd
    exact hd
  · have hu := hok.1 h
    by_cases h2 : 65536 ≤ c
    · left
      rw [if_pos ⟨h2, h⟩] at hd
      refine ⟨?_, hd⟩
      have e : enc c = [UInt8.ofNat (240 + c / 262144), UInt8.ofNat (128 + c / 4096 % 64), UInt8.ofNat (128 + c / 64 % 64), UInt8.ofNat (128 + c % 64)] := by unfold enc; rw [if_neg (by omega), if_neg (by omega), if_neg (by omega)]
      rw [e]
      refine extract_eq s 4 _ hs rfl fun j hj => ?_
      rcases (by omega : j = 0 ∨ j = 1 ∨ j = 2 ∨ j = 3) with rfl | rfl | rfl | rfl <;> simp <;> omega
    · right
      rw [if_neg (by omega)] at hd
      refine ⟨extract_ne s 4 _ hs ?_, hd⟩
      unfold enc
      split
      · simp
      · split
        · simp
        · rw [if_pos (by omega)]; simp
end Go.Proofs.YtjpnkffdpcfnjaaDoor
