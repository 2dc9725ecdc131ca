/-
  Plain mathematics of the encodings: no program is named here.
-/
import Derived.WalkKit
set_option linter.unusedVariables false
namespace Go.Proofs.YtjjdfodjkoiedaaDoor

/-- The byte of a number that is taken modulo 256. -/
def byteI (z : Int) : UInt8 := UInt8.ofNat (z % 256).toNat
theorem byteI_nat (z : Int) : ((byteI z).toNat : Int) = z % 256 := by
  unfold byteI
  simp
  omega
theorem byteI_toNat (b : UInt8) : byteI (b.toNat : Int) = b := by
  have := b.toNat_lt
  apply UInt8.toNat_inj.1
  have h := byteI_nat (b.toNat : Int)
  omega
theorem byteI_congr {a b : Int} (h : a % 256 = b % 256) : byteI a = byteI b := by unfold byteI; rw [h]

/-- Byte i of a string, 0 where there is none. -/
def bt (s : ByteArray) (i : Nat) : Int := if h : i < s.size then (s[i].toNat : Int) else 0
theorem bt_in (s : ByteArray) (i : Nat) (h : i < s.size) : bt s i = (s[i].toNat : Int) := by unfold bt; rw [dif_pos h]
theorem bt_bd (s : ByteArray) (i : Nat) : 0 ≤ bt s i ∧ bt s i < 256 := by
  unfold bt
  split
  · have := s[i].toNat_lt; omega
  · omega

def leV (s : ByteArray) : Nat → Int
  | 0 => 0
  | k + 1 => leV s k + bt s k * 256 ^ k
def beV (s : ByteArray) : Nat → Int
  | 0 => 0
  | k + 1 => beV s k * 256 + bt s k

theorem pow_pos' (k : Nat) : (0 : Int) < 256 ^ k := Int.pow_pos (by omega)
theorem leV_bd (s : ByteArray) (k : Nat) : 0 ≤ leV s k ∧ leV s k < 256 ^ k := by
  induction k with
  | zero => simp [leV]
  | succ k ih =>
    have hb := bt_bd s k
    have hp := pow_pos' k
    simp only [leV, Int.pow_succ]
    have h1 : 0 ≤ bt s k * 256 ^ k := Int.mul_nonneg hb.1 (by omega)
    have h2 : bt s k * 256 ^ k ≤ 255 * 256 ^ k := Int.mul_le_mul_of_nonneg_right (by omega) (by omega)
    omega
theorem beV_bd (s : ByteArray) (k : Nat) : 0 ≤ beV s k ∧ beV s k < 256 ^ k := by
  induction k with
  | zero => simp [beV]
  | succ k ih =>
    have hb := bt_bd s k
    simp only [beV, Int.pow_succ]
    omega

/-- The number in two's complement of the lowest b bits. -/
def sgn (u : Int) (b : Nat) : Int := if u % 2 ^ b < 2 ^ (b - 1) then u % 2 ^ b else u % 2 ^ b - 2 ^ b

theorem pow_split (b : Nat) (h : 0 < b) : (2 : Int) ^ b = 2 * 2 ^ (b - 1) := by
  obtain ⟨c, rfl⟩ : ∃ c, b = c + 1 := ⟨b - 1, by omega⟩
  rw [Int.pow_succ]
  simp
  omega

theorem sgn_id (n : Int) (b : Nat) (hb : 0 < b) : sgn n b = n ↔ -(2 ^ (b - 1)) ≤ n ∧ n < 2 ^ (b - 1) := by
  have hp := pow_split b hb
  have hpos : (0 : Int) < 2 ^ (b - 1) := Int.pow_pos (by omega)
  unfold sgn
  generalize (2 : Int) ^ (b - 1) = q at *
  rw [hp]
  have h0 := Int.emod_nonneg n (show (2 * q) ≠ 0 by omega)
  have h1 := Int.emod_lt_of_pos n (show 0 < 2 * q by omega)
  have h2 := Int.emod_add_mul_ediv n (2 * q)
  constructor
  · intro h
    split at h
    · omega
    · omega
  · rintro ⟨hl, hr⟩
    by_cases hn : 0 ≤ n
    · have : n % (2 * q) = n := Int.emod_eq_of_lt hn (by omega)
      rw [this, if_pos (by omega)]
    · have : n % (2 * q) = n + 2 * q := by
        rw [← Int.add_emod_right]
        exact Int.emod_eq_of_lt (by omega) (by omega)
      rw [this, if_neg (by omega)]
      omega

/-- What the walk computes: shifted up in 64 bits, read as signed, shifted down. -/
theorem sgn_shift (u : Int) (b : Nat) (hb : 0 < b) (hb2 : b ≤ 64) (w : Int) (hw : w % 18446744073709551616 = (u * 2 ^ (64 - b)) % 18446744073709551616)
    (h1 : -9223372036854775808 ≤ w) (h2 : w < 9223372036854775808) : w / 2 ^ (64 - b) = sgn u b := by
  have hM : (18446744073709551616 : Int) = 2 ^ b * 2 ^ (64 - b) := by
    rw [← Int.pow_add, show b + (64 - b) = 64 by omega]; rfl
  have hp := pow_split b hb
  have hpos : (0 : Int) < 2 ^ (b - 1) := Int.pow_pos (by omega)
  have hMp : (0 : Int) < 2 ^ (64 - b) := Int.pow_pos (by omega)
  unfold sgn
  generalize (2 : Int) ^ (b - 1) = q at *
  rw [hp] at hM ⊢
  generalize (2 : Int) ^ (64 - b) = M at *
  have e : (u * M) % (2 * q * M) = (u % (2 * q)) * M := by rw [Int.mul_comm u M, Int.mul_comm (2 * q) M, Int.mul_emod_mul_of_pos _ _ hMp, Int.mul_comm]
  rw [hM, e] at hw
  have g0 := Int.emod_nonneg u (show (2 * q) ≠ 0 by omega)
  have g1 := Int.emod_lt_of_pos u (show 0 < 2 * q by omega)
  generalize u % (2 * q) = m at *
  have hM2 : (9223372036854775808 : Int) = q * M := by
    have : 2 * (q * M) = 2 * 9223372036854775808 := by rw [← Int.mul_assoc, ← hM]; rfl
    omega
  have d := Int.emod_add_mul_ediv w (2 * q * M)
  rw [hw] at d
  by_cases hm : m < q
  · rw [if_pos hm]
    have h3 : m * M < q * M := Int.mul_lt_mul_of_pos_right hm hMp
    have h4 : 0 ≤ m * M := Int.mul_nonneg g0 (by omega)
    have : w = m * M := by
      have h5 : 2 * q * M = 18446744073709551616 := hM.symm
      rw [h5] at d
      generalize w / 18446744073709551616 = z at *
      generalize m * M = y at *
      generalize q * M = x at *
      omega
    rw [this, Int.mul_ediv_cancel _ (by omega)]
  · rw [if_neg hm]
    have h3 : q * M ≤ m * M := Int.mul_le_mul_of_nonneg_right (by omega) (by omega)
    have h4 : m * M < 2 * q * M := Int.mul_lt_mul_of_pos_right g1 hMp
    have : w = (m - 2 * q) * M := by
      have h5 : 2 * q * M = 18446744073709551616 := hM.symm
      rw [Int.sub_mul, h5]
      rw [h5] at d h4
      generalize w / 18446744073709551616 = z at *
      generalize m * M = y at *
      generalize q * M = x at *
      omega
    rw [this, Int.mul_ediv_cancel _ (by omega)]

def isSz (n : Int) : Bool := decide (n = 1 ∨ n = 2 ∨ n = 4 ∨ n = 8)

/-- The form of an operand number. -/
def szN (n : Int) : Int := if -64 ≤ n ∧ n ≤ 63 then 1 else if -8192 ≤ n ∧ n ≤ 8191 then 2 else if -268435456 ≤ n ∧ n ≤ 268435455 then 4 else 9

def encNum (n : Int) : List UInt8 :=
  if -64 ≤ n ∧ n ≤ 63 then [byteI (n % 128)]
  else if -8192 ≤ n ∧ n ≤ 8191 then [byteI (128 + n / 256 % 64), byteI n]
  else if -268435456 ≤ n ∧ n ≤ 268435455 then [byteI (192 + n / 16777216 % 32), byteI (n / 65536), byteI (n / 256), byteI n]
  else [224, byteI (n / 72057594037927936), byteI (n / 281474976710656), byteI (n / 1099511627776), byteI (n / 4294967296), byteI (n / 16777216), byteI (n / 65536), byteI (n / 256), byteI n]

theorem encNum_len (n : Int) : ((encNum n).length : Int) = szN n := by
  unfold encNum szN
  repeat' split
  all_goals simp

def encLE (n : Int) : Nat → List UInt8
  | 0 => []
  | k + 1 => encLE n k ++ [byteI (n / 2 ^ (8 * k))]
theorem encLE_len (n : Int) (k : Nat) : (encLE n k).length = k := by
  induction k with
  | zero => rfl
  | succ k ih => simp [encLE, ih]


/-- A little number: the error, and the bytes. -/
def litS (n size : Int) : Int × List UInt8 :=
  if isSz size then (if 0 ≤ n ∧ n < 2 ^ (8 * size.toNat) then (0, encLE n size.toNat) else (11, [])) else (1, [])
def sigS (n size : Int) : Int × List UInt8 :=
  if isSz size then (if sgn n (8 * size.toNat) = n then (0, encLE n size.toNat) else (11, [])) else (1, [])

theorem isSz_cases {n : Int} (h : isSz n = true) : ∃ s : Nat, n = (s : Int) ∧ (s = 1 ∨ s = 2 ∨ s = 4 ∨ s = 8) := by
  unfold isSz at h
  rw [decide_eq_true_eq] at h
  exact ⟨n.toNat, by omega, by omega⟩
theorem div_zero_iff (n : Int) (m : Nat) : n / 2 ^ m = 0 ↔ 0 ≤ n ∧ n < 2 ^ m := by
  have hp : (0 : Int) < 2 ^ m := Int.pow_pos (by omega)
  generalize (2 : Int) ^ m = q at *
  constructor
  · intro h
    have h1 := Int.emod_add_mul_ediv n q
    have h2 := Int.emod_nonneg n (show q ≠ 0 by omega)
    have h3 := Int.emod_lt_of_pos n hp
    rw [h] at h1
    omega
  · rintro ⟨h1, h2⟩
    exact Int.ediv_eq_zero_of_lt h1 h2

end Go.Proofs.YtjjdfodjkoiedaaDoor
