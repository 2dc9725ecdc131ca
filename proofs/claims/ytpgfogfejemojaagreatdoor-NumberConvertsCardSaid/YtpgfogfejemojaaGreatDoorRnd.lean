/-
  math.Round on the bits of a real.
-/
import Derived.Test.YtpgfogfejemojaaGreatDoorOps4
import Derived.Test.YtpgfogfejemojaaGreatDoorRef1
set_option linter.unusedVariables false
namespace Go.Proofs.YtpgfogfejemojaaGreatDoor
open Go.RowKit

theorem run_shrU (P : Program) (yk : IntKind) (x y : Int) (h : 0 ≤ y) (w : World) : (Op.shift .shr .u64 x yk y).run P w = .ok (.int .u64 (x / 2 ^ min y.toNat 64)) w := by
  unfold Op.shift
  rw [if_neg (by omega)]
  show Result.ok (Value.int .u64 (x.fdiv (2 ^ min y.toNat 64))) w = _
  rw [Int.fdiv_eq_ediv_of_nonneg _ (Int.le_of_lt (Int.pow_pos (by decide)))]
/-- The exponent as the bits have it. -/
def expB (b : Nat) : Nat := b / 4503599627370496 % 2048
theorem expB_and (b : Nat) (h : b < 18446744073709551616) : bits .and .u64 ((b : Int) / 4503599627370496) 2047 = (expB b : Int) := by
  rw [and_u64 _ (by omega) (by omega)]
  unfold expB
  omega
set_option maxRecDepth 100000 in
theorem round_low (b : Nat) (h : b < 18446744073709551616) (he : expB b < 1022) (w : World) : Calls Tryz.prog 96 #[.float .f64 b] w fun e w' => e = .returned (.float .f64 (bits .and .u64 b 9223372036854775808).toNat) ∧ w = w' := by
  have h1 := run_bits
  have h2 := run_frombits
  have ha := expB_and b h
  have c1 : bits .and .u64 ((b : Int) / 4503599627370496) 2047 < 1023 := by rw [ha]; omega
  have c2 : (bits .and .u64 ((b : Int) / 4503599627370496) 2047 == 1022) = false := by rw [ha]; simp; omega
  clear ha he
  go_enter Tryz.func96, Tryz.ntmps96
  go_wp2
  go_ret
  exact ⟨rfl, rfl⟩
set_option maxRecDepth 100000 in
theorem round_half (b : Nat) (h : b < 18446744073709551616) (he : expB b = 1022) (w : World) : Calls Tryz.prog 96 #[.float .f64 b] w fun e w' => e = .returned (.float .f64 (bits .or .u64 (bits .and .u64 b 9223372036854775808) 4607182418800017408).toNat) ∧ w = w' := by
  have h1 := run_bits
  have h2 := run_frombits
  have ha := expB_and b h
  have c1 : bits .and .u64 ((b : Int) / 4503599627370496) 2047 < 1023 := by rw [ha]; omega
  have c2 : (bits .and .u64 ((b : Int) / 4503599627370496) 2047 == 1022) = true := by rw [ha]; simp; omega
  clear ha he
  go_enter Tryz.func96, Tryz.ntmps96
  go_wp2
  go_ret
  exact ⟨rfl, rfl⟩
set_option maxRecDepth 100000 in
theorem round_high (b : Nat) (h : b < 18446744073709551616) (he : 1075 ≤ expB b) (w : World) : Calls Tryz.prog 96 #[.float .f64 b] w fun e w' => e = .returned (.float .f64 b) ∧ w = w' := by
  have h1 := run_bits
  have h2 := run_frombits
  have ha := expB_and b h
  have c1 : ¬ bits .and .u64 ((b : Int) / 4503599627370496) 2047 < 1023 := by rw [ha]; omega
  have c2 : ¬ bits .and .u64 ((b : Int) / 4503599627370496) 2047 < 1075 := by rw [ha]; omega
  clear ha he
  go_enter Tryz.func96, Tryz.ntmps96
  go_wp2
  go_ret
  exact ⟨rfl, rfl⟩
set_option maxRecDepth 100000 in
theorem round_mid (b k : Nat) (h : b < 18446744073709551616) (he : expB b = 1023 + k) (hk : k < 52) (w : World) : Calls Tryz.prog 96 #[.float .f64 b] w fun e w' => e = .returned (.float .f64 (bits .andNot .u64 (IntKind.u64.wrap (b + 2251799813685248 / 2 ^ k)) (4503599627370495 / 2 ^ k)).toNat) ∧ w = w' := by
  have h1 := run_bits
  have h2 := run_frombits
  have ha := expB_and b h
  have hc : IntKind.u64.wrap (bits .and .u64 ((b : Int) / 4503599627370496) 2047 - 1023) = k := by rw [ha, IntKind.wrap_u64]; omega
  have hs := run_shrU Tryz.prog .u64
  have hm : min ((k : Int)).toNat 64 = k := by omega
  have hk0 : (0 : Int) ≤ (k : Int) := by omega
  have c1 : ¬ bits .and .u64 ((b : Int) / 4503599627370496) 2047 < 1023 := by rw [ha]; omega
  have c2 : bits .and .u64 ((b : Int) / 4503599627370496) 2047 < 1075 := by rw [ha]; omega
  clear ha he
  go_enter Tryz.func96, Tryz.ntmps96
  go_wp2
  go_ret
  exact ⟨rfl, rfl⟩
theorem andNot_mask (v : Nat) (m : Nat) (hv : v < 18446744073709551616) (hm : m ≤ 52) : bits .andNot .u64 (v : Int) ((2 ^ m - 1 : Nat) : Int) = ((v / 2 ^ m * 2 ^ m : Nat) : Int) := by
  have e1 : BitVec.ofInt 64 (v : Int) = BitVec.ofNat 64 v := by simp
  have e2 : BitVec.ofInt 64 ((2 ^ m - 1 : Nat) : Int) = BitVec.ofNat 64 (2 ^ m - 1) := by simp
  have e3 : BitVec.ofNat 64 v &&& ~~~ BitVec.ofNat 64 (2 ^ m - 1) = (BitVec.ofNat 64 v >>> m) <<< m := by
    apply BitVec.eq_of_getLsbD_eq
    intro i hi
    simp only [BitVec.getLsbD_and, BitVec.getLsbD_not, BitVec.getLsbD_shiftLeft, BitVec.getLsbD_ushiftRight, BitVec.getLsbD_ofNat, Nat.testBit_two_pow_sub_one, hi, decide_true, Bool.true_and]
    by_cases c : i < m
    · simp [c]
    · rw [decide_eq_false c, show m + (i - m) = i from by omega]
      simp [hi]
  have hle : v / 2 ^ m * 2 ^ m ≤ v := Nat.div_mul_le_self v (2 ^ m)
  have hq : v / 2 ^ m < 18446744073709551616 := Nat.lt_of_le_of_lt (Nat.div_le_self _ _) hv
  show IntKind.u64.wrap ((BitVec.ofInt 64 (v : Int) &&& ~~~ BitVec.ofInt 64 ((2 ^ m - 1 : Nat) : Int)).toNat : Int) = _
  rw [e1, e2, e3, BitVec.toNat_shiftLeft, BitVec.toNat_ushiftRight, BitVec.toNat_ofNat, Nat.shiftLeft_eq, Nat.shiftRight_eq_div_pow, show (2 : Nat) ^ 64 = 18446744073709551616 from by decide, Nat.mod_eq_of_lt hv, Nat.mod_eq_of_lt (Nat.lt_of_le_of_lt hle hv), IntKind.wrap_u64]
  omega
end Go.Proofs.YtpgfogfejemojaaGreatDoor
