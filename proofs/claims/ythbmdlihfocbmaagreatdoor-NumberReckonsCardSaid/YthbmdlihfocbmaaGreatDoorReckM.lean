/-
  Plain facts: the operations of integers as the reference and as the program reckon them.
-/
import Derived.Test.YthbmdlihfocbmaaGreatDoorOps4
import Derived.Test.YthbmdlihfocbmaaGreatDoorRefS
import Derived.Test.YthbmdlihfocbmaaGreatDoorRefAr
set_option linter.unusedVariables false
namespace Go.Proofs.YthbmdlihfocbmaaGreatDoor
open Go.RowKit

theorem mulM {M a b c d : Int} (h1 : a % M = c % M) (h2 : b % M = d % M) : (a * b) % M = (c * d) % M := by
  rw [Int.mul_emod a b, h1, h2, ← Int.mul_emod]
theorem quo_m1 (x y : Int) (h : y = -1) : wrap64 (-x) = opI 3 x y := by
  subst h
  show wrap64 (-x) = wrap64 (x.tdiv (-1))
  congr 1
  simp
theorem rest_m1 (x y : Int) (h : y = -1) (x0 : -9223372036854775808 ≤ x) (x1 : x ≤ 9223372036854775807) : wrap64 (x - wrap64 (y * wrap64 (-x))) = opI 4 x y := by
  subst h
  show _ = x.tmod (-1)
  rw [show x.tmod (-1) = 0 from by simp]
  unfold wrap64
  omega
theorem rest_any (x y : Int) (hy : y ≠ 0) (y0 : -9223372036854775808 ≤ y) (y1 : y ≤ 9223372036854775807) : wrap64 (x - wrap64 (y * wrap64 (x.tdiv y))) = opI 4 x y := by
  show _ = x.tmod y
  have hm := Int.mul_tdiv_add_tmod x y
  have hn : (x.tmod y).natAbs < y.natAbs := by
    rw [Int.natAbs_tmod]
    exact Nat.mod_lt _ (by omega)
  have hP : (y * wrap64 (x.tdiv y)) % 18446744073709551616 = (y * x.tdiv y) % 18446744073709551616 := mulM rfl (by unfold wrap64; omega)
  generalize y * wrap64 (x.tdiv y) = P at *
  generalize y * x.tdiv y = Q at *
  generalize x.tmod y = r at *
  unfold wrap64
  omega
theorem cntS (c b : Int) (h : wrap32 b = c) (n : Nat) (hn : c = (n : Int)) (h64 : n ≤ 64) : min (b % 4294967296).toNat 64 = n := by
  unfold wrap32 at h; omega
theorem cntS_out (b : Int) (wd : Nat) (hw : wd ≤ 64) (h : wrap32 b < 0 ∨ (wd : Int) ≤ wrap32 b) : wd ≤ min (b % 4294967296).toNat 64 := by
  unfold wrap32 at h; omega
theorem pow_split (x : Int) (wd m : Nat) (h : wd ≤ m) : ∃ q : Int, x * 2 ^ m = q * 2 ^ wd := by
  refine ⟨x * 2 ^ (m - wd), ?_⟩
  rw [Int.mul_assoc, ← Int.pow_add, Nat.sub_add_cancel h]
theorem shr_out (x : Int) (m : Nat) (h0 : -(2 ^ m) ≤ x) (h1 : x < 2 ^ m) : x / 2 ^ m = bif decide (x < 0) then -1 else 0 := by
  have hp : (0 : Int) < 2 ^ m := Int.pow_pos (by decide)
  by_cases hx : x < 0
  · rw [decide_eq_true hx, cond_true]
    have h2 : x / 2 ^ m < 0 := Int.ediv_neg_of_neg_of_pos hx hp
    have h3 : -1 ≤ x / 2 ^ m := by
      apply Int.le_ediv_of_mul_le hp
      omega
    omega
  · rw [decide_eq_false hx, cond_false]
    exact Int.ediv_eq_zero_of_lt (by omega) h1
theorem pow_le (wd m : Nat) (h : wd ≤ m) : (2 : Int) ^ wd ≤ 2 ^ m := by
  have := Nat.pow_le_pow_right (n := 2) (by decide) h
  exact_mod_cast this
theorem arR_wrR (op : BinOp) (x y : Nat) : wrR (arR op x y) = arR op x y := by
  unfold arR
  split
  · rename_i r h
    exact wrR_bitsV r (floatBits_lt h)
  · decide +kernel
/-- The shift of kind 1 to the left: the reference's and the program's. -/
theorem shl_k1 (x b : Int) (x0 : 0 ≤ x) (x1 : x ≤ 255) (w : World) : Calls Tryz.prog 36 #[.int .i64 1, .int .i64 8, .int .i64 x, .int .i64 (wrap32 b)] w fun e w' => e = .returned (.int .i64 ((opI 8 x b) % 256)) ∧ w = w' := by
  by_cases h : wrap32 b < 0 ∨ 8 ≤ wrap32 b
  · have hc := cntS_out b 8 (by decide) h
    obtain ⟨q, hq⟩ := pow_split x 8 _ hc
    have hv : ((opI 8 x b) % 256) = 0 := by
      show ((wrap64 (x * 2 ^ min (b % 4294967296).toNat 64)) % 256) = 0
      rw [hq]
      rw [show (2 : Int) ^ 8 = 256 from by decide]
      unfold wrap64
      omega
    rw [hv]
    exact refShift1_8_out x _ h w
  · obtain ⟨n, hn⟩ : ∃ n : Nat, wrap32 b = (n : Int) := ⟨(wrap32 b).toNat, by omega⟩
    have hc := cntS _ b rfl n hn (by omega)
    rw [hn] at h ⊢
    have hx : x % 256 = x := by omega
    have hv : ((opI 8 x b) % 256) = (x * 2 ^ n) % 256 := by
      show ((wrap64 (x * 2 ^ min (b % 4294967296).toNat 64)) % 256) = _
      rw [hc]
      unfold wrap64
      omega
    rw [hv]
    exact refShl1 x n hx (by omega) w
theorem shr_k1 (x b : Int) (x0 : 0 ≤ x) (x1 : x ≤ 255) (w : World) : Calls Tryz.prog 36 #[.int .i64 1, .int .i64 9, .int .i64 x, .int .i64 (wrap32 b)] w fun e w' => e = .returned (.int .i64 ((opI 9 x b) % 256)) ∧ w = w' := by
  have hb := betweenS x (min (b % 4294967296).toNat 64) 0 255 (by decide) (by decide) x0 x1
  have hv : ((opI 9 x b) % 256) = x / 2 ^ min (b % 4294967296).toNat 64 := by
    show ((x / 2 ^ min (b % 4294967296).toNat 64) % 256) = _
    omega
  rw [hv]
  by_cases h : wrap32 b < 0 ∨ 8 ≤ wrap32 b
  · have hc := cntS_out b 8 (by decide) h
    have hp := pow_le 8 _ hc
    rw [show (2 : Int) ^ 8 = 256 from by decide] at hp
    rw [shr_out x _ (by omega) (by omega)]
    exact refShift1_9_out x _ h w
  · obtain ⟨n, hn⟩ : ∃ n : Nat, wrap32 b = (n : Int) := ⟨(wrap32 b).toNat, by omega⟩
    have hc := cntS _ b rfl n hn (by omega)
    rw [hn] at h ⊢
    rw [hc]
    exact refShr1 x n (by omega) (by omega) (by omega) w
/-- The shift of kind 2 to the left: the reference's and the program's. -/
theorem shl_k2 (x b : Int) (x0 : (-2147483648) ≤ x) (x1 : x ≤ 2147483647) (w : World) : Calls Tryz.prog 36 #[.int .i64 2, .int .i64 8, .int .i64 x, .int .i64 (wrap32 b)] w fun e w' => e = .returned (.int .i64 (wrap32 (opI 8 x b))) ∧ w = w' := by
  by_cases h : wrap32 b < 0 ∨ 32 ≤ wrap32 b
  · have hc := cntS_out b 32 (by decide) h
    obtain ⟨q, hq⟩ := pow_split x 32 _ hc
    have hv : (wrap32 (opI 8 x b)) = 0 := by
      show (wrap32 (wrap64 (x * 2 ^ min (b % 4294967296).toNat 64))) = 0
      rw [hq]
      rw [show (2 : Int) ^ 32 = 4294967296 from by decide]
      unfold wrap32 wrap64
      omega
    rw [hv]
    exact refShift2_8_out x _ h w
  · obtain ⟨n, hn⟩ : ∃ n : Nat, wrap32 b = (n : Int) := ⟨(wrap32 b).toNat, by omega⟩
    have hc := cntS _ b rfl n hn (by omega)
    rw [hn] at h ⊢
    have hx : wrap32 x = x := by unfold wrap32; omega
    have hv : (wrap32 (opI 8 x b)) = wrap32 (x * 2 ^ n) := by
      show (wrap32 (wrap64 (x * 2 ^ min (b % 4294967296).toNat 64))) = _
      rw [hc]
      unfold wrap32 wrap64
      omega
    rw [hv]
    exact refShl2 x n hx (by omega) w
theorem shr_k2 (x b : Int) (x0 : (-2147483648) ≤ x) (x1 : x ≤ 2147483647) (w : World) : Calls Tryz.prog 36 #[.int .i64 2, .int .i64 9, .int .i64 x, .int .i64 (wrap32 b)] w fun e w' => e = .returned (.int .i64 (wrap32 (opI 9 x b))) ∧ w = w' := by
  have hb := betweenS x (min (b % 4294967296).toNat 64) (-2147483648) 2147483647 (by decide) (by decide) x0 x1
  have hv : (wrap32 (opI 9 x b)) = x / 2 ^ min (b % 4294967296).toNat 64 := by
    show (wrap32 (x / 2 ^ min (b % 4294967296).toNat 64)) = _
    unfold wrap32; omega
  rw [hv]
  by_cases h : wrap32 b < 0 ∨ 32 ≤ wrap32 b
  · have hc := cntS_out b 32 (by decide) h
    have hp := pow_le 32 _ hc
    rw [show (2 : Int) ^ 32 = 4294967296 from by decide] at hp
    rw [shr_out x _ (by omega) (by omega)]
    exact refShift2_9_out x _ h w
  · obtain ⟨n, hn⟩ : ∃ n : Nat, wrap32 b = (n : Int) := ⟨(wrap32 b).toNat, by omega⟩
    have hc := cntS _ b rfl n hn (by omega)
    rw [hn] at h ⊢
    rw [hc]
    exact refShr2 x n (by omega) (by omega) (by omega) w
/-- The shift of kind 3 to the left: the reference's and the program's. -/
theorem shl_k3 (x b : Int) (x0 : (-9223372036854775808) ≤ x) (x1 : x ≤ 9223372036854775807) (w : World) : Calls Tryz.prog 36 #[.int .i64 3, .int .i64 8, .int .i64 x, .int .i64 (wrap32 b)] w fun e w' => e = .returned (.int .i64 (opI 8 x b)) ∧ w = w' := by
  by_cases h : wrap32 b < 0 ∨ 64 ≤ wrap32 b
  · have hc := cntS_out b 64 (by decide) h
    obtain ⟨q, hq⟩ := pow_split x 64 _ hc
    have hv : (opI 8 x b) = 0 := by
      show (wrap64 (x * 2 ^ min (b % 4294967296).toNat 64)) = 0
      rw [hq]
      rw [show (2 : Int) ^ 64 = 18446744073709551616 from by decide]
      unfold wrap64
      omega
    rw [hv]
    exact refShift3_8_out x _ h w
  · obtain ⟨n, hn⟩ : ∃ n : Nat, wrap32 b = (n : Int) := ⟨(wrap32 b).toNat, by omega⟩
    have hc := cntS _ b rfl n hn (by omega)
    rw [hn] at h ⊢
    have hx : wrap64 x = x := by unfold wrap64; omega
    have hv : (opI 8 x b) = wrap64 (x * 2 ^ n) := by
      show (wrap64 (x * 2 ^ min (b % 4294967296).toNat 64)) = _
      rw [hc]
    rw [hv]
    exact refShl3 x n hx (by omega) w
theorem shr_k3 (x b : Int) (x0 : (-9223372036854775808) ≤ x) (x1 : x ≤ 9223372036854775807) (w : World) : Calls Tryz.prog 36 #[.int .i64 3, .int .i64 9, .int .i64 x, .int .i64 (wrap32 b)] w fun e w' => e = .returned (.int .i64 (opI 9 x b)) ∧ w = w' := by
  have hb := betweenS x (min (b % 4294967296).toNat 64) (-9223372036854775808) 9223372036854775807 (by decide) (by decide) x0 x1
  have hv : (opI 9 x b) = x / 2 ^ min (b % 4294967296).toNat 64 := by
    show (x / 2 ^ min (b % 4294967296).toNat 64) = _
    rfl
  rw [hv]
  by_cases h : wrap32 b < 0 ∨ 64 ≤ wrap32 b
  · have hc := cntS_out b 64 (by decide) h
    have hp := pow_le 64 _ hc
    rw [show (2 : Int) ^ 64 = 18446744073709551616 from by decide] at hp
    rw [shr_out x _ (by omega) (by omega)]
    exact refShift3_9_out x _ h w
  · obtain ⟨n, hn⟩ : ∃ n : Nat, wrap32 b = (n : Int) := ⟨(wrap32 b).toNat, by omega⟩
    have hc := cntS _ b rfl n hn (by omega)
    rw [hn] at h ⊢
    rw [hc]
    exact refShr3 x n (by omega) (by omega) (by omega) w
end Go.Proofs.YthbmdlihfocbmaaGreatDoor
