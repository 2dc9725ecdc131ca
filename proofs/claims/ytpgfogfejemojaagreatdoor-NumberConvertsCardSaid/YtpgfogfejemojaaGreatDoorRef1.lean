/-
  acheronref04: Kind, Wrap, One.
-/
import Derived.Test.YtpgfogfejemojaaGreatDoorOps4
set_option linter.unusedVariables false
namespace Go.Proofs.YtpgfogfejemojaaGreatDoor
open Go.RowKit

theorem refKind_yes (k : Int) (hk : kindB k = true) (w : World) : Calls Tryz.prog 15 #[.int .i64 k] w fun e w' => e = .returned (.bool true) ∧ w = w' := by
  simp only [kindB, decide_eq_true_eq] at hk
  rcases (by omega : k = 1 ∨ k = 2 ∨ k = 3 ∨ k = 4) with rfl | rfl | rfl | rfl
  all_goals
    go_enter Tryz.func15, Tryz.ntmps15
    go_wp2
    go_ret
    exact ⟨rfl, rfl⟩
theorem refKind_no (k : Int) (hk : kindB k = false) (w : World) : Calls Tryz.prog 15 #[.int .i64 k] w fun e w' => e = .returned (.bool false) ∧ w = w' := by
  have h1 : (k == 1) = false := by simp [kindB] at hk ⊢; omega
  have h2 : (k == 2) = false := by simp [kindB] at hk ⊢; omega
  have h3 : (k == 3) = false := by simp [kindB] at hk ⊢; omega
  have h4 : (k == 4) = false := by simp [kindB] at hk ⊢; omega
  clear hk
  go_enter Tryz.func15, Tryz.ntmps15
  go_wp2
  go_ret
  exact ⟨rfl, rfl⟩
theorem and_i64 (n : Int) : bits .and .i64 n 255 = n % 256 := by
  have h1 : (BitVec.ofInt 64 n).toNat = (n % 18446744073709551616).toNat := by rw [BitVec.toNat_ofInt]; rfl
  show IntKind.i64.wrap ((BitVec.ofInt 64 n &&& BitVec.ofInt 64 255).toNat : Int) = n % 256
  rw [BitVec.toNat_and, h1, show (BitVec.ofInt 64 255).toNat = 2 ^ 8 - 1 from by decide, Nat.and_two_pow_sub_one_eq_mod, IntKind.wrap_i64, show (2 : Nat) ^ 8 = 256 from rfl]
  omega
theorem and_u64 (x : Int) (h0 : 0 ≤ x) (h1 : x < 18446744073709551616) : bits .and .u64 x 2047 = x % 2048 := by
  have e1 : (BitVec.ofInt 64 x).toNat = (x % 18446744073709551616).toNat := by rw [BitVec.toNat_ofInt]; rfl
  show IntKind.u64.wrap ((BitVec.ofInt 64 x &&& BitVec.ofInt 64 2047).toNat : Int) = x % 2048
  rw [BitVec.toNat_and, e1, show (BitVec.ofInt 64 2047).toNat = 2 ^ 11 - 1 from by decide, Nat.and_two_pow_sub_one_eq_mod, IntKind.wrap_u64]
  omega
theorem cmp_self (x : Int) : compare x x = Ordering.eq := by simp
/-- A real is no number where its place is above that of the infinity. -/
theorem nanB_eq (b : Nat) : nanB b = decide (9218868437227405312 < b % 9223372036854775808) := by
  have hb : FloatKind.f64.format.binade = 4503599627370496 := by decide
  have hi : FloatKind.f64.format.infRung = 9218868437227405312 := by decide
  have hs : FloatKind.f64.format.signWeight = 9223372036854775808 := by decide
  have key : ∀ d : Ieee.Datum, (d.order d != some Ordering.eq) = d.isNaN := by
    intro d
    cases d with
    | number s m e => simp [Ieee.Datum.order, Ieee.Datum.isNaN]
    | infinity s => simp [Ieee.Datum.order, Ieee.Datum.isNaN]
    | nan s f => simp [Ieee.Datum.order, Ieee.Datum.isNaN]
  unfold nanB Ieee.Format.order
  rw [key]
  unfold Ieee.Format.read
  simp only [hb, hi, hs]
  split
  · rw [decide_eq_false (by omega)]; rfl
  · split
    · rw [decide_eq_false (by omega)]; rfl
    · split
      · rw [decide_eq_false (by omega)]; rfl
      · rw [decide_eq_true (by omega)]; rfl
theorem wrR_of (n : Int) (h0 : -9223372036854775808 ≤ n) (h1 : n ≤ 9223372036854775807) : wrR n = if nanB (bitsN n) = true then 9221120237041090561 else n := by
  unfold wrR bitsV
  split
  · rfl
  · unfold bitsN wrap64
    rw [IntKind.wrap_u64]
    omega
set_option maxRecDepth 100000 in
theorem refWrap1 (n : Int) (w : World) : Calls Tryz.prog 17 #[.int .i64 1, .int .i64 n] w fun e w' => e = .returned (.int .i64 (n % 256)) ∧ w = w' := by
  go_enter Tryz.func17, Tryz.ntmps17
  go_wp2
  go_ret
  exact ⟨ret_int (and_i64 n), rfl⟩
set_option maxRecDepth 100000 in
theorem refWrap2 (n : Int) (w : World) : Calls Tryz.prog 17 #[.int .i64 2, .int .i64 n] w fun e w' => e = .returned (.int .i64 (wrap32 n)) ∧ w = w' := by
  go_enter Tryz.func17, Tryz.ntmps17
  go_wp2
  go_ret
  exact ⟨ret_int (by rw [IntKind.wrap_u64]; unfold wrap64 wrap32; omega), rfl⟩
theorem refWrap3 (n : Int) (w : World) : Calls Tryz.prog 17 #[.int .i64 3, .int .i64 n] w fun e w' => e = .returned (.int .i64 n) ∧ w = w' := by
  go_enter Tryz.func17, Tryz.ntmps17
  go_wp2
  go_ret
  exact ⟨rfl, rfl⟩
set_option maxRecDepth 100000 in
theorem refIsNaN_any (n : Int) (w : World) : Calls Tryz.prog 35 #[.int .i64 n] w fun e w' => e = .returned (.bool (nanB (bitsN n))) ∧ w = w' := by
  have hn := nanB_eq (bitsN n)
  have hu : IntKind.u64.wrap n = n % 18446744073709551616 := IntKind.wrap_u64 n
  obtain ⟨u, hue⟩ : ∃ u, u = IntKind.u64.wrap n := ⟨_, rfl⟩
  have u0 : 0 ≤ u := by rw [hue, hu]; omega
  have u1 : u < 18446744073709551616 := by rw [hue, hu]; omega
  have hb : bitsN n = u.toNat := by rw [hue]; rfl
  have ha := and_u64 (u / 4503599627370496) (by omega) (by omega)
  by_cases c : u / 4503599627370496 % 2048 = 2047
  · have c1 : (bits .and .u64 (u / 4503599627370496) 2047 == 2047) = true := by rw [ha]; simpa using c
    have HR : Hid ((IntKind.u64.wrap (u * 4096) != 0) = nanB (bitsN n)) := Lib.hid (by
      rw [hn, hb, IntKind.wrap_u64]
      rw [Bool.eq_iff_iff]
      simp
      omega)
    rw [hue] at HR c1
    clear ha hn hu hb c u0 u1 hue
    go_enter Tryz.func35, Tryz.ntmps35
    go_wp2_with fail
    go_ret
    exact ⟨by rw [← HR.out]; rfl, rfl⟩
  · have c1 : (bits .and .u64 (u / 4503599627370496) 2047 == 2047) = false := by rw [ha]; simpa using c
    have HR : Hid (false = nanB (bitsN n)) := Lib.hid (by
      rw [hn, hb]
      symm
      rw [decide_eq_false_iff_not]
      omega)
    rw [hue] at c1
    clear ha hn hu hb c u0 u1 hue
    go_enter Tryz.func35, Tryz.ntmps35
    go_wp2_with fail
    go_ret
    exact ⟨by rw [← HR.out]; rfl, rfl⟩
set_option maxRecDepth 100000 in
theorem refWrap4 (n : Int) (h0 : -9223372036854775808 ≤ n) (h1 : n ≤ 9223372036854775807) (w : World) : Calls Tryz.prog 17 #[.int .i64 4, .int .i64 n] w fun e w' => e = .returned (.int .i64 (wrR n)) ∧ w = w' := by
  rw [wrR_of n h0 h1]
  have HN := Lib.hid (refIsNaN_any n)
  rcases Bool.eq_false_or_eq_true (nanB (bitsN n)) with hb | hb
  · rw [if_pos hb]
    rw [hb] at HN
    clear hb
    go_enter Tryz.func17, Tryz.ntmps17
    go_wp2_with (go_at_call 35; refine (HN.out _).mono ?_; rintro e w' ⟨rfl, rfl⟩)
    go_ret
    exact ⟨rfl, rfl⟩
  · rw [if_neg (by rw [hb]; decide)]
    rw [hb] at HN
    clear hb
    go_enter Tryz.func17, Tryz.ntmps17
    go_wp2_with (go_at_call 35; refine (HN.out _).mono ?_; rintro e w' ⟨rfl, rfl⟩)
    go_ret
    exact ⟨rfl, rfl⟩
theorem refOne_any (k : Nat) (h1 : 1 ≤ k) (h2 : k ≤ 4) (w : World) : Calls Tryz.prog 18 #[.int .i64 (k : Int)] w fun e w' => e = .returned (.int .i64 (if k = 4 then 4607182418800017408 else 1)) ∧ w = w' := by
  rcases (by omega : k = 1 ∨ k = 2 ∨ k = 3 ∨ k = 4) with rfl | rfl | rfl | rfl
  all_goals
    go_enter Tryz.func18, Tryz.ntmps18
    go_wp2
    go_ret
    exact ⟨rfl, rfl⟩
end Go.Proofs.YtpgfogfejemojaaGreatDoor
