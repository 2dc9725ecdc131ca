/-
  math/bits.Div64 and Rem64 at the two moduli; digest.product.
-/
import Derived.Test.YthhaofdnbemogaaDoorWord
import Derived.Deep.DeepCutAuto
set_option linter.unusedVariables false
namespace Go.Proofs.YthhaofdnbemogaaDoor
open Go.RowKit

theorem wraps_u64 (n : Int) (h₀ : 0 ≤ n) (h₁ : n < 2 ^ 64) : IntKind.u64.wrap n = n := by
  have h64 : (2 : Int) ^ 64 = 18446744073709551616 := by rfl
  rw [IntKind.wrap_u64]; omega
theorem and_mask (z : Int) (h0 : 0 ≤ z) (h1 : z < 18446744073709551616) : bits .and .u64 z 4294967295 = z % 4294967296 :=
  bits_mask .u64 64 (by decide) wraps_u64 32 (by decide) z h0 h1

theorem bl_p : Lib.bitLen (2305843009213691579 : Int).toNat = 61 := by decide +kernel
/-- The halves of a shifted dividend. -/
theorem halves_p (hi lo : Int) (h0 : 0 ≤ hi) (h1 : hi < 2305843009213691579) (l0 : 0 ≤ lo) (l1 : lo < 18446744073709551616) :
    bits .or .u64 (hi * 8) (lo / 2305843009213693952) = hi * 8 + lo / 2305843009213693952 := by
  have h64 : (2 : Int) ^ 64 = 18446744073709551616 := by rfl
  have hs : (2 : Int) ^ 3 = 8 := by rfl
  exact bits_join .u64 64 (by decide) wraps_u64 3 (hi * 8) (lo / 2305843009213693952) (by omega) (by rw [hs]; omega) (by rw [h64]; omega) (by omega) (by rw [hs]; omega) (by rw [h64]; omega)

def Quot_p (u v q : Int) : Prop := 0 ≤ q ∧ q < 4294967296 ∧ q * 18446744073709532632 ≤ u * 4294967296 + v ∧ u * 4294967296 + v < (q + 1) * 18446744073709532632
def LoopR_p (u v : Int) (q r : Value) (w w' : World) : Prop := ∃ a b : Int, q = .int .u64 a ∧ r = .int .u64 b ∧ a * 4294967295 + b = u ∧ 0 ≤ b ∧ b < 4294967296 ∧ 0 ≤ a ∧ a ≤ 4294967297 ∧ u * 4294967296 + v < (a + 1) * 18446744073709532632 ∧ w = w'
def CutR_p (u v : Int) (q : Value) (w w' : World) : Prop := ∃ a : Int, q = .int .u64 a ∧ Quot_p u v a ∧ w = w'

set_option maxHeartbeats 4000000 in
set_option maxRecDepth 100000 in
theorem div_p (hi lo : Int) (h0 : 0 ≤ hi) (h1 : hi < 2305843009213691579) (hn : hi ≠ 0) (l0 : 0 ≤ lo) (l1 : lo < 18446744073709551616) (w : World) :
    Calls Tryd.prog 89 #[.int .u64 hi, .int .u64 lo, .int .u64 2305843009213691579] w fun e w' => e = .returned (.tuple #[.int .u64 ((hi * 18446744073709551616 + lo) / 2305843009213691579), .int .u64 ((hi * 18446744073709551616 + lo) % 2305843009213691579)]) ∧ w = w' := by
  have HL := Lib.hid ((Tryd.bits_LeadingZeros64 2305843009213691579 w (by omega) (by omega)).mono (R' := fun e w' => e = .returned (.int .i64 (64 - (Lib.bitLen (2305843009213691579 : Int).toNat : Int))) ∧ w = w') (fun e w' h => ⟨h.1, h.2.symm⟩))
  rw [bl_p] at HL
  have hnb : (hi == 0) = false := by simpa using hn
  have hlt : ¬ (2305843009213691579 ≤ hi) := by omega
  have hH := halves_p hi lo h0 h1 l0 l1
  obtain ⟨u, hu⟩ : ∃ u, u = hi * 8 + lo / 2305843009213693952 := ⟨_, rfl⟩
  rw [← hu] at hH
  obtain ⟨z, hz⟩ : ∃ z, IntKind.u64.wrap (lo * 8) = z := ⟨_, rfl⟩
  have hzv : z = lo * 8 % 18446744073709551616 := by rw [← hz, IntKind.wrap_u64]
  obtain ⟨v, hv⟩ : ∃ v, z / 4294967296 = v := ⟨_, rfl⟩
  obtain ⟨m, hm⟩ : ∃ m, bits .and .u64 z 4294967295 = m := ⟨_, rfl⟩
  have hmv : m = z % 4294967296 := by rw [← hm]; exact and_mask z (by omega) (by omega)
  have hY0 : bits .and .u64 18446744073709532632 4294967295 = 4294948312 := by decide +kernel
  have u0 : 0 ≤ u := by omega
  have u1 : u < 18446744073709532632 := by omega
  have v0 : 0 ≤ v := by omega
  have v1 : v < 4294967296 := by omega
  have m0 : 0 ≤ m := by omega
  have m1 : m < 4294967296 := by omega
  have hN : (hi * 18446744073709551616 + lo) * 8 = (u * 4294967296 + v) * 4294967296 + m := by omega
  obtain ⟨N, hNe⟩ : ∃ N, N = hi * 18446744073709551616 + lo := ⟨_, rfl⟩
  rw [← hNe] at hN
  rw [← hNe]
  obtain ⟨q, hq⟩ : ∃ q, u / 4294967295 = q := ⟨_, rfl⟩
  have ht : u.tdiv 4294967295 = q := by rw [Int.tdiv_eq_ediv_of_nonneg u0]; exact hq
  have hwq : IntKind.u64.wrap q = q := by rw [IntKind.wrap_u64]; omega
  obtain ⟨c, hc⟩ : ∃ c, IntKind.u64.wrap (q * 4294967295) = c := ⟨_, rfl⟩
  have hcv : c = q * 4294967295 := by rw [← hc, IntKind.wrap_u64]; omega
  obtain ⟨r, hr⟩ : ∃ r, IntKind.u64.wrap (u - c) = r := ⟨_, rfl⟩
  have hrv : r = u - c := by rw [← hr, IntKind.wrap_u64]; omega
  have HN := Lib.hid hN
  have HS : Hid (LoopR_p u v (.int .u64 q) (.int .u64 r) w w) := Lib.hid ⟨q, r, rfl, rfl, by omega, by omega, by omega, by omega, by omega, by omega, rfl⟩
  clear hN hNe hu hzv hmv hcv hrv
  go_enter Tryd.func89, Tryd.ntmps89
  go_wp2_with fail
  refine HL.out.mono ?_
  rintro en w1 ⟨rfl, rfl⟩
  go_upto_block 0 with (fail)
  go_cut [15] (fun a w' => CutR_p u v a w w')
  case first =>
    go_wp2_with fail
    go_loop [15, 16] (fun q r => LoopR_p u v q r w w) (fun q _ => (intOf q).toNat)
    case atStart => exact HS.out
    case round =>
      obtain ⟨a_, b_, rfl, rfl, hab, b0, b1, a0, a1, hmax, _⟩ := hrel
      have hw1 : IntKind.u64.wrap (4294967296 * b_) = 4294967296 * b_ := by rw [IntKind.wrap_u64]; omega
      have hw2 : IntKind.u64.wrap (4294967296 * b_ + v) = 4294967296 * b_ + v := by rw [IntKind.wrap_u64]; omega
      by_cases hA : 4294967296 ≤ a_
      · have ha1 : 1 ≤ a_ := by omega
        have hm1 : IntKind.u64.wrap (a_ - 1) = a_ - 1 := by rw [IntKind.wrap_u64]; omega
        have hm2 : IntKind.u64.wrap (b_ + 4294967295) = b_ + 4294967295 := by rw [IntKind.wrap_u64]; omega
        have HAB := Lib.hid hab
        clear hab
        go_wp2_with fail
        · go_meet
          have := HAB.out
          exact ⟨a_ - 1, rfl, ⟨by omega, by omega, by omega, by omega⟩, rfl⟩
        · have := HAB.out
          exact ⟨⟨a_ - 1, b_ + 4294967295, rfl, rfl, by omega, by omega, by omega, by omega, by omega, by omega, rfl⟩, by simp [intOf]; omega⟩
      · have hA' : a_ < 4294967296 := by omega
        have hw3 : IntKind.u64.wrap (a_ * 4294948312) = a_ * 4294948312 := by rw [IntKind.wrap_u64]; omega
        by_cases hB : 4294967296 * b_ + v < a_ * 4294948312
        · have ha1 : 1 ≤ a_ := by omega
          have hm1 : IntKind.u64.wrap (a_ - 1) = a_ - 1 := by rw [IntKind.wrap_u64]; omega
          have hm2 : IntKind.u64.wrap (b_ + 4294967295) = b_ + 4294967295 := by rw [IntKind.wrap_u64]; omega
          have HAB := Lib.hid hab
          clear hab
          go_wp2_with fail
          · go_meet
            have := HAB.out
            exact ⟨a_ - 1, rfl, ⟨by omega, by omega, by omega, by omega⟩, rfl⟩
          · have := HAB.out
            exact ⟨⟨a_ - 1, b_ + 4294967295, rfl, rfl, by omega, by omega, by omega, by omega, by omega, by omega, rfl⟩, by simp [intOf]; omega⟩
        · have HAB := Lib.hid hab
          clear hab
          go_wp2_with fail
          go_meet
          have := HAB.out
          exact ⟨a_, rfl, ⟨by omega, by omega, by omega, by omega⟩, rfl⟩
  case rest =>
    clear HS
    obtain ⟨a, rfl, ⟨qa0, qa1, qa2, qa3⟩, rfl⟩ := hcut
    obtain ⟨x1, p1⟩ : ∃ x, IntKind.u64.wrap (u * 4294967296) = x := ⟨_, rfl⟩
    obtain ⟨x2, p2⟩ : ∃ x, IntKind.u64.wrap (x1 + v) = x := ⟨_, rfl⟩
    obtain ⟨x3, p3⟩ : ∃ x, IntKind.u64.wrap (a * 18446744073709532632) = x := ⟨_, rfl⟩
    obtain ⟨t, p4⟩ : ∃ x, IntKind.u64.wrap (x2 - x3) = x := ⟨_, rfl⟩
    have htv : t = u * 4294967296 + v - a * 18446744073709532632 := by
      rw [← p4, ← p3, ← p2, ← p1]
      simp only [IntKind.wrap_u64]
      omega
    have t0 : 0 ≤ t := by omega
    have t1 : t < 18446744073709532632 := by omega
    obtain ⟨q', hq'⟩ : ∃ q, t / 4294967295 = q := ⟨_, rfl⟩
    have ht' : t.tdiv 4294967295 = q' := by rw [Int.tdiv_eq_ediv_of_nonneg t0]; exact hq'
    have hwq' : IntKind.u64.wrap q' = q' := by rw [IntKind.wrap_u64]; omega
    obtain ⟨c', hc'⟩ : ∃ c, IntKind.u64.wrap (q' * 4294967295) = c := ⟨_, rfl⟩
    have hcv' : c' = q' * 4294967295 := by rw [← hc', IntKind.wrap_u64]; omega
    obtain ⟨r', hr'⟩ : ∃ r, IntKind.u64.wrap (t - c') = r := ⟨_, rfl⟩
    have hrv' : r' = t - c' := by rw [← hr', IntKind.wrap_u64]; omega
    have HS : Hid (LoopR_p t m (.int .u64 q') (.int .u64 r') w w) := Lib.hid ⟨q', r', rfl, rfl, by omega, by omega, by omega, by omega, by omega, by omega, rfl⟩
    have HT := Lib.hid htv
    clear htv hcv' hrv'
    go_upto_block 2 with (fail)
    go_cut [18] (fun a w' => CutR_p t m a w w')
    case first =>
      go_wp2_with fail
      go_loop [18, 16] (fun q r => LoopR_p t m q r w w) (fun q _ => (intOf q).toNat)
      case atStart => exact HS.out
      case round =>
        obtain ⟨a_, b_, rfl, rfl, hab, b0, b1, a0, a1, hmax, _⟩ := hrel
        have hw1 : IntKind.u64.wrap (4294967296 * b_) = 4294967296 * b_ := by rw [IntKind.wrap_u64]; omega
        have hw2 : IntKind.u64.wrap (4294967296 * b_ + m) = 4294967296 * b_ + m := by rw [IntKind.wrap_u64]; omega
        by_cases hA : 4294967296 ≤ a_
        · have ha1 : 1 ≤ a_ := by omega
          have hm1 : IntKind.u64.wrap (a_ - 1) = a_ - 1 := by rw [IntKind.wrap_u64]; omega
          have hm2 : IntKind.u64.wrap (b_ + 4294967295) = b_ + 4294967295 := by rw [IntKind.wrap_u64]; omega
          have HAB := Lib.hid hab
          clear hab
          go_wp2_with fail
          · go_meet
            have := HAB.out
            exact ⟨a_ - 1, rfl, ⟨by omega, by omega, by omega, by omega⟩, rfl⟩
          · have := HAB.out
            exact ⟨⟨a_ - 1, b_ + 4294967295, rfl, rfl, by omega, by omega, by omega, by omega, by omega, by omega, rfl⟩, by simp [intOf]; omega⟩
        · have hA' : a_ < 4294967296 := by omega
          have hw3 : IntKind.u64.wrap (a_ * 4294948312) = a_ * 4294948312 := by rw [IntKind.wrap_u64]; omega
          by_cases hB : 4294967296 * b_ + m < a_ * 4294948312
          · have ha1 : 1 ≤ a_ := by omega
            have hm1 : IntKind.u64.wrap (a_ - 1) = a_ - 1 := by rw [IntKind.wrap_u64]; omega
            have hm2 : IntKind.u64.wrap (b_ + 4294967295) = b_ + 4294967295 := by rw [IntKind.wrap_u64]; omega
            have HAB := Lib.hid hab
            clear hab
            go_wp2_with fail
            · go_meet
              have := HAB.out
              exact ⟨a_ - 1, rfl, ⟨by omega, by omega, by omega, by omega⟩, rfl⟩
            · have := HAB.out
              exact ⟨⟨a_ - 1, b_ + 4294967295, rfl, rfl, by omega, by omega, by omega, by omega, by omega, by omega, rfl⟩, by simp [intOf]; omega⟩
          · have HAB := Lib.hid hab
            clear hab
            go_wp2_with fail
            go_meet
            have := HAB.out
            exact ⟨a_, rfl, ⟨by omega, by omega, by omega, by omega⟩, rfl⟩

    case rest =>
      obtain ⟨b, rfl, ⟨qb0, qb1, qb2, qb3⟩, rfl⟩ := hcut
      clear hq hq' ht ht' hwq hwq' hc hc' hr hr'
      have e1 : IntKind.u64.wrap (a * 4294967296) = a * 4294967296 := by rw [IntKind.wrap_u64]; omega
      have e2 : IntKind.u64.wrap (a * 4294967296 + b) = a * 4294967296 + b := by rw [IntKind.wrap_u64]; omega
      obtain ⟨y1, r1⟩ : ∃ x, IntKind.u64.wrap (t * 4294967296) = x := ⟨_, rfl⟩
      obtain ⟨y2, r2⟩ : ∃ x, IntKind.u64.wrap (y1 + m) = x := ⟨_, rfl⟩
      obtain ⟨y3, r3⟩ : ∃ x, IntKind.u64.wrap (b * 18446744073709532632) = x := ⟨_, rfl⟩
      obtain ⟨y4, r4⟩ : ∃ x, IntKind.u64.wrap (y2 - y3) = x := ⟨_, rfl⟩
      have hy : y4 = t * 4294967296 + m - b * 18446744073709532632 := by
        rw [← r4, ← r3, ← r2, ← r1]
        simp only [IntKind.wrap_u64]
        omega
      have hfin : a * 4294967296 + b = N / 2305843009213691579 ∧ y4 / 8 = N % 2305843009213691579 := by
        have := HN.out
        have := HT.out
        exact ⟨by omega, by omega⟩
      have HF := Lib.hid hfin
      have HY : 0 ≤ y4 := by omega
      clear hy hfin
      go_wp2_with fail
      go_ret2
      rw [← HF.out.1, ← HF.out.2]
      exact ⟨rfl, rfl⟩

theorem bl_o : Lib.bitLen (1152921504606845789 : Int).toNat = 60 := by decide +kernel
/-- The halves of a shifted dividend. -/
theorem halves_o (hi lo : Int) (h0 : 0 ≤ hi) (h1 : hi < 1152921504606845789) (l0 : 0 ≤ lo) (l1 : lo < 18446744073709551616) :
    bits .or .u64 (hi * 16) (lo / 1152921504606846976) = hi * 16 + lo / 1152921504606846976 := by
  have h64 : (2 : Int) ^ 64 = 18446744073709551616 := by rfl
  have hs : (2 : Int) ^ 4 = 16 := by rfl
  exact bits_join .u64 64 (by decide) wraps_u64 4 (hi * 16) (lo / 1152921504606846976) (by omega) (by rw [hs]; omega) (by rw [h64]; omega) (by omega) (by rw [hs]; omega) (by rw [h64]; omega)

def Quot_o (u v q : Int) : Prop := 0 ≤ q ∧ q < 4294967296 ∧ q * 18446744073709532624 ≤ u * 4294967296 + v ∧ u * 4294967296 + v < (q + 1) * 18446744073709532624
def LoopR_o (u v : Int) (q r : Value) (w w' : World) : Prop := ∃ a b : Int, q = .int .u64 a ∧ r = .int .u64 b ∧ a * 4294967295 + b = u ∧ 0 ≤ b ∧ b < 4294967296 ∧ 0 ≤ a ∧ a ≤ 4294967297 ∧ u * 4294967296 + v < (a + 1) * 18446744073709532624 ∧ w = w'
def CutR_o (u v : Int) (q : Value) (w w' : World) : Prop := ∃ a : Int, q = .int .u64 a ∧ Quot_o u v a ∧ w = w'

set_option maxHeartbeats 4000000 in
set_option maxRecDepth 100000 in
theorem div_o (hi lo : Int) (h0 : 0 ≤ hi) (h1 : hi < 1152921504606845789) (hn : hi ≠ 0) (l0 : 0 ≤ lo) (l1 : lo < 18446744073709551616) (w : World) :
    Calls Tryd.prog 89 #[.int .u64 hi, .int .u64 lo, .int .u64 1152921504606845789] w fun e w' => e = .returned (.tuple #[.int .u64 ((hi * 18446744073709551616 + lo) / 1152921504606845789), .int .u64 ((hi * 18446744073709551616 + lo) % 1152921504606845789)]) ∧ w = w' := by
  have HL := Lib.hid ((Tryd.bits_LeadingZeros64 1152921504606845789 w (by omega) (by omega)).mono (R' := fun e w' => e = .returned (.int .i64 (64 - (Lib.bitLen (1152921504606845789 : Int).toNat : Int))) ∧ w = w') (fun e w' h => ⟨h.1, h.2.symm⟩))
  rw [bl_o] at HL
  have hnb : (hi == 0) = false := by simpa using hn
  have hlt : ¬ (1152921504606845789 ≤ hi) := by omega
  have hH := halves_o hi lo h0 h1 l0 l1
  obtain ⟨u, hu⟩ : ∃ u, u = hi * 16 + lo / 1152921504606846976 := ⟨_, rfl⟩
  rw [← hu] at hH
  obtain ⟨z, hz⟩ : ∃ z, IntKind.u64.wrap (lo * 16) = z := ⟨_, rfl⟩
  have hzv : z = lo * 16 % 18446744073709551616 := by rw [← hz, IntKind.wrap_u64]
  obtain ⟨v, hv⟩ : ∃ v, z / 4294967296 = v := ⟨_, rfl⟩
  obtain ⟨m, hm⟩ : ∃ m, bits .and .u64 z 4294967295 = m := ⟨_, rfl⟩
  have hmv : m = z % 4294967296 := by rw [← hm]; exact and_mask z (by omega) (by omega)
  have hY0 : bits .and .u64 18446744073709532624 4294967295 = 4294948304 := by decide +kernel
  have u0 : 0 ≤ u := by omega
  have u1 : u < 18446744073709532624 := by omega
  have v0 : 0 ≤ v := by omega
  have v1 : v < 4294967296 := by omega
  have m0 : 0 ≤ m := by omega
  have m1 : m < 4294967296 := by omega
  have hN : (hi * 18446744073709551616 + lo) * 16 = (u * 4294967296 + v) * 4294967296 + m := by omega
  obtain ⟨N, hNe⟩ : ∃ N, N = hi * 18446744073709551616 + lo := ⟨_, rfl⟩
  rw [← hNe] at hN
  rw [← hNe]
  obtain ⟨q, hq⟩ : ∃ q, u / 4294967295 = q := ⟨_, rfl⟩
  have ht : u.tdiv 4294967295 = q := by rw [Int.tdiv_eq_ediv_of_nonneg u0]; exact hq
  have hwq : IntKind.u64.wrap q = q := by rw [IntKind.wrap_u64]; omega
  obtain ⟨c, hc⟩ : ∃ c, IntKind.u64.wrap (q * 4294967295) = c := ⟨_, rfl⟩
  have hcv : c = q * 4294967295 := by rw [← hc, IntKind.wrap_u64]; omega
  obtain ⟨r, hr⟩ : ∃ r, IntKind.u64.wrap (u - c) = r := ⟨_, rfl⟩
  have hrv : r = u - c := by rw [← hr, IntKind.wrap_u64]; omega
  have HN := Lib.hid hN
  have HS : Hid (LoopR_o u v (.int .u64 q) (.int .u64 r) w w) := Lib.hid ⟨q, r, rfl, rfl, by omega, by omega, by omega, by omega, by omega, by omega, rfl⟩
  clear hN hNe hu hzv hmv hcv hrv
  go_enter Tryd.func89, Tryd.ntmps89
  go_wp2_with fail
  refine HL.out.mono ?_
  rintro en w1 ⟨rfl, rfl⟩
  go_upto_block 0 with (fail)
  go_cut [15] (fun a w' => CutR_o u v a w w')
  case first =>
    go_wp2_with fail
    go_loop [15, 16] (fun q r => LoopR_o u v q r w w) (fun q _ => (intOf q).toNat)
    case atStart => exact HS.out
    case round =>
      obtain ⟨a_, b_, rfl, rfl, hab, b0, b1, a0, a1, hmax, _⟩ := hrel
      have hw1 : IntKind.u64.wrap (4294967296 * b_) = 4294967296 * b_ := by rw [IntKind.wrap_u64]; omega
      have hw2 : IntKind.u64.wrap (4294967296 * b_ + v) = 4294967296 * b_ + v := by rw [IntKind.wrap_u64]; omega
      by_cases hA : 4294967296 ≤ a_
      · have ha1 : 1 ≤ a_ := by omega
        have hm1 : IntKind.u64.wrap (a_ - 1) = a_ - 1 := by rw [IntKind.wrap_u64]; omega
        have hm2 : IntKind.u64.wrap (b_ + 4294967295) = b_ + 4294967295 := by rw [IntKind.wrap_u64]; omega
        have HAB := Lib.hid hab
        clear hab
        go_wp2_with fail
        · go_meet
          have := HAB.out
          exact ⟨a_ - 1, rfl, ⟨by omega, by omega, by omega, by omega⟩, rfl⟩
        · have := HAB.out
          exact ⟨⟨a_ - 1, b_ + 4294967295, rfl, rfl, by omega, by omega, by omega, by omega, by omega, by omega, rfl⟩, by simp [intOf]; omega⟩
      · have hA' : a_ < 4294967296 := by omega
        have hw3 : IntKind.u64.wrap (a_ * 4294948304) = a_ * 4294948304 := by rw [IntKind.wrap_u64]; omega
        by_cases hB : 4294967296 * b_ + v < a_ * 4294948304
        · have ha1 : 1 ≤ a_ := by omega
          have hm1 : IntKind.u64.wrap (a_ - 1) = a_ - 1 := by rw [IntKind.wrap_u64]; omega
          have hm2 : IntKind.u64.wrap (b_ + 4294967295) = b_ + 4294967295 := by rw [IntKind.wrap_u64]; omega
          have HAB := Lib.hid hab
          clear hab
          go_wp2_with fail
          · go_meet
            have := HAB.out
            exact ⟨a_ - 1, rfl, ⟨by omega, by omega, by omega, by omega⟩, rfl⟩
          · have := HAB.out
            exact ⟨⟨a_ - 1, b_ + 4294967295, rfl, rfl, by omega, by omega, by omega, by omega, by omega, by omega, rfl⟩, by simp [intOf]; omega⟩
        · have HAB := Lib.hid hab
          clear hab
          go_wp2_with fail
          go_meet
          have := HAB.out
          exact ⟨a_, rfl, ⟨by omega, by omega, by omega, by omega⟩, rfl⟩
  case rest =>
    clear HS
    obtain ⟨a, rfl, ⟨qa0, qa1, qa2, qa3⟩, rfl⟩ := hcut
    obtain ⟨x1, p1⟩ : ∃ x, IntKind.u64.wrap (u * 4294967296) = x := ⟨_, rfl⟩
    obtain ⟨x2, p2⟩ : ∃ x, IntKind.u64.wrap (x1 + v) = x := ⟨_, rfl⟩
    obtain ⟨x3, p3⟩ : ∃ x, IntKind.u64.wrap (a * 18446744073709532624) = x := ⟨_, rfl⟩
    obtain ⟨t, p4⟩ : ∃ x, IntKind.u64.wrap (x2 - x3) = x := ⟨_, rfl⟩
    have htv : t = u * 4294967296 + v - a * 18446744073709532624 := by
      rw [← p4, ← p3, ← p2, ← p1]
      simp only [IntKind.wrap_u64]
      omega
    have t0 : 0 ≤ t := by omega
    have t1 : t < 18446744073709532624 := by omega
    obtain ⟨q', hq'⟩ : ∃ q, t / 4294967295 = q := ⟨_, rfl⟩
    have ht' : t.tdiv 4294967295 = q' := by rw [Int.tdiv_eq_ediv_of_nonneg t0]; exact hq'
    have hwq' : IntKind.u64.wrap q' = q' := by rw [IntKind.wrap_u64]; omega
    obtain ⟨c', hc'⟩ : ∃ c, IntKind.u64.wrap (q' * 4294967295) = c := ⟨_, rfl⟩
    have hcv' : c' = q' * 4294967295 := by rw [← hc', IntKind.wrap_u64]; omega
    obtain ⟨r', hr'⟩ : ∃ r, IntKind.u64.wrap (t - c') = r := ⟨_, rfl⟩
    have hrv' : r' = t - c' := by rw [← hr', IntKind.wrap_u64]; omega
    have HS : Hid (LoopR_o t m (.int .u64 q') (.int .u64 r') w w) := Lib.hid ⟨q', r', rfl, rfl, by omega, by omega, by omega, by omega, by omega, by omega, rfl⟩
    have HT := Lib.hid htv
    clear htv hcv' hrv'
    go_upto_block 2 with (fail)
    go_cut [18] (fun a w' => CutR_o t m a w w')
    case first =>
      go_wp2_with fail
      go_loop [18, 16] (fun q r => LoopR_o t m q r w w) (fun q _ => (intOf q).toNat)
      case atStart => exact HS.out
      case round =>
        obtain ⟨a_, b_, rfl, rfl, hab, b0, b1, a0, a1, hmax, _⟩ := hrel
        have hw1 : IntKind.u64.wrap (4294967296 * b_) = 4294967296 * b_ := by rw [IntKind.wrap_u64]; omega
        have hw2 : IntKind.u64.wrap (4294967296 * b_ + m) = 4294967296 * b_ + m := by rw [IntKind.wrap_u64]; omega
        by_cases hA : 4294967296 ≤ a_
        · have ha1 : 1 ≤ a_ := by omega
          have hm1 : IntKind.u64.wrap (a_ - 1) = a_ - 1 := by rw [IntKind.wrap_u64]; omega
          have hm2 : IntKind.u64.wrap (b_ + 4294967295) = b_ + 4294967295 := by rw [IntKind.wrap_u64]; omega
          have HAB := Lib.hid hab
          clear hab
          go_wp2_with fail
          · go_meet
            have := HAB.out
            exact ⟨a_ - 1, rfl, ⟨by omega, by omega, by omega, by omega⟩, rfl⟩
          · have := HAB.out
            exact ⟨⟨a_ - 1, b_ + 4294967295, rfl, rfl, by omega, by omega, by omega, by omega, by omega, by omega, rfl⟩, by simp [intOf]; omega⟩
        · have hA' : a_ < 4294967296 := by omega
          have hw3 : IntKind.u64.wrap (a_ * 4294948304) = a_ * 4294948304 := by rw [IntKind.wrap_u64]; omega
          by_cases hB : 4294967296 * b_ + m < a_ * 4294948304
          · have ha1 : 1 ≤ a_ := by omega
            have hm1 : IntKind.u64.wrap (a_ - 1) = a_ - 1 := by rw [IntKind.wrap_u64]; omega
            have hm2 : IntKind.u64.wrap (b_ + 4294967295) = b_ + 4294967295 := by rw [IntKind.wrap_u64]; omega
            have HAB := Lib.hid hab
            clear hab
            go_wp2_with fail
            · go_meet
              have := HAB.out
              exact ⟨a_ - 1, rfl, ⟨by omega, by omega, by omega, by omega⟩, rfl⟩
            · have := HAB.out
              exact ⟨⟨a_ - 1, b_ + 4294967295, rfl, rfl, by omega, by omega, by omega, by omega, by omega, by omega, rfl⟩, by simp [intOf]; omega⟩
          · have HAB := Lib.hid hab
            clear hab
            go_wp2_with fail
            go_meet
            have := HAB.out
            exact ⟨a_, rfl, ⟨by omega, by omega, by omega, by omega⟩, rfl⟩

    case rest =>
      obtain ⟨b, rfl, ⟨qb0, qb1, qb2, qb3⟩, rfl⟩ := hcut
      clear hq hq' ht ht' hwq hwq' hc hc' hr hr'
      have e1 : IntKind.u64.wrap (a * 4294967296) = a * 4294967296 := by rw [IntKind.wrap_u64]; omega
      have e2 : IntKind.u64.wrap (a * 4294967296 + b) = a * 4294967296 + b := by rw [IntKind.wrap_u64]; omega
      obtain ⟨y1, r1⟩ : ∃ x, IntKind.u64.wrap (t * 4294967296) = x := ⟨_, rfl⟩
      obtain ⟨y2, r2⟩ : ∃ x, IntKind.u64.wrap (y1 + m) = x := ⟨_, rfl⟩
      obtain ⟨y3, r3⟩ : ∃ x, IntKind.u64.wrap (b * 18446744073709532624) = x := ⟨_, rfl⟩
      obtain ⟨y4, r4⟩ : ∃ x, IntKind.u64.wrap (y2 - y3) = x := ⟨_, rfl⟩
      have hy : y4 = t * 4294967296 + m - b * 18446744073709532624 := by
        rw [← r4, ← r3, ← r2, ← r1]
        simp only [IntKind.wrap_u64]
        omega
      have hfin : a * 4294967296 + b = N / 1152921504606845789 ∧ y4 / 16 = N % 1152921504606845789 := by
        have := HN.out
        have := HT.out
        exact ⟨by omega, by omega⟩
      have HF := Lib.hid hfin
      have HY : 0 ≤ y4 := by omega
      clear hy hfin
      go_wp2_with fail
      go_ret2
      rw [← HF.out.1, ← HF.out.2]
      exact ⟨rfl, rfl⟩

end Go.Proofs.YthhaofdnbemogaaDoor
