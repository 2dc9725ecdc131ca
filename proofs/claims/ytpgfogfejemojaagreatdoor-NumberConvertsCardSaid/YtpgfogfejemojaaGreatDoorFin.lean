/-
  number.nearestInteger and acheronref04.nearest of every real: the nearest integer between two ends.
-/
import Derived.Test.YtpgfogfejemojaaGreatDoorRest
import Derived.Test.YtpgfogfejemojaaGreatDoorNearW
import Derived.Test.YtpgfogfejemojaaGreatDoorRef1
set_option linter.unusedVariables false
namespace Go.Proofs.YtpgfogfejemojaaGreatDoor
open Go.RowKit

def nearI (lo hi : Int) (b : Nat) : Int :=
  if nanB b = true then 0 else if expB b = 2047 then (if sB b then lo else hi) else max lo (min hi (sgn (sB b) (roundU b)))
theorem nan_exp (b : Nat) (h : nanB b = true) : expB b = 2047 := by
  rw [nanB_eq, decide_eq_true_eq] at h
  unfold expB
  omega
theorem exp_lt (b : Nat) : expB b < 2048 := by unfold expB; omega
theorem read_inf (b : Nat) (hn : nanB b = false) (he : expB b = 2047) : FloatKind.f64.format.read b = .infinity (sB b) := by
  rw [nanB_eq, decide_eq_false_iff_not] at hn
  have hb : FloatKind.f64.format.binade = 4503599627370496 := by decide
  have hi : FloatKind.f64.format.infRung = 9218868437227405312 := by decide
  have hs : FloatKind.f64.format.signWeight = 9223372036854775808 := by decide
  have hr : b % 9223372036854775808 = 9218868437227405312 := by unfold expB at he; omega
  unfold Ieee.Format.read
  simp only [hb, hi, hs, hr]
  rw [if_neg (by decide), if_neg (by decide), if_pos trivial]
  rfl
theorem near_fin (b : Nat) (h : b < 18446744073709551616) (he : expB b < 2047) :
    ∃ r, (∀ w, Calls Tryz.prog 96 #[.float .f64 b] w fun e w' => e = .returned (.float .f64 r) ∧ w = w') ∧ WholeD (FloatKind.f64.format.read r) (sB b) (roundU b) := by
  unfold roundU
  by_cases c1 : expB b < 1022
  · rw [if_pos c1]
    exact ⟨_, round_low b h c1, whole_low b h⟩
  · rw [if_neg c1]
    by_cases c2 : expB b = 1022
    · rw [if_pos c2]
      exact ⟨_, round_half b h c2, whole_half b h⟩
    · rw [if_neg c2]
      by_cases c3 : expB b < 1075
      · rw [if_pos c3]
        obtain ⟨k, hk⟩ : ∃ k, expB b = 1023 + k := ⟨expB b - 1023, by omega⟩
        have hw := whole_mid b k h hk (by omega)
        rw [show 1074 - expB b = 51 - k from by omega, show 1075 - expB b = 52 - k from by omega]
        exact ⟨_, round_mid b k h hk (by omega), hw⟩
      · rw [if_neg c3]
        exact ⟨_, round_high b h (by omega), whole_high b h (by omega) he⟩
theorem near32_any (b : Nat) (h : b < 18446744073709551616) (w : World) :
    Calls Tryz.prog 74 #[.float .f64 b, .int .i64 32] w fun e w' => e = .returned (.int .i64 (nearI (-2147483648) 2147483647 b)) ∧ w = w' := by
  unfold nearI
  rcases Bool.eq_false_or_eq_true (nanB b) with hn | hn
  · have he := nan_exp b hn
    rw [if_pos hn]
    exact near32_nan b b (round_high b h (by omega)) hn w
  · rw [if_neg (by rw [hn]; decide)]
    by_cases he : expB b = 2047
    · rw [if_pos he]
      have hi := read_inf b hn he
      have ha : FloatKind.f64.format.read 13970166044103278592 = .number true 4503599627370496 (-21) := by decide +kernel
      have hb : FloatKind.f64.format.read 4746794007248502784 = .number false 4503599627370496 (-21) := by decide +kernel
      have o1 : FloatKind.f64.format.order b 13970166044103278592 = some (if sB b then .lt else .gt) := by
        show (FloatKind.f64.format.read b).order _ = _
        rw [hi, ha]; rfl
      have o2 : FloatKind.f64.format.order b 4746794007248502784 = some (if sB b then .lt else .gt) := by
        show (FloatKind.f64.format.read b).order _ = _
        rw [hi, hb]; rfl
      rcases Bool.eq_false_or_eq_true (sB b) with hs | hs
      · rw [hs] at o1 o2 ⊢
        exact near32_lt b b (round_high b h (by omega)) hn (by rw [o1]; rfl) w
      · rw [hs] at o1 o2 ⊢
        exact near32_ge b b (round_high b h (by omega)) hn (by rw [o1]; rfl) (by rw [o2]; rfl) w
    · rw [if_neg he]
      obtain ⟨r, hr, hw⟩ := near_fin b h (by have := exp_lt b; omega)
      exact near32_whole b r (sB b) (roundU b) hr hw w
theorem near64_any (b : Nat) (h : b < 18446744073709551616) (w : World) :
    Calls Tryz.prog 74 #[.float .f64 b, .int .i64 64] w fun e w' => e = .returned (.int .i64 (nearI (-9223372036854775808) 9223372036854775807 b)) ∧ w = w' := by
  unfold nearI
  rcases Bool.eq_false_or_eq_true (nanB b) with hn | hn
  · have he := nan_exp b hn
    rw [if_pos hn]
    exact near64_nan b b (round_high b h (by omega)) hn w
  · rw [if_neg (by rw [hn]; decide)]
    by_cases he : expB b = 2047
    · rw [if_pos he]
      have hi := read_inf b hn he
      have ha : FloatKind.f64.format.read 14114281232179134464 = .number true 4503599627370496 11 := by decide +kernel
      have hb : FloatKind.f64.format.read 4890909195324358656 = .number false 4503599627370496 11 := by decide +kernel
      have o1 : FloatKind.f64.format.order b 14114281232179134464 = some (if sB b then .lt else .gt) := by
        show (FloatKind.f64.format.read b).order _ = _
        rw [hi, ha]; rfl
      have o2 : FloatKind.f64.format.order b 4890909195324358656 = some (if sB b then .lt else .gt) := by
        show (FloatKind.f64.format.read b).order _ = _
        rw [hi, hb]; rfl
      rcases Bool.eq_false_or_eq_true (sB b) with hs | hs
      · rw [hs] at o1 o2 ⊢
        exact near64_lt b b (round_high b h (by omega)) hn (by rw [o1]; rfl) w
      · rw [hs] at o1 o2 ⊢
        exact near64_ge b b (round_high b h (by omega)) hn (by rw [o1]; rfl) (by rw [o2]; rfl) w
    · rw [if_neg he]
      obtain ⟨r, hr, hw⟩ := near_fin b h (by have := exp_lt b; omega)
      exact near64_whole b r (sB b) (roundU b) hr hw w
theorem conv_cut (b : Nat) (s : Bool) (N R t : Nat) (hr : FloatKind.f64.format.read b = .number s (N * 2 ^ t + R) (-(t : Int))) (hR : R < 2 ^ t) (hN : N < 9007199254740992) (w : World) :
    (convert 69 2 (.float .f64 b)).run Tryz.prog w = .ok (.int .i64 (sgn s N)) w := by
  refine run_convert_float_int w 69 2 .f64 .i64 b (sgn s N) (by rw [Tryz.underlying69]; rfl) Tryz.underlying2 ?_
  have hb := sgn_lo s N 9007199254740992 (by omega)
  unfold floatToIntVal
  have : (FloatKind.f64.decode b).toInt .zero = some (sgn s N) := by
    show (FloatKind.f64.format.read b).toInt .zero = _
    rw [hr]; exact toInt_cut s N R t hR
  rw [this]
  have hm : IntKind.i64.min ≤ sgn s N ∧ sgn s N ≤ IntKind.i64.max := ⟨by show (-9223372036854775808 : Int) ≤ _; omega, by show _ ≤ (9223372036854775807 : Int); omega⟩
  simp only [hm, and_self, if_true]
theorem wrap64_mid (x : Int) (h0 : -9223372036854775808 ≤ x) (h1 : x ≤ 9223372036854775807) : wrap64 x = x := by unfold wrap64; omega
theorem refNear2_any (b : Nat) (h : b < 18446744073709551616) (w : World) :
    Calls Tryz.prog 39 #[.int .i64 2, .float .f64 b] w fun e w' => e = .returned (.int .i64 (nearI (-2147483648) 2147483647 b)) ∧ w = w' := by
  unfold nearI
  rcases Bool.eq_false_or_eq_true (nanB b) with hn | hn
  · rw [if_pos hn]
    exact refNear2_nan b hn w
  · rw [if_neg (by rw [hn]; decide)]
    by_cases he : expB b = 2047
    · rw [if_pos he]
      have hi := read_inf b hn he
      have ha : FloatKind.f64.format.read 14114281232179134464 = .number true 4503599627370496 11 := by decide +kernel
      have hb : FloatKind.f64.format.read 4890909195324358656 = .number false 4503599627370496 11 := by decide +kernel
      have o1 : FloatKind.f64.format.order b 14114281232179134464 = some (if sB b then .lt else .gt) := by
        show (FloatKind.f64.format.read b).order _ = _
        rw [hi, ha]; rfl
      have o2 : FloatKind.f64.format.order b 4890909195324358656 = some (if sB b then .lt else .gt) := by
        show (FloatKind.f64.format.read b).order _ = _
        rw [hi, hb]; rfl
      rcases Bool.eq_false_or_eq_true (sB b) with hs | hs
      · rw [hs] at o1 o2 ⊢
        exact refNear2_le b hn (by rw [o2]; rfl) (by rw [o1]; rfl) w
      · rw [hs] at o1 o2 ⊢
        exact refNear2_ge b hn (by rw [o2]; rfl) w
    · rw [if_neg he]
      have he2 : expB b < 2047 := by have := exp_lt b; omega
      by_cases c : expB b < 1075
      · obtain ⟨N, R, t, hr, hA, ht, hR, hU⟩ := parts b h c
        have hN : N < 9007199254740992 := by
          have : N * 1 ≤ N * 2 ^ t := Nat.mul_le_mul_left _ (Nat.pow_pos (by decide))
          omega
        have hv := sgn_lo (sB b) N 9007199254740992 (by omega)
        obtain ⟨i1, i2⟩ := inside_low b (sB b) _ t hr hA
        obtain ⟨q, hq, σ, s1, j, hqr, hj, hσ⟩ := rest_read b (sB b) N R t hr hA ht
        obtain ⟨d1, d2⟩ := half_ways q σ (sB b) R s1 t j hqr hj hσ
        have hc := conv_cut b (sB b) N R t hr hR hN
        have hs : ∀ w, (binOp .sub 69 (.float .f64 b) (.float .f64 (floatOfInt .f64 (sgn (sB b) N)))).run Tryz.prog w = .ok (.float .f64 q) w := fun w => run_float_arith w .sub 69 .f64 _ _ q hq
        rw [hU]
        by_cases g : 2 ^ t ≤ 2 * R
        · rw [if_pos g, sgn_up]
          rw [decide_eq_true g, Bool.and_true] at d1 d2
          rcases Bool.eq_false_or_eq_true (sB b) with hs2 | hs2
          · rw [hs2] at hv hc hs d1 d2 ⊢
            rw [if_pos rfl]
            have := refNear2_down b hn i1 i2 _ q hc hs d1 d2 w
            rw [wrap64_mid _ (by omega) (by omega)] at this
            exact this
          · rw [hs2] at hv hc hs d1 d2 ⊢
            rw [if_neg (by decide)]
            have := refNear2_up b hn i1 i2 _ q hc hs d1 d2 w
            rw [wrap64_mid _ (by omega) (by omega)] at this
            exact this
        · rw [if_neg g]
          rw [decide_eq_false g, Bool.and_false] at d1 d2
          exact refNear2_none b hn i1 i2 _ q hc hs d1 d2 w
      · have hU : roundU b = mB b * 2 ^ (expB b - 1075) := by unfold roundU; rw [if_neg (by omega), if_neg (by omega), if_neg c]
        have hw := whole_high b h (by omega) he2
        have hr := read_fin b h (by omega) he2
        rw [hU]
        have o1 : FloatKind.f64.format.order b 14114281232179134464 = some (compare (sgn (sB b) (mB b * 2 ^ (expB b - 1075))) (sgn true 9223372036854775808)) := order_whole hw whole_least64
        have o2 : FloatKind.f64.format.order b 4890909195324358656 = some (compare (sgn (sB b) (mB b * 2 ^ (expB b - 1075))) (sgn false 9223372036854775808)) := order_whole hw whole_most64
        have e1 : sgn true 9223372036854775808 = -9223372036854775808 := rfl
        have e2 : sgn false 9223372036854775808 = 9223372036854775808 := rfl
        rw [e1] at o1
        rw [e2] at o2
        obtain ⟨j, hj⟩ : ∃ j, expB b - 1075 = j := ⟨_, rfl⟩
        rw [hj] at hw o1 o2 ⊢
        rw [show (expB b : Int) - 1075 = (j : Int) from by omega] at hr
        have lo := mB_lo b
        have up := mB_hi b
        by_cases c2 : sgn (sB b) (mB b * 2 ^ j) < 9223372036854775808
        · by_cases c1 : -9223372036854775808 < sgn (sB b) (mB b * 2 ^ j)
          · have n2 : (FloatKind.f64.format.order b 4890909195324358656 == some .gt || FloatKind.f64.format.order b 4890909195324358656 == some .eq) = false := by rw [o2, Int.compare_eq_lt.2 c2]; rfl
            have n1 : (FloatKind.f64.format.order b 14114281232179134464 == some .lt || FloatKind.f64.format.order b 14114281232179134464 == some .eq) = false := by rw [o1, Int.compare_eq_gt.2 c1]; rfl
            have hj2 : j ≤ 900 := by
              apply Classical.byContradiction
              intro hh
              have p1 : 2 ^ 11 ≤ 2 ^ j := Nat.pow_le_pow_right (by decide) (by omega)
              have p2 : mB b * 2 ^ 11 ≤ mB b * 2 ^ j := Nat.mul_le_mul_left _ p1
              have p3 := sgn_natAbs (sB b) (mB b * 2 ^ j)
              omega
            obtain ⟨q, hq, σ, s1, i, hqr, hi2, hσ⟩ := rest_whole b (sB b) (mB b) j hr (by omega) up hj2
            obtain ⟨d1, d2⟩ := half_ways q σ (sB b) 0 s1 0 i hqr hi2 hσ
            rw [show decide (2 ^ 0 ≤ 2 * 0) = false from by decide, Bool.and_false] at d1 d2
            exact refNear2_none b hn n2 n1 _ q (whole_int hw (by omega) (by omega)) (fun w => run_float_arith w .sub 69 .f64 _ _ q hq) d1 d2 w
          · have n2 : (FloatKind.f64.format.order b 4890909195324358656 == some .gt || FloatKind.f64.format.order b 4890909195324358656 == some .eq) = false := by rw [o2, Int.compare_eq_lt.2 c2]; rfl
            have n1 : (FloatKind.f64.format.order b 14114281232179134464 == some .lt || FloatKind.f64.format.order b 14114281232179134464 == some .eq) = true := by
              rw [o1]
              rcases Int.lt_or_eq_of_le (Int.not_lt.1 c1) with g | g
              · rw [Int.compare_eq_lt.2 g]; rfl
              · rw [g]; simp
            rw [show max (-2147483648) (min 2147483647 (sgn (sB b) (mB b * 2 ^ j))) = (-2147483648) from by omega]
            exact refNear2_le b hn n2 n1 w
        · have n2 : (FloatKind.f64.format.order b 4890909195324358656 == some .gt || FloatKind.f64.format.order b 4890909195324358656 == some .eq) = true := by
            rw [o2]
            rcases Int.lt_or_eq_of_le (Int.not_lt.1 c2) with g | g
            · rw [Int.compare_eq_gt.2 g]; rfl
            · rw [← g]; simp
          rw [show max (-2147483648) (min 2147483647 (sgn (sB b) (mB b * 2 ^ j))) = 2147483647 from by omega]
          exact refNear2_ge b hn n2 w
theorem refNear3_any (b : Nat) (h : b < 18446744073709551616) (w : World) :
    Calls Tryz.prog 39 #[.int .i64 3, .float .f64 b] w fun e w' => e = .returned (.int .i64 (nearI (-9223372036854775808) 9223372036854775807 b)) ∧ w = w' := by
  unfold nearI
  rcases Bool.eq_false_or_eq_true (nanB b) with hn | hn
  · rw [if_pos hn]
    exact refNear3_nan b hn w
  · rw [if_neg (by rw [hn]; decide)]
    by_cases he : expB b = 2047
    · rw [if_pos he]
      have hi := read_inf b hn he
      have ha : FloatKind.f64.format.read 14114281232179134464 = .number true 4503599627370496 11 := by decide +kernel
      have hb : FloatKind.f64.format.read 4890909195324358656 = .number false 4503599627370496 11 := by decide +kernel
      have o1 : FloatKind.f64.format.order b 14114281232179134464 = some (if sB b then .lt else .gt) := by
        show (FloatKind.f64.format.read b).order _ = _
        rw [hi, ha]; rfl
      have o2 : FloatKind.f64.format.order b 4890909195324358656 = some (if sB b then .lt else .gt) := by
        show (FloatKind.f64.format.read b).order _ = _
        rw [hi, hb]; rfl
      rcases Bool.eq_false_or_eq_true (sB b) with hs | hs
      · rw [hs] at o1 o2 ⊢
        exact refNear3_le b hn (by rw [o2]; rfl) (by rw [o1]; rfl) w
      · rw [hs] at o1 o2 ⊢
        exact refNear3_ge b hn (by rw [o2]; rfl) w
    · rw [if_neg he]
      have he2 : expB b < 2047 := by have := exp_lt b; omega
      by_cases c : expB b < 1075
      · obtain ⟨N, R, t, hr, hA, ht, hR, hU⟩ := parts b h c
        have hN : N < 9007199254740992 := by
          have : N * 1 ≤ N * 2 ^ t := Nat.mul_le_mul_left _ (Nat.pow_pos (by decide))
          omega
        have hv := sgn_lo (sB b) N 9007199254740992 (by omega)
        obtain ⟨i1, i2⟩ := inside_low b (sB b) _ t hr hA
        obtain ⟨q, hq, σ, s1, j, hqr, hj, hσ⟩ := rest_read b (sB b) N R t hr hA ht
        obtain ⟨d1, d2⟩ := half_ways q σ (sB b) R s1 t j hqr hj hσ
        have hc := conv_cut b (sB b) N R t hr hR hN
        have hs : ∀ w, (binOp .sub 69 (.float .f64 b) (.float .f64 (floatOfInt .f64 (sgn (sB b) N)))).run Tryz.prog w = .ok (.float .f64 q) w := fun w => run_float_arith w .sub 69 .f64 _ _ q hq
        rw [hU]
        by_cases g : 2 ^ t ≤ 2 * R
        · rw [if_pos g, sgn_up]
          rw [decide_eq_true g, Bool.and_true] at d1 d2
          rcases Bool.eq_false_or_eq_true (sB b) with hs2 | hs2
          · rw [hs2] at hv hc hs d1 d2 ⊢
            rw [if_pos rfl]
            have := refNear3_down b hn i1 i2 _ q hc hs d1 d2 w
            rw [wrap64_mid _ (by omega) (by omega)] at this
            exact this
          · rw [hs2] at hv hc hs d1 d2 ⊢
            rw [if_neg (by decide)]
            have := refNear3_up b hn i1 i2 _ q hc hs d1 d2 w
            rw [wrap64_mid _ (by omega) (by omega)] at this
            exact this
        · rw [if_neg g]
          rw [decide_eq_false g, Bool.and_false] at d1 d2
          exact refNear3_none b hn i1 i2 _ q hc hs d1 d2 w
      · have hU : roundU b = mB b * 2 ^ (expB b - 1075) := by unfold roundU; rw [if_neg (by omega), if_neg (by omega), if_neg c]
        have hw := whole_high b h (by omega) he2
        have hr := read_fin b h (by omega) he2
        rw [hU]
        have o1 : FloatKind.f64.format.order b 14114281232179134464 = some (compare (sgn (sB b) (mB b * 2 ^ (expB b - 1075))) (sgn true 9223372036854775808)) := order_whole hw whole_least64
        have o2 : FloatKind.f64.format.order b 4890909195324358656 = some (compare (sgn (sB b) (mB b * 2 ^ (expB b - 1075))) (sgn false 9223372036854775808)) := order_whole hw whole_most64
        have e1 : sgn true 9223372036854775808 = -9223372036854775808 := rfl
        have e2 : sgn false 9223372036854775808 = 9223372036854775808 := rfl
        rw [e1] at o1
        rw [e2] at o2
        obtain ⟨j, hj⟩ : ∃ j, expB b - 1075 = j := ⟨_, rfl⟩
        rw [hj] at hw o1 o2 ⊢
        rw [show (expB b : Int) - 1075 = (j : Int) from by omega] at hr
        have lo := mB_lo b
        have up := mB_hi b
        by_cases c2 : sgn (sB b) (mB b * 2 ^ j) < 9223372036854775808
        · by_cases c1 : -9223372036854775808 < sgn (sB b) (mB b * 2 ^ j)
          · have n2 : (FloatKind.f64.format.order b 4890909195324358656 == some .gt || FloatKind.f64.format.order b 4890909195324358656 == some .eq) = false := by rw [o2, Int.compare_eq_lt.2 c2]; rfl
            have n1 : (FloatKind.f64.format.order b 14114281232179134464 == some .lt || FloatKind.f64.format.order b 14114281232179134464 == some .eq) = false := by rw [o1, Int.compare_eq_gt.2 c1]; rfl
            have hj2 : j ≤ 900 := by
              apply Classical.byContradiction
              intro hh
              have p1 : 2 ^ 11 ≤ 2 ^ j := Nat.pow_le_pow_right (by decide) (by omega)
              have p2 : mB b * 2 ^ 11 ≤ mB b * 2 ^ j := Nat.mul_le_mul_left _ p1
              have p3 := sgn_natAbs (sB b) (mB b * 2 ^ j)
              omega
            obtain ⟨q, hq, σ, s1, i, hqr, hi2, hσ⟩ := rest_whole b (sB b) (mB b) j hr (by omega) up hj2
            obtain ⟨d1, d2⟩ := half_ways q σ (sB b) 0 s1 0 i hqr hi2 hσ
            rw [show decide (2 ^ 0 ≤ 2 * 0) = false from by decide, Bool.and_false] at d1 d2
            exact refNear3_none b hn n2 n1 _ q (whole_int hw (by omega) (by omega)) (fun w => run_float_arith w .sub 69 .f64 _ _ q hq) d1 d2 w
          · have n2 : (FloatKind.f64.format.order b 4890909195324358656 == some .gt || FloatKind.f64.format.order b 4890909195324358656 == some .eq) = false := by rw [o2, Int.compare_eq_lt.2 c2]; rfl
            have n1 : (FloatKind.f64.format.order b 14114281232179134464 == some .lt || FloatKind.f64.format.order b 14114281232179134464 == some .eq) = true := by
              rw [o1]
              rcases Int.lt_or_eq_of_le (Int.not_lt.1 c1) with g | g
              · rw [Int.compare_eq_lt.2 g]; rfl
              · rw [g]; simp
            rw [show max (-9223372036854775808) (min 9223372036854775807 (sgn (sB b) (mB b * 2 ^ j))) = (-9223372036854775808) from by omega]
            exact refNear3_le b hn n2 n1 w
        · have n2 : (FloatKind.f64.format.order b 4890909195324358656 == some .gt || FloatKind.f64.format.order b 4890909195324358656 == some .eq) = true := by
            rw [o2]
            rcases Int.lt_or_eq_of_le (Int.not_lt.1 c2) with g | g
            · rw [Int.compare_eq_gt.2 g]; rfl
            · rw [← g]; simp
          rw [show max (-9223372036854775808) (min 9223372036854775807 (sgn (sB b) (mB b * 2 ^ j))) = 9223372036854775807 from by omega]
          exact refNear3_ge b hn n2 w
end Go.Proofs.YtpgfogfejemojaaGreatDoor
