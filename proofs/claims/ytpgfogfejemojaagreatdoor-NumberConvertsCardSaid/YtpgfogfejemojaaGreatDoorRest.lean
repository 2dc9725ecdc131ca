/-
  Plain facts of reals: what is left of a real behind its whole part, as it stands to a half; the nearest whole number.
-/
import Derived.Test.YtpgfogfejemojaaGreatDoorFlt3
import Derived.Test.YtpgfogfejemojaaGreatDoorNearM
set_option linter.unusedVariables false
namespace Go.Proofs.YtpgfogfejemojaaGreatDoor
open Go.RowKit

/-- As read_exact, and the last place is one of the format's. -/
theorem read_exact2 (neg : Bool) (M : Nat) (p : Int) (hM : M < 9007199254740992) (h0 : -1074 ≤ p) (h1 : p ≤ 900) :
    ∃ s : Nat, FloatKind.f64.format.read (FloatKind.f64.format.write (.number neg M p)) = .number neg (M * 2 ^ s) (p - s) ∧ -1074 ≤ p - s := by
  by_cases hz : M = 0
  · refine ⟨(p + 1074).toNat, ?_, by omega⟩
    show FloatKind.f64.format.read (FloatKind.f64.format.nearest neg M p) = _
    unfold Ieee.Format.nearest
    rw [if_pos hz]
    have := read_word neg 0 0 (by decide) (.inl rfl) (by decide)
    rw [Nat.zero_mul, Nat.zero_add] at this
    rw [this, hz, Nat.zero_mul]
    congr 1
    omega
  · obtain ⟨s, hs⟩ := read_exact neg M p hM h0 h1
    refine ⟨s, hs, ?_⟩
    -- what is read has a place of the format
    generalize FloatKind.f64.format.write (.number neg M p) = wd at hs
    have hb : FloatKind.f64.format.leastPlace = -1074 := by decide
    unfold Ieee.Format.read at hs
    simp only [hb] at hs
    split at hs
    · have := (Ieee.Datum.number.inj hs).2.2; omega
    · split at hs
      · have := (Ieee.Datum.number.inj hs).2.2; omega
      · split at hs <;> cases hs
theorem sgn_zero (s : Bool) : sgn s 0 = 0 := by cases s <;> rfl
theorem sgn_neg (s : Bool) (U : Nat) : sgn (!s) U = -sgn s U := by cases s <;> simp [sgn]
theorem sgn_lt (s : Bool) (U : Nat) (h : U ≠ 0) : decide (sgn s U < 0) = s := by
  cases s
  · simp [sgn]; 
  · simp [sgn]; omega
theorem sgn_natAbs (s : Bool) (U : Nat) : (sgn s U).natAbs = U := by cases s <;> simp [sgn]
/-- The integer N with its sign, as the format has it. -/
theorem ofInt_read (s : Bool) (N : Nat) (hN : N < 9007199254740992) :
    ∃ s0 : Nat, FloatKind.f64.format.read (floatOfInt .f64 (sgn s N)) = .number (decide (sgn s N < 0)) (N * 2 ^ s0) (-(s0 : Int)) ∧ s0 ≤ 1074 := by
  obtain ⟨s0, h, h2⟩ := read_exact2 (decide (sgn s N < 0)) N 0 hN (by decide) (by decide)
  refine ⟨s0, ?_, by omega⟩
  rw [Int.zero_sub] at h
  rw [← h]
  show FloatKind.f64.format.read (FloatKind.f64.format.write (.number (decide (sgn s N < 0)) (sgn s N).natAbs 0)) = _
  rw [sgn_natAbs]
theorem pow_split (t B : Nat) (h : t ≤ B) : 2 ^ B = 2 ^ t * 2 ^ (B - t) := by
  rw [← Nat.pow_add]; congr 1; omega
/-- What is left of a real behind its whole part, as it stands to a half. -/
theorem rest_read (b : Nat) (s : Bool) (N R t : Nat) (hb : FloatKind.f64.format.read b = .number s (N * 2 ^ t + R) (-(t : Int))) (hA : N * 2 ^ t + R < 9007199254740992) (ht : t ≤ 1074) :
    ∃ q, FloatKind.f64.format.sub b (floatOfInt .f64 (sgn s N)) = some q ∧ ∃ (σ : Bool) (s1 : Nat) (j : Int), FloatKind.f64.format.read q = .number σ (R * 2 ^ s1) j ∧ j + (s1 : Int) = -(t : Int) ∧ (R ≠ 0 → σ = s) := by
  have hN : N < 9007199254740992 := by
    have : N * 1 ≤ N * 2 ^ t := Nat.mul_le_mul_left _ (Nat.pow_pos (by decide))
    omega
  obtain ⟨s0, h0, hs0⟩ := ofInt_read s N hN
  unfold Ieee.Format.sub
  rw [hb, h0]
  simp only [Ieee.Datum.opposite, Ieee.Datum.sum, Option.map_some]
  refine ⟨_, rfl, ?_⟩
  obtain ⟨B, hB⟩ : ∃ B : Nat, max t s0 = B := ⟨_, rfl⟩
  have hbase : min (-(t : Int)) (-(s0 : Int)) = -(B : Int) := by omega
  rw [hbase, signed_eq, signed_eq, show (-(t : Int) - -(B : Int)).toNat = B - t from by omega, show (-(s0 : Int) - -(B : Int)).toNat = B - s0 from by omega]
  have e1 : sgn (!decide (sgn s N < 0)) (N * 2 ^ s0 * 2 ^ (B - s0)) = -(sgn s (N * 2 ^ B)) := by
    rw [Nat.mul_assoc, ← pow_split s0 B (by omega), sgn_neg]
    congr 1
    by_cases c : N = 0
    · subst c; rw [Nat.zero_mul, sgn_zero, sgn_zero]
    · rw [sgn_lt s N c]
  have e2 : sgn s ((N * 2 ^ t + R) * 2 ^ (B - t)) = sgn s (N * 2 ^ B) + sgn s (R * 2 ^ (B - t)) := by
    rw [Nat.add_mul, Nat.mul_assoc, ← pow_split t B (by omega)]
    cases s
    · simp [sgn]
    · simp [sgn]; omega
  have e3 : sgn s ((N * 2 ^ t + R) * 2 ^ (B - t)) + sgn (!decide (sgn s N < 0)) (N * 2 ^ s0 * 2 ^ (B - s0)) = sgn s (R * 2 ^ (B - t)) := by rw [e1, e2]; omega
  rw [e3, sgn_natAbs]
  by_cases c : R = 0
  · subst c
    rw [Nat.zero_mul, sgn_zero, if_pos rfl]
    obtain ⟨σ, hσ⟩ : ∃ σ, (s && !decide (sgn s N < 0)) = σ := ⟨_, rfl⟩
    rw [hσ]
    obtain ⟨s2, h2, h3⟩ := read_exact2 σ 0 (-(B : Int)) (by decide) (by omega) (by omega)
    refine ⟨σ, (1074 - t), -1074, ?_, by omega, fun h => absurd rfl h⟩
    show FloatKind.f64.format.read (FloatKind.f64.format.nearest σ 0 _) = _
    unfold Ieee.Format.nearest
    rw [if_pos rfl]
    have := read_word σ 0 0 (by decide) (.inl rfl) (by decide)
    rw [Nat.zero_mul, Nat.zero_add] at this
    rw [this, Nat.zero_mul]
    rfl
  · have hR : R * 2 ^ (B - t) ≠ 0 := Nat.mul_ne_zero c (Nat.ne_of_gt (Nat.pow_pos (by decide)))
    have hz : ¬ sgn s (R * 2 ^ (B - t)) = 0 := by
      intro h
      have := sgn_natAbs s (R * 2 ^ (B - t))
      rw [h] at this
      exact hR this.symm
    rw [if_neg hz, sgn_lt s _ hR]
    obtain ⟨s1, h2, h3⟩ := read_exact2 s R (-(t : Int)) (by omega) (by omega) (by omega)
    refine ⟨s, s1, -(t : Int) - s1, ?_, by omega, fun _ => rfl⟩
    rw [← h2]
    show FloatKind.f64.format.read (FloatKind.f64.format.nearest s (R * 2 ^ (B - t)) (-(B : Int))) = FloatKind.f64.format.read (FloatKind.f64.format.nearest s R (-(t : Int)))
    rw [write_zeros s R (B - t) _ c (by omega) (by omega), show (-(B : Int) + ((B - t : Nat) : Int)) = -(t : Int) from by omega]
theorem order_half (d : Ieee.Datum) (σ : Bool) (R s1 t : Nat) (j : Int) (hd : d = .number σ (R * 2 ^ s1) j) (h : j + (s1 : Int) = -(t : Int)) (s' : Bool) :
    d.order (.number s' 4503599627370496 (-53)) = some (compare (sgn σ (2 * R)) (sgn s' (2 ^ t))) := by
  subst hd
  simp only [Ieee.Datum.order, Option.some.injEq]
  obtain ⟨B, hB⟩ : ∃ B : Nat, min j (-53) = -(B : Int) := ⟨(-(min j (-53))).toNat, by omega⟩
  rw [hB, signed_eq, signed_eq, Nat.mul_assoc, ← Nat.pow_add, show (4503599627370496 : Nat) = 2 ^ 52 from by decide, ← Nat.pow_add]
  have e1 : s1 + (j - -(B : Int)).toNat = B - t := by omega
  have e2 : 52 + (-53 - -(B : Int)).toNat = B - 1 := by omega
  rw [e1, e2]
  by_cases ht : t = 0
  · subst ht
    have hB1 : 2 ^ (B - 0) = 2 * 2 ^ (B - 1) := by rw [Nat.sub_zero, Nat.mul_comm, ← Nat.pow_succ]; congr 1; omega
    rw [hB1, ← Nat.mul_assoc, Nat.mul_comm R 2, sgn_mul, show 2 ^ (B - 1) = 2 ^ 0 * 2 ^ (B - 1) from by rw [Nat.pow_zero, Nat.one_mul], sgn_mul s' (2 ^ 0), Nat.pow_zero, Nat.one_mul]
    exact compare_mul _ _ _ (Nat.pow_pos (by decide))
  · by_cases hBt : B = t
    · subst hBt
      rw [Nat.sub_self, Nat.pow_zero, Nat.mul_one, ← compare_mul (sgn σ R) _ 2 (by decide), ← sgn_mul, ← sgn_mul, Nat.mul_comm R 2, ← Nat.pow_succ, show (B - 1).succ = B from by omega]
    · have hB1 : 2 ^ (B - t) = 2 * 2 ^ (B - t - 1) := by rw [Nat.mul_comm, ← Nat.pow_succ]; congr 1; omega
      have hB2 : 2 ^ (B - 1) = 2 ^ t * 2 ^ (B - t - 1) := by rw [← Nat.pow_add]; congr 1; omega
      rw [hB1, hB2, ← Nat.mul_assoc, Nat.mul_comm R 2, sgn_mul, sgn_mul s' (2 ^ t)]
      exact compare_mul _ _ _ (Nat.pow_pos (by decide))
theorem order_top (s : Bool) (A t : Nat) (s' : Bool) :
    (Ieee.Datum.number s A (-(t : Int))).order (.number s' 4503599627370496 11) = some (compare (sgn s A) (sgn s' (9223372036854775808 * 2 ^ t))) := by
  simp only [Ieee.Datum.order, Option.some.injEq]
  rw [show min (-(t : Int)) 11 = -(t : Int) from by omega, signed_eq, signed_eq, Int.sub_self, Int.toNat_zero, Nat.pow_zero, Nat.mul_one, show (11 - -(t : Int)).toNat = 11 + t from by omega, Nat.pow_add, ← Nat.mul_assoc]
theorem toInt_cut (s : Bool) (N R t : Nat) (hR : R < 2 ^ t) : (Ieee.Datum.number s (N * 2 ^ t + R) (-(t : Int))).toInt .zero = some (sgn s N) := by
  unfold Ieee.Datum.toInt Ieee.Datum.integral
  simp only [Option.some.injEq]
  rw [signed_eq, Nat.pow_zero, Nat.mul_one]
  congr 1
  unfold Ieee.Toward.cut
  simp only [Bool.toNat_false, Nat.add_zero]
  rw [Nat.shiftLeft_eq, Nat.shiftLeft_eq, Nat.one_mul, show (-(t : Int)).toNat = 0 from by omega, Nat.pow_zero, Nat.mul_one, show (- -(t : Int)).toNat = t from by omega]
  have hdiv : (N * 2 ^ t + R) / 2 ^ t = N := by
    rw [Nat.mul_comm, Nat.mul_add_div (Nat.pow_pos (by decide)), Nat.div_eq_of_lt hR, Nat.add_zero]
  generalize N * 2 ^ t + R = A at *
  by_cases c : t ≤ A.log2 + 2
  · rw [Nat.min_eq_left c, hdiv]
  · have hlt : A < 2 ^ (A.log2 + 1) := Nat.lt_log2_self
    have hp : 2 ^ (A.log2 + 1) ≤ 2 ^ t := Nat.pow_le_pow_right (by decide) (by omega)
    have hp2 : 2 ^ (A.log2 + 1) ≤ 2 ^ (A.log2 + 2) := Nat.pow_le_pow_right (by decide) (by omega)
    rw [Nat.div_eq_of_lt (by omega)] at hdiv
    rw [Nat.min_eq_right (by omega), Nat.div_eq_of_lt (by omega), hdiv]
/-- The way of the reference: by the rest against a half. -/
theorem half_ways (q : Nat) (σ s : Bool) (R s1 t : Nat) (j : Int) (hq : FloatKind.f64.format.read q = .number σ (R * 2 ^ s1) j) (h : j + (s1 : Int) = -(t : Int)) (hσ : R ≠ 0 → σ = s) :
    (FloatKind.f64.format.order q 4602678819172646912 == some .gt || FloatKind.f64.format.order q 4602678819172646912 == some .eq) = (!s && decide (2 ^ t ≤ 2 * R)) ∧
    (FloatKind.f64.format.order q 13826050856027422720 == some .lt || FloatKind.f64.format.order q 13826050856027422720 == some .eq) = (s && decide (2 ^ t ≤ 2 * R)) := by
  have r1 : FloatKind.f64.format.read 4602678819172646912 = .number false 4503599627370496 (-53) := by decide +kernel
  have r2 : FloatKind.f64.format.read 13826050856027422720 = .number true 4503599627370496 (-53) := by decide +kernel
  have o1 : FloatKind.f64.format.order q 4602678819172646912 = some (compare (sgn σ (2 * R)) (sgn false (2 ^ t))) := by
    show (FloatKind.f64.format.read q).order _ = _
    rw [r1]; exact order_half _ σ R s1 t j hq h false
  have o2 : FloatKind.f64.format.order q 13826050856027422720 = some (compare (sgn σ (2 * R)) (sgn true (2 ^ t))) := by
    show (FloatKind.f64.format.read q).order _ = _
    rw [r2]; exact order_half _ σ R s1 t j hq h true
  rw [o1, o2]
  have hp : 0 < 2 ^ t := Nat.pow_pos (by decide)
  generalize 2 ^ t = T at *
  have hs : sgn σ (2 * R) = sgn s (2 * R) := by
    by_cases c : R = 0
    · subst c; rw [Nat.mul_zero, sgn_zero, sgn_zero]
    · rw [hσ c]
  rw [hs]
  cases s
  · simp only [sgn, Bool.false_eq_true, if_false, if_true, Bool.not_false, Bool.true_and, Bool.false_and]
    constructor
    · rcases Nat.lt_trichotomy (2 * R) T with c | c | c
      · rw [Int.compare_eq_lt.2 (by omega), decide_eq_false (by omega)]; rfl
      · rw [Int.compare_eq_eq.2 (by omega), decide_eq_true (by omega)]; rfl
      · rw [Int.compare_eq_gt.2 (by omega), decide_eq_true (by omega)]; rfl
    · rw [Int.compare_eq_gt.2 (by omega)]; rfl
  · simp only [sgn, Bool.false_eq_true, if_false, if_true, Bool.not_true, Bool.true_and, Bool.false_and]
    constructor
    · rw [Int.compare_eq_lt.2 (by omega)]; rfl
    · rcases Nat.lt_trichotomy (2 * R) T with c | c | c
      · rw [Int.compare_eq_gt.2 (by omega), decide_eq_false (by omega)]; rfl
      · rw [Int.compare_eq_eq.2 (by omega), decide_eq_true (by omega)]; rfl
      · rw [Int.compare_eq_lt.2 (by omega), decide_eq_true (by omega)]; rfl
/-- A whole real and the integer that it is: their difference is nothing. -/
theorem rest_whole (b : Nat) (s : Bool) (M j : Nat) (hb : FloatKind.f64.format.read b = .number s M j) (hM0 : M ≠ 0) (hM : M < 9007199254740992) (hj : j ≤ 900) :
    ∃ q, FloatKind.f64.format.sub b (floatOfInt .f64 (sgn s (M * 2 ^ j))) = some q ∧ ∃ (σ : Bool) (s1 : Nat) (i : Int), FloatKind.f64.format.read q = .number σ (0 * 2 ^ s1) i ∧ i + (s1 : Int) = -((0 : Nat) : Int) ∧ ((0 : Nat) ≠ 0 → σ = s) := by
  obtain ⟨s0, h0, h2⟩ := read_exact2 s M j hM (by omega) (by omega)
  have hN : M * 2 ^ j ≠ 0 := Nat.mul_ne_zero hM0 (Nat.ne_of_gt (Nat.pow_pos (by decide)))
  have hr : FloatKind.f64.format.read (floatOfInt .f64 (sgn s (M * 2 ^ j))) = .number s (M * 2 ^ s0) ((j : Int) - s0) := by
    rw [← h0]
    show FloatKind.f64.format.read (FloatKind.f64.format.write (.number (decide (sgn s (M * 2 ^ j) < 0)) (sgn s (M * 2 ^ j)).natAbs 0)) = _
    rw [sgn_natAbs, sgn_lt s _ hN]
    show FloatKind.f64.format.read (FloatKind.f64.format.nearest s (M * 2 ^ j) 0) = FloatKind.f64.format.read (FloatKind.f64.format.nearest s M j)
    rw [write_zeros s M j 0 hM0 hM (by decide), Int.zero_add]
  unfold Ieee.Format.sub
  rw [hb, hr]
  simp only [Ieee.Datum.opposite, Ieee.Datum.sum, Option.map_some]
  refine ⟨_, rfl, ?_⟩
  have hbase : min (j : Int) ((j : Int) - s0) = (j : Int) - s0 := by omega
  rw [hbase, signed_eq, signed_eq, Int.sub_self, Int.toNat_zero, Nat.pow_zero, Nat.mul_one, show ((j : Int) - ((j : Int) - s0)).toNat = s0 from by omega, sgn_neg, Int.add_right_neg, if_pos rfl]
  obtain ⟨σ, hσ⟩ : ∃ σ, (s && !s) = σ := ⟨_, rfl⟩
  rw [hσ]
  obtain ⟨K, hK⟩ : ∃ K : Nat, K = 1074 := ⟨_, rfl⟩
  refine ⟨σ, K, -1074, ?_, by omega, fun h => absurd rfl h⟩
  show FloatKind.f64.format.read (FloatKind.f64.format.nearest σ 0 _) = _
  unfold Ieee.Format.nearest
  rw [if_pos rfl]
  have := read_word σ 0 0 (by decide) (.inl rfl) (by decide)
  rw [Nat.zero_mul, Nat.zero_add] at this
  rw [this, Nat.zero_mul]
  rfl
/-- The nearest whole number of a real that is a number, without its sign. -/
def roundU (b : Nat) : Nat :=
  if expB b < 1022 then 0 else if expB b = 1022 then 1 else if expB b < 1075 then (mB b + 2 ^ (1074 - expB b)) / 2 ^ (1075 - expB b) else mB b * 2 ^ (expB b - 1075)
theorem mB_lo (b : Nat) : 4503599627370496 ≤ mB b := by unfold mB; omega
theorem mB_hi (b : Nat) : mB b < 9007199254740992 := by unfold mB; omega
theorem half_up (N R H P : Nat) (hP : P = 2 * H) (hH : 0 < H) (hR : R < P) : (N * P + R + H) / P = if P ≤ 2 * R then N + 1 else N := by
  by_cases c : P ≤ 2 * R
  · rw [if_pos c]
    apply Nat.div_eq_of_lt_le
    · rw [Nat.add_mul]; omega
    · rw [Nat.add_mul, Nat.add_mul]; omega
  · rw [if_neg c]
    apply Nat.div_eq_of_lt_le
    · omega
    · rw [Nat.add_mul]; omega
/-- A real below 2^52: its whole part, its rest, and the nearest whole number. -/
theorem parts (b : Nat) (h : b < 18446744073709551616) (he : expB b < 1075) :
    ∃ N R t, FloatKind.f64.format.read b = .number (sB b) (N * 2 ^ t + R) (-((t : Nat) : Int)) ∧ N * 2 ^ t + R < 9007199254740992 ∧ t ≤ 1074 ∧ R < 2 ^ t ∧ roundU b = (if 2 ^ t ≤ 2 * R then N + 1 else N) := by
  have p53 : (2 : Nat) ^ 53 = 9007199254740992 := by decide
  have p54 : (2 : Nat) ^ 54 = 18014398509481984 := by decide
  by_cases e0 : expB b = 0
  · obtain ⟨t, ht⟩ : ∃ t : Nat, t = 1074 := ⟨_, rfl⟩
    have hp : (2 : Nat) ^ 54 ≤ 2 ^ t := Nat.pow_le_pow_right (by decide) (by omega)
    refine ⟨0, b % 4503599627370496, t, ?_, ?_, by omega, ?_, ?_⟩
    · rw [Nat.zero_mul, Nat.zero_add, read_sub b h e0]; congr 1; omega
    · rw [Nat.zero_mul]; omega
    · omega
    · rw [if_neg (by omega)]; unfold roundU; rw [if_pos (by omega)]
  · have hr := read_fin b h (by omega) (by omega)
    have l := mB_lo b
    have u := mB_hi b
    obtain ⟨t, ht⟩ : ∃ t : Nat, 1075 - expB b = t := ⟨_, rfl⟩
    rw [show (expB b : Int) - 1075 = -(t : Int) from by omega] at hr
    by_cases c : expB b < 1023
    · have hp : (2 : Nat) ^ 53 ≤ 2 ^ t := Nat.pow_le_pow_right (by decide) (by omega)
      refine ⟨0, mB b, t, by rw [Nat.zero_mul, Nat.zero_add]; exact hr, by rw [Nat.zero_mul]; omega, by omega, by omega, ?_⟩
      unfold roundU
      by_cases c2 : expB b = 1022
      · rw [if_neg (by omega), if_pos c2]
        obtain rfl : t = 53 := by omega
        rw [p53, if_pos (by omega)]
      · have hp : (2 : Nat) ^ 54 ≤ 2 ^ t := Nat.pow_le_pow_right (by decide) (by omega)
        rw [if_pos (by omega), if_neg (by omega)]
    · have hPp : 0 < 2 ^ t := Nat.pow_pos (by decide)
      have hdm : mB b / 2 ^ t * 2 ^ t + mB b % 2 ^ t = mB b := by rw [Nat.mul_comm]; exact Nat.div_add_mod _ _
      refine ⟨mB b / 2 ^ t, mB b % 2 ^ t, t, by rw [hdm]; exact hr, by rw [hdm]; exact u, by omega, Nat.mod_lt _ hPp, ?_⟩
      have hH : (2 : Nat) ^ t = 2 * 2 ^ (t - 1) := by rw [Nat.mul_comm, ← Nat.pow_succ]; congr 1; omega
      have := half_up (mB b / 2 ^ t) (mB b % 2 ^ t) (2 ^ (t - 1)) (2 ^ t) hH (Nat.pow_pos (by decide)) (Nat.mod_lt _ hPp)
      rw [← this, hdm]
      unfold roundU
      rw [if_neg (by omega), if_neg (by omega), if_pos he, ht, show 1074 - expB b = t - 1 from by omega]
theorem sgn_up (s : Bool) (N : Nat) : sgn s (N + 1) = if s then sgn s N - 1 else sgn s N + 1 := by
  cases s
  · simp [sgn]
  · simp [sgn]; omega
theorem sgn_lo (s : Bool) (U B : Nat) (h : U ≤ B) : -(B : Int) ≤ sgn s U ∧ sgn s U ≤ B := by
  cases s
  · simp only [sgn, Bool.false_eq_true, if_false]; omega
  · simp only [sgn, if_true]; omega
theorem read_top (s : Bool) : FloatKind.f64.format.read (if s then 14114281232179134464 else 4890909195324358656) = .number s 4503599627370496 11 := by cases s <;> decide +kernel
/-- A real below 2^52 is between -2^63 and 2^63. -/
theorem inside_low (b : Nat) (s : Bool) (A t : Nat) (hb : FloatKind.f64.format.read b = .number s A (-(t : Int))) (hA : A < 9007199254740992) :
    (FloatKind.f64.format.order b 4890909195324358656 == some .gt || FloatKind.f64.format.order b 4890909195324358656 == some .eq) = false ∧
    (FloatKind.f64.format.order b 14114281232179134464 == some .lt || FloatKind.f64.format.order b 14114281232179134464 == some .eq) = false := by
  have r1 := read_top false
  have r2 := read_top true
  simp only [if_true, Bool.false_eq_true, if_false] at r1 r2
  have o1 : FloatKind.f64.format.order b 4890909195324358656 = some (compare (sgn s A) (sgn false (9223372036854775808 * 2 ^ t))) := by
    show (FloatKind.f64.format.read b).order _ = _
    rw [hb, r1]; exact order_top s A t false
  have o2 : FloatKind.f64.format.order b 14114281232179134464 = some (compare (sgn s A) (sgn true (9223372036854775808 * 2 ^ t))) := by
    show (FloatKind.f64.format.read b).order _ = _
    rw [hb, r2]; exact order_top s A t true
  have hp : 0 < 2 ^ t := Nat.pow_pos (by decide)
  have hb := sgn_lo s A 9007199254740992 (by omega)
  rw [o1, o2]
  generalize (2 : Nat) ^ t = T at *
  generalize sgn s A = v at *
  simp only [sgn, Bool.false_eq_true, if_false, if_true]
  rw [Int.compare_eq_lt.2 (by omega), Int.compare_eq_gt.2 (by omega)]
  exact ⟨rfl, rfl⟩
theorem self_order (b : Nat) (s : Bool) (A : Nat) (i : Int) (hb : FloatKind.f64.format.read b = .number s A i) : (FloatKind.f64.format.order b b != some .eq) = false := by
  have : FloatKind.f64.format.order b b = some .eq := by
    show (FloatKind.f64.format.read b).order (FloatKind.f64.format.read b) = _
    rw [hb]
    simp only [Ieee.Datum.order]
    rw [Int.compare_eq_eq.2 rfl]
  rw [this]; rfl
end Go.Proofs.YtpgfogfejemojaaGreatDoor
