/-
  number.nearestInteger where math.Round gives a whole number.
-/
import Derived.Test.YtpgfogfejemojaaGreatDoorNearM
set_option linter.unusedVariables false
namespace Go.Proofs.YtpgfogfejemojaaGreatDoor
open Go.RowKit

theorem whole_nan {r : Nat} {s : Bool} {U : Nat} (h : WholeD (FloatKind.f64.format.read r) s U) : nanB r = false := by
  have : FloatKind.f64.format.order r r = some .eq := by
    show (FloatKind.f64.format.read r).order _ = _
    rw [order_whole h h]; simp
  unfold nanB
  rw [this]; rfl
theorem whole_int {r : Nat} {s : Bool} {U : Nat} (h : WholeD (FloatKind.f64.format.read r) s U) (h0 : -9223372036854775808 ≤ sgn s U) (h1 : sgn s U ≤ 9223372036854775807) (w : World) :
    (convert 69 2 (.float .f64 r)).run Tryz.prog w = .ok (.int .i64 (sgn s U)) w := by
  refine run_convert_float_int w 69 2 .f64 .i64 r (sgn s U) (by rw [Tryz.underlying69]; rfl) Tryz.underlying2 ?_
  unfold floatToIntVal
  have : (FloatKind.f64.decode r).toInt .zero = some (sgn s U) := toInt_whole h
  rw [this]
  have hr : IntKind.i64.min ≤ sgn s U ∧ sgn s U ≤ IntKind.i64.max := ⟨h0, h1⟩
  simp only [hr, and_self, if_true]
theorem whole_least32 : WholeD (FloatKind.f64.format.read 13970166044103278592) true 2147483648 := by
  have : FloatKind.f64.format.read 13970166044103278592 = .number true 4503599627370496 (-21) := by decide +kernel
  exact ⟨4503599627370496, -21, this, .inl ⟨by decide, by decide +kernel⟩⟩
theorem whole_most32 : WholeD (FloatKind.f64.format.read 4746794007248502784) false 2147483648 := by
  have : FloatKind.f64.format.read 4746794007248502784 = .number false 4503599627370496 (-21) := by decide +kernel
  exact ⟨4503599627370496, -21, this, .inl ⟨by decide, by decide +kernel⟩⟩
theorem near32_whole (b r : Nat) (s : Bool) (U : Nat) (hr : ∀ w, Calls Tryz.prog 96 #[.float .f64 b] w fun e w' => e = .returned (.float .f64 r) ∧ w = w') (h : WholeD (FloatKind.f64.format.read r) s U) (w : World) :
    Calls Tryz.prog 74 #[.float .f64 b, .int .i64 32] w fun e w' => e = .returned (.int .i64 (max (-2147483648) (min 2147483647 (sgn s U)))) ∧ w = w' := by
  have hn := whole_nan h
  have o1 : FloatKind.f64.format.order r 13970166044103278592 = some (compare (sgn s U) (sgn true 2147483648)) := order_whole h whole_least32
  have o2 : FloatKind.f64.format.order r 4746794007248502784 = some (compare (sgn s U) (sgn false 2147483648)) := order_whole h whole_most32
  have e1 : sgn true 2147483648 = -2147483648 := rfl
  have e2 : sgn false 2147483648 = 2147483648 := rfl
  rw [e1] at o1
  rw [e2] at o2
  have hi := whole_int h
  generalize sgn s U = v at *
  by_cases c1 : v < -2147483648
  · rw [show max (-2147483648) (min 2147483647 v) = -2147483648 from by omega]
    exact near32_lt b r hr hn (by rw [o1, Int.compare_eq_lt.2 c1]; rfl) w
  · have n1 : (FloatKind.f64.format.order r 13970166044103278592 == some .lt) = false := by
      rw [o1]
      rcases Int.lt_or_eq_of_le (Int.not_lt.1 c1) with g | g
      · rw [Int.compare_eq_gt.2 g]; rfl
      · rw [← g]; simp
    by_cases c2 : v < 2147483648
    · have n2 : (FloatKind.f64.format.order r 4746794007248502784 == some .gt || FloatKind.f64.format.order r 4746794007248502784 == some .eq) = false := by rw [o2, Int.compare_eq_lt.2 c2]; rfl
      rw [show max (-2147483648) (min 2147483647 v) = v from by omega]
      exact near32_in b r hr hn n1 n2 v (fun w => hi (by omega) (by omega) w) w
    · have n2 : (FloatKind.f64.format.order r 4746794007248502784 == some .gt || FloatKind.f64.format.order r 4746794007248502784 == some .eq) = true := by
        rw [o2]
        rcases Int.lt_or_eq_of_le (Int.not_lt.1 c2) with g | g
        · rw [Int.compare_eq_gt.2 g]; rfl
        · rw [← g]; simp
      rw [show max (-2147483648) (min 2147483647 v) = 2147483647 from by omega]
      exact near32_ge b r hr hn n1 n2 w
theorem whole_least64 : WholeD (FloatKind.f64.format.read 14114281232179134464) true 9223372036854775808 := by
  have : FloatKind.f64.format.read 14114281232179134464 = .number true 4503599627370496 (11) := by decide +kernel
  exact ⟨4503599627370496, 11, this, .inr ⟨by decide, by decide +kernel⟩⟩
theorem whole_most64 : WholeD (FloatKind.f64.format.read 4890909195324358656) false 9223372036854775808 := by
  have : FloatKind.f64.format.read 4890909195324358656 = .number false 4503599627370496 (11) := by decide +kernel
  exact ⟨4503599627370496, 11, this, .inr ⟨by decide, by decide +kernel⟩⟩
theorem near64_whole (b r : Nat) (s : Bool) (U : Nat) (hr : ∀ w, Calls Tryz.prog 96 #[.float .f64 b] w fun e w' => e = .returned (.float .f64 r) ∧ w = w') (h : WholeD (FloatKind.f64.format.read r) s U) (w : World) :
    Calls Tryz.prog 74 #[.float .f64 b, .int .i64 64] w fun e w' => e = .returned (.int .i64 (max (-9223372036854775808) (min 9223372036854775807 (sgn s U)))) ∧ w = w' := by
  have hn := whole_nan h
  have o1 : FloatKind.f64.format.order r 14114281232179134464 = some (compare (sgn s U) (sgn true 9223372036854775808)) := order_whole h whole_least64
  have o2 : FloatKind.f64.format.order r 4890909195324358656 = some (compare (sgn s U) (sgn false 9223372036854775808)) := order_whole h whole_most64
  have e1 : sgn true 9223372036854775808 = -9223372036854775808 := rfl
  have e2 : sgn false 9223372036854775808 = 9223372036854775808 := rfl
  rw [e1] at o1
  rw [e2] at o2
  have hi := whole_int h
  generalize sgn s U = v at *
  by_cases c1 : v < -9223372036854775808
  · rw [show max (-9223372036854775808) (min 9223372036854775807 v) = -9223372036854775808 from by omega]
    exact near64_lt b r hr hn (by rw [o1, Int.compare_eq_lt.2 c1]; rfl) w
  · have n1 : (FloatKind.f64.format.order r 14114281232179134464 == some .lt) = false := by
      rw [o1]
      rcases Int.lt_or_eq_of_le (Int.not_lt.1 c1) with g | g
      · rw [Int.compare_eq_gt.2 g]; rfl
      · rw [← g]; simp
    by_cases c2 : v < 9223372036854775808
    · have n2 : (FloatKind.f64.format.order r 4890909195324358656 == some .gt || FloatKind.f64.format.order r 4890909195324358656 == some .eq) = false := by rw [o2, Int.compare_eq_lt.2 c2]; rfl
      rw [show max (-9223372036854775808) (min 9223372036854775807 v) = v from by omega]
      exact near64_in b r hr hn n1 n2 v (fun w => hi (by omega) (by omega) w) w
    · have n2 : (FloatKind.f64.format.order r 4890909195324358656 == some .gt || FloatKind.f64.format.order r 4890909195324358656 == some .eq) = true := by
        rw [o2]
        rcases Int.lt_or_eq_of_le (Int.not_lt.1 c2) with g | g
        · rw [Int.compare_eq_gt.2 g]; rfl
        · rw [← g]; simp
      rw [show max (-9223372036854775808) (min 9223372036854775807 v) = 9223372036854775807 from by omega]
      exact near64_ge b r hr hn n1 n2 w
end Go.Proofs.YtpgfogfejemojaaGreatDoor
