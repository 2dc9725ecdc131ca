/-
  math/bits.Div64 and Rem64 at the two moduli; digest.product.
-/
import Derived.Test.YthhaofdnbemogaaDoorDiv
import Derived.Deep.DeepCutAuto
set_option linter.unusedVariables false
namespace Go.Proofs.YthhaofdnbemogaaDoor
open Go.RowKit


set_option maxHeartbeats 4000000 in
set_option maxRecDepth 100000 in
theorem div0_p (lo : Int) (l0 : 0 ≤ lo) (l1 : lo < 18446744073709551616) (w : World) :
    Calls Tryd.prog 89 #[.int .u64 0, .int .u64 lo, .int .u64 2305843009213691579] w fun e w' => e = .returned (.tuple #[.int .u64 (lo / 2305843009213691579), .int .u64 (lo % 2305843009213691579)]) ∧ Below w.heap.size w w' := by
  have h1 : lo.tdiv 2305843009213691579 = lo / 2305843009213691579 := Int.tdiv_eq_ediv_of_nonneg l0
  have h2 : lo.tmod 2305843009213691579 = lo % 2305843009213691579 := Int.tmod_eq_emod_of_nonneg l0
  go_enter Tryd.func89, Tryd.ntmps89
  go_wp2_with fail
  go_quiet (fail)
  go_wp2_with fail
  go_ret2
  exact ⟨rfl, below_drewN (Below.refl _ _) _⟩

set_option maxHeartbeats 4000000 in
set_option maxRecDepth 100000 in
theorem rem_p (hi lo : Int) (h0 : 0 ≤ hi) (h1 : hi < 18446744073709551616) (l0 : 0 ≤ lo) (l1 : lo < 18446744073709551616) (w : World) :
    Calls Tryd.prog 82 #[.int .u64 hi, .int .u64 lo, .int .u64 2305843009213691579] w fun e w' => e = .returned (.int .u64 ((hi * 18446744073709551616 + lo) % 2305843009213691579)) ∧ Below w.heap.size w w' := by
  have hm : hi.tmod 2305843009213691579 = hi % 2305843009213691579 := Int.tmod_eq_emod_of_nonneg h0
  obtain ⟨k, hk⟩ : ∃ k, hi % 2305843009213691579 = k := ⟨_, rfl⟩
  have hv : (hi * 18446744073709551616 + lo) % 2305843009213691579 = (k * 18446744073709551616 + lo) % 2305843009213691579 := by omega
  rw [hv]
  have k0 : 0 ≤ k := by omega
  have k1 : k < 2305843009213691579 := by omega
  have HD : Hid (Calls Tryd.prog 89 #[.int .u64 k, .int .u64 lo, .int .u64 2305843009213691579] w fun e w' => ∃ q, e = .returned (.tuple #[.int .u64 q, .int .u64 ((k * 18446744073709551616 + lo) % 2305843009213691579)]) ∧ Below w.heap.size w w') := by
    show Calls _ _ _ _ _
    by_cases hz : k = 0
    · subst hz
      refine (div0_p lo l0 l1 w).mono fun e w' ⟨he, hw⟩ => ⟨lo / 2305843009213691579, ?_, hw⟩
      rw [he, Int.zero_mul, Int.zero_add]
    · refine (div_p k lo k0 k1 hz l0 l1 w).mono fun e w' ⟨he, hw⟩ => ⟨_, he, ?_⟩
      rw [← hw]; exact Below.refl _ _
  clear hv
  go_enter Tryd.func82, Tryd.ntmps82
  go_wp2_with fail
  refine HD.out.mono ?_
  rintro en w1 ⟨q, rfl, hb⟩
  have HB := Lib.hid hb
  clear hb
  go_wp2_with fail
  go_ret
  exact ⟨rfl, HB.out⟩

set_option maxHeartbeats 4000000 in
set_option maxRecDepth 100000 in
theorem product_p (a b : Nat) (ha : a < 9223372036854775808) (hb : b < 9223372036854775808) (w : World) :
    Calls Tryd.prog 62 #[.int .i64 (a : Int), .int .i64 (b : Int), .int .i64 2305843009213691579] w fun e w' => e = .returned (.int .i64 ((a * b % 2305843009213691579 : Nat) : Int)) ∧ Below w.heap.size w w' := by
  obtain ⟨m, hm⟩ : ∃ m, m = a * b := ⟨_, rfl⟩
  have hml : m < 340282366920938463463374607431768211456 := by
    rw [hm]
    calc a * b ≤ 9223372036854775808 * 9223372036854775808 := Nat.mul_le_mul (by omega) (by omega)
      _ < _ := by omega
  have HM := Lib.hid (Tryd.bits_Mul64 a b (by omega) (by omega) w)
  rw [← hm] at HM
  rw [← hm]
  have hwa : IntKind.u64.wrap (a : Int) = (a : Int) := by rw [IntKind.wrap_u64]; omega
  have hwb : IntKind.u64.wrap (b : Int) = (b : Int) := by rw [IntKind.wrap_u64]; omega
  obtain ⟨hi, hhi⟩ : ∃ x : Int, x = ((m / 18446744073709551616 : Nat) : Int) := ⟨_, rfl⟩
  obtain ⟨lo, hlo⟩ : ∃ x : Int, x = ((m % 18446744073709551616 : Nat) : Int) := ⟨_, rfl⟩
  rw [← hhi, ← hlo] at HM
  have HR := Lib.hid (fun w => rem_p hi lo (by omega) (by omega) (by omega) (by omega) w)
  have hv : (hi * 18446744073709551616 + lo) % 2305843009213691579 = ((m % 2305843009213691579 : Nat) : Int) := by omega
  rw [hv] at HR
  have hwr : IntKind.i64.wrap ((m % 2305843009213691579 : Nat) : Int) = ((m % 2305843009213691579 : Nat) : Int) := IntWalk.i64_in _ (by omega)
  obtain ⟨r, hr⟩ : ∃ r : Nat, r = m % 2305843009213691579 := ⟨_, rfl⟩
  rw [← hr] at HR hwr
  rw [← hr]
  have HM' : Hid (Calls Tryd.prog 81 #[.int .u64 (a : Int), .int .u64 (b : Int)] w fun e w' => e = .returned (.tuple #[.int .u64 hi, .int .u64 lo]) ∧ w = w') := Lib.hid (HM.out.mono fun e w' h => ⟨h.1, h.2.symm⟩)
  clear hm hml hhi hlo hv hr HM
  go_enter Tryd.func62, Tryd.ntmps62
  go_wp2_with fail
  refine HM'.out.mono ?_
  rintro en w1 ⟨rfl, rfl⟩
  go_wp2_with fail
  refine (HR.out _).mono ?_
  rintro en w2 ⟨rfl, hb2⟩
  have HB := Lib.hid hb2
  clear hb2
  go_wp2_with fail
  go_ret
  exact ⟨rfl, HB.out⟩

set_option maxHeartbeats 4000000 in
set_option maxRecDepth 100000 in
theorem div0_o (lo : Int) (l0 : 0 ≤ lo) (l1 : lo < 18446744073709551616) (w : World) :
    Calls Tryd.prog 89 #[.int .u64 0, .int .u64 lo, .int .u64 1152921504606845789] w fun e w' => e = .returned (.tuple #[.int .u64 (lo / 1152921504606845789), .int .u64 (lo % 1152921504606845789)]) ∧ Below w.heap.size w w' := by
  have h1 : lo.tdiv 1152921504606845789 = lo / 1152921504606845789 := Int.tdiv_eq_ediv_of_nonneg l0
  have h2 : lo.tmod 1152921504606845789 = lo % 1152921504606845789 := Int.tmod_eq_emod_of_nonneg l0
  go_enter Tryd.func89, Tryd.ntmps89
  go_wp2_with fail
  go_quiet (fail)
  go_wp2_with fail
  go_ret2
  exact ⟨rfl, below_drewN (Below.refl _ _) _⟩

set_option maxHeartbeats 4000000 in
set_option maxRecDepth 100000 in
theorem rem_o (hi lo : Int) (h0 : 0 ≤ hi) (h1 : hi < 18446744073709551616) (l0 : 0 ≤ lo) (l1 : lo < 18446744073709551616) (w : World) :
    Calls Tryd.prog 82 #[.int .u64 hi, .int .u64 lo, .int .u64 1152921504606845789] w fun e w' => e = .returned (.int .u64 ((hi * 18446744073709551616 + lo) % 1152921504606845789)) ∧ Below w.heap.size w w' := by
  have hm : hi.tmod 1152921504606845789 = hi % 1152921504606845789 := Int.tmod_eq_emod_of_nonneg h0
  obtain ⟨k, hk⟩ : ∃ k, hi % 1152921504606845789 = k := ⟨_, rfl⟩
  have hv : (hi * 18446744073709551616 + lo) % 1152921504606845789 = (k * 18446744073709551616 + lo) % 1152921504606845789 := by omega
  rw [hv]
  have k0 : 0 ≤ k := by omega
  have k1 : k < 1152921504606845789 := by omega
  have HD : Hid (Calls Tryd.prog 89 #[.int .u64 k, .int .u64 lo, .int .u64 1152921504606845789] w fun e w' => ∃ q, e = .returned (.tuple #[.int .u64 q, .int .u64 ((k * 18446744073709551616 + lo) % 1152921504606845789)]) ∧ Below w.heap.size w w') := by
    show Calls _ _ _ _ _
    by_cases hz : k = 0
    · subst hz
      refine (div0_o lo l0 l1 w).mono fun e w' ⟨he, hw⟩ => ⟨lo / 1152921504606845789, ?_, hw⟩
      rw [he, Int.zero_mul, Int.zero_add]
    · refine (div_o k lo k0 k1 hz l0 l1 w).mono fun e w' ⟨he, hw⟩ => ⟨_, he, ?_⟩
      rw [← hw]; exact Below.refl _ _
  clear hv
  go_enter Tryd.func82, Tryd.ntmps82
  go_wp2_with fail
  refine HD.out.mono ?_
  rintro en w1 ⟨q, rfl, hb⟩
  have HB := Lib.hid hb
  clear hb
  go_wp2_with fail
  go_ret
  exact ⟨rfl, HB.out⟩

set_option maxHeartbeats 4000000 in
set_option maxRecDepth 100000 in
theorem product_o (a b : Nat) (ha : a < 9223372036854775808) (hb : b < 9223372036854775808) (w : World) :
    Calls Tryd.prog 62 #[.int .i64 (a : Int), .int .i64 (b : Int), .int .i64 1152921504606845789] w fun e w' => e = .returned (.int .i64 ((a * b % 1152921504606845789 : Nat) : Int)) ∧ Below w.heap.size w w' := by
  obtain ⟨m, hm⟩ : ∃ m, m = a * b := ⟨_, rfl⟩
  have hml : m < 340282366920938463463374607431768211456 := by
    rw [hm]
    calc a * b ≤ 9223372036854775808 * 9223372036854775808 := Nat.mul_le_mul (by omega) (by omega)
      _ < _ := by omega
  have HM := Lib.hid (Tryd.bits_Mul64 a b (by omega) (by omega) w)
  rw [← hm] at HM
  rw [← hm]
  have hwa : IntKind.u64.wrap (a : Int) = (a : Int) := by rw [IntKind.wrap_u64]; omega
  have hwb : IntKind.u64.wrap (b : Int) = (b : Int) := by rw [IntKind.wrap_u64]; omega
  obtain ⟨hi, hhi⟩ : ∃ x : Int, x = ((m / 18446744073709551616 : Nat) : Int) := ⟨_, rfl⟩
  obtain ⟨lo, hlo⟩ : ∃ x : Int, x = ((m % 18446744073709551616 : Nat) : Int) := ⟨_, rfl⟩
  rw [← hhi, ← hlo] at HM
  have HR := Lib.hid (fun w => rem_o hi lo (by omega) (by omega) (by omega) (by omega) w)
  have hv : (hi * 18446744073709551616 + lo) % 1152921504606845789 = ((m % 1152921504606845789 : Nat) : Int) := by omega
  rw [hv] at HR
  have hwr : IntKind.i64.wrap ((m % 1152921504606845789 : Nat) : Int) = ((m % 1152921504606845789 : Nat) : Int) := IntWalk.i64_in _ (by omega)
  obtain ⟨r, hr⟩ : ∃ r : Nat, r = m % 1152921504606845789 := ⟨_, rfl⟩
  rw [← hr] at HR hwr
  rw [← hr]
  have HM' : Hid (Calls Tryd.prog 81 #[.int .u64 (a : Int), .int .u64 (b : Int)] w fun e w' => e = .returned (.tuple #[.int .u64 hi, .int .u64 lo]) ∧ w = w') := Lib.hid (HM.out.mono fun e w' h => ⟨h.1, h.2.symm⟩)
  clear hm hml hhi hlo hv hr HM
  go_enter Tryd.func62, Tryd.ntmps62
  go_wp2_with fail
  refine HM'.out.mono ?_
  rintro en w1 ⟨rfl, rfl⟩
  go_wp2_with fail
  refine (HR.out _).mono ?_
  rintro en w2 ⟨rfl, hb2⟩
  have HB := Lib.hid hb2
  clear hb2
  go_wp2_with fail
  go_ret
  exact ⟨rfl, HB.out⟩

end Go.Proofs.YthhaofdnbemogaaDoor
