/-
  digest.power, inverse, isUnit, isSecret, Valid.
-/
import Derived.Test.YthhaofdnbemogaaDoorProd
set_option linter.unusedVariables false
namespace Go.Proofs.YthhaofdnbemogaaDoor
open Go.RowKit

theorem powP_ex : ∃ f : Nat → Nat → Nat, ∀ a n, f a n = a ^ n % 2305843009213691579 := ⟨_, fun _ _ => rfl⟩
/-- A power modulo the prime, which the kernel can't open. -/
noncomputable def powP : Nat → Nat → Nat := Classical.choose powP_ex
theorem powP_def (a n : Nat) : powP a n = a ^ n % 2305843009213691579 := Classical.choose_spec powP_ex a n
theorem powP_lt (a n : Nat) : powP a n < 2305843009213691579 := by rw [powP_def]; exact Nat.mod_lt _ (by decide)
theorem powP_zero (a : Nat) : powP a 0 = 1 := by rw [powP_def, Nat.pow_zero]
theorem powP_sq (a m : Nat) : powP (a * a % 2305843009213691579) m = powP a (2 * m) := by
  simp only [powP_def]
  rw [← Nat.pow_mod, Nat.pow_mul, Nat.pow_two]
theorem powP_succ (a m : Nat) : powP a (m + 1) = powP a m * a % 2305843009213691579 := by
  simp only [powP_def]
  conv => rhs; rw [Nat.mul_mod, Nat.mod_mod, ← Nat.mul_mod]
  rw [Nat.pow_succ]
/-- Square and multiply: one round. -/
theorem pow_round (p a m : Nat) : (p * powP a m) % 2305843009213691579 = ((if m % 2 = 1 then p * a % 2305843009213691579 else p) * powP (a * a % 2305843009213691579) (m / 2)) % 2305843009213691579 := by
  rw [powP_sq]
  by_cases h : m % 2 = 1
  · rw [if_pos h]
    have e : m = 2 * (m / 2) + 1 := by omega
    conv => lhs; rw [e, powP_succ]
    rw [Nat.mul_mod, Nat.mod_mod, ← Nat.mul_mod, Nat.mul_mod (p * a % _), Nat.mod_mod, ← Nat.mul_mod]
    congr 1
    rw [Nat.mul_comm (powP a _) a, ← Nat.mul_assoc]
  · rw [if_neg h]
    have e : 2 * (m / 2) = m := by omega
    rw [e]
/-- The same as a program that ends. -/
def fastP : Nat → Nat → Nat → Nat → Nat
  | 0, p, _, _ => p
  | f + 1, p, a, m => if m = 0 then p else fastP f (if m % 2 = 1 then p * a % 2305843009213691579 else p) (a * a % 2305843009213691579) (m / 2)
theorem fastP_eq (f : Nat) : ∀ p a m : Nat, p < 2305843009213691579 → m < 2 ^ f → fastP f p a m = (p * powP a m) % 2305843009213691579 := by
  induction f with
  | zero =>
    intro p a m hp hm
    obtain rfl : m = 0 := by omega
    rw [fastP, powP_zero, Nat.mul_one, Nat.mod_eq_of_lt hp]
  | succ f ih =>
    intro p a m hp hm
    rw [fastP]
    by_cases h0 : m = 0
    · subst h0
      rw [if_pos rfl, powP_zero, Nat.mul_one, Nat.mod_eq_of_lt hp]
    · rw [if_neg h0, ih _ _ _ (by split; exact Nat.mod_lt _ (by decide); exact hp) (by rw [Nat.pow_succ] at hm; omega), ← pow_round]
theorem powP_fast (a m : Nat) (h : m < 2 ^ 64) : powP a m = fastP 64 1 a m := by
  rw [fastP_eq 64 1 a m (by decide) h, Nat.one_mul, Nat.mod_eq_of_lt (powP_lt a m)]
theorem powP_4 : powP 4 1152921504606845789 = 1 := by rw [powP_fast _ _ (by decide)]; decide +kernel
theorem powP_2 : powP 2 1152921504606845789 = 2305843009213691578 := by rw [powP_fast _ _ (by decide)]; decide +kernel

theorem wraps_i64 (n : Int) (h₀ : 0 ≤ n) (h₁ : n < 2 ^ 63) : IntKind.i64.wrap n = n := by
  have h63 : (2 : Int) ^ 63 = 9223372036854775808 := by rfl
  rw [IntKind.wrap_i64]; omega
theorem and_one (n : Nat) (h : n < 9223372036854775808) : bits .and .i64 (n : Int) 1 = ((n % 2 : Nat) : Int) :=
  (bits_mask .i64 63 (by decide) wraps_i64 1 (by decide) (n : Int) (by omega) (by show _ < (9223372036854775808 : Int); omega)).trans (by show _ % (2 : Int) = _; omega)

def PowRel (R : Nat) (w : World) (a n p : Value) (w' : World) : Prop :=
  ∃ a' n' p' : Nat, a = .int .i64 (a' : Int) ∧ n = .int .i64 (n' : Int) ∧ p = .int .i64 (p' : Int) ∧ a' < 9223372036854775808 ∧ n' < 9223372036854775808 ∧ p' < 2305843009213691579 ∧ (p' * powP a' n') % 2305843009213691579 = R ∧ Below w.heap.size w w'

set_option maxHeartbeats 4000000 in
set_option maxRecDepth 100000 in
theorem power_any (a n : Nat) (ha : a < 9223372036854775808) (hn : n < 9223372036854775808) (w : World) :
    Calls Tryd.prog 63 #[.int .i64 (a : Int), .int .i64 (n : Int)] w fun e w' => e = .returned (.int .i64 (powP a n : Int)) ∧ Below w.heap.size w w' := by
  obtain ⟨R, hR⟩ : ∃ R, R = powP a n := ⟨_, rfl⟩
  rw [← hR]
  have HS : Hid (PowRel R w (.int .i64 (a : Int)) (.int .i64 (n : Int)) (.int .i64 1) w) := Lib.hid ⟨a, n, 1, rfl, rfl, rfl, ha, hn, by decide, by rw [Nat.one_mul, Nat.mod_eq_of_lt (powP_lt a n), hR], Below.refl _ _⟩
  clear hR ha hn
  go_enter Tryd.func63, Tryd.ntmps63
  go_wp2
  go_loopw [0, 1, 5] (fun a n p wr => PowRel R w a n p wr) (fun _ n _ _ => (intOf n).toNat)
  case atStart => exact HS.out
  case round =>
    clear HS
    obtain ⟨a', n', p', rfl, rfl, rfl, ha, hn, hp, hR, hbel⟩ := hrel
    have HR := Lib.hid hR
    have HB := Lib.hid hbel
    have hbit := and_one n' hn
    have haN := ha
    have HNN := Lib.hid hn
    have hpN := hp
    clear hR hbel
    by_cases hz : 0 < n'
    · have hzI : (0 : Int) < (n' : Int) := by omega
      obtain ⟨h, hh⟩ : ∃ h : Nat, h = n' / 2 := ⟨_, rfl⟩
      have hd : (n' : Int) / 2 = (h : Int) := by omega
      have HH := Lib.hid hh
      have HLT : Hid (h < n') := Lib.hid (by omega)
      have HQ := Lib.hid (fun w => product_p a' a' (by omega) (by omega) w)
      have HP := Lib.hid (fun w => product_p p' a' (by omega) (by omega) w)
      have HA := Lib.hid (show a' * a' % 2305843009213691579 < 9223372036854775808 from Nat.lt_trans (Nat.mod_lt _ (by decide)) (by decide))
      have HPL := Lib.hid (show p' * a' % 2305843009213691579 < 2305843009213691579 from Nat.mod_lt _ (by decide))
      obtain ⟨aa, haa⟩ : ∃ x : Nat, x = a' * a' % 2305843009213691579 := ⟨_, rfl⟩
      obtain ⟨pa, hpa⟩ : ∃ x : Nat, x = p' * a' % 2305843009213691579 := ⟨_, rfl⟩
      rw [← haa] at HQ HA
      rw [← hpa] at HP HPL
      have HRR := Lib.hid (pow_round p' a' n')
      rw [← haa, ← hpa, ← hh] at HRR
      clear hh haa hpa
      by_cases hodd : n' % 2 = 1
      · have hb : bits .and .i64 (n' : Int) 1 = 1 := by rw [hbit, hodd]; rfl
        have HR2 : Hid ((pa * powP aa h) % 2305843009213691579 = R) := Lib.hid (by have := HRR.out; rw [if_pos hodd] at this; rw [← this]; exact HR.out)
        clear hbit hodd ha hp hn
        go_wp2_with fail
        refine (HP.out _).mono ?_
        rintro e w1 ⟨rfl, hb1⟩
        have HB1 := Lib.hid (HB.out.trans (hb1.mono HB.out.size))
        clear hb1
        go_wp2_with fail
        refine (HQ.out _).mono ?_
        rintro e w2 ⟨rfl, hb2⟩
        have HB2 := Lib.hid (HB1.out.trans (hb2.mono HB1.out.size))
        clear hb2
        go_wp2_with fail
        go_roundw
        case rel => exact ⟨aa, h, pa, rfl, rfl, rfl, HA.out, by have := HLT.out; have := HNN.out; omega, HPL.out, HR2.out, HB2.out⟩
        case measure => have := HLT.out; simp [intOf]; omega
      · have hb : bits .and .i64 (n' : Int) 1 = 0 := by rw [hbit, show n' % 2 = 0 by omega]; rfl
        have HR2 : Hid ((p' * powP aa h) % 2305843009213691579 = R) := Lib.hid (by have := HRR.out; rw [if_neg hodd] at this; rw [← this]; exact HR.out)
        clear hbit hodd ha hp hn
        go_wp2_with fail
        refine (HQ.out _).mono ?_
        rintro e w2 ⟨rfl, hb2⟩
        have HB2 := Lib.hid (HB.out.trans (hb2.mono HB.out.size))
        clear hb2
        go_wp2_with fail
        go_roundw
        case rel => exact ⟨aa, h, p', rfl, rfl, rfl, HA.out, by have := HLT.out; have := HNN.out; omega, hpN, HR2.out, HB2.out⟩
        case measure => have := HLT.out; simp [intOf]; omega
    · obtain rfl : n' = 0 := by omega
      have hfin : Hid (p' = R) := Lib.hid (by have := HR.out; rw [powP_zero, Nat.mul_one, Nat.mod_eq_of_lt hp] at this; exact this)
      clear hbit ha hp hn
      go_wp2
      go_ret
      exact ⟨by rw [← hfin.out]; rfl, HB.out⟩
end Go.Proofs.YthhaofdnbemogaaDoor
