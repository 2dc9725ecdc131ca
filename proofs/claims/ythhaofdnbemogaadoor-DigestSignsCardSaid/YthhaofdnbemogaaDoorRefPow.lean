/-
  acheronref03: times, Times, Power, Inverse, Member, Secret, Valid.
-/
import Derived.Test.YthhaofdnbemogaaDoorGrp
set_option linter.unusedVariables false
namespace Go.Proofs.YthhaofdnbemogaaDoor
open Go.RowKit

theorem refMember_any (a : Int) (w : World) : Calls Tryd.prog 33 #[.int .i64 a] w fun e w' => e = .returned (.bool (unitB a)) ∧ w = w' := by
  by_cases h0 : 1 ≤ a
  · by_cases h1 : a < 2305843009213691579
    · have e := Lib.hid (unitB_yes h0 h1)
      go_enter Tryd.func33, Tryd.ntmps33
      go_wp2
      go_ret
      exact ⟨ret_bool e.out.symm, rfl⟩
    · have e := Lib.hid (show unitB a = false from decide_eq_false (fun h => h1 h.2))
      go_enter Tryd.func33, Tryd.ntmps33
      go_wp2
      go_ret
      exact ⟨ret_bool e.out.symm, rfl⟩
  · have e := Lib.hid (show unitB a = false from decide_eq_false (fun h => h0 h.1))
    go_enter Tryd.func33, Tryd.ntmps33
    go_wp2
    go_ret
    exact ⟨ret_bool e.out.symm, rfl⟩
theorem refMember_yes (a : Int) (h : unitB a = true) (w : World) : Calls Tryd.prog 33 #[.int .i64 a] w fun e w' => e = .returned (.bool true) ∧ w = w' := by
  have := refMember_any a w; rw [h] at this; exact this
theorem refMember_no (a : Int) (h : unitB a = false) (w : World) : Calls Tryd.prog 33 #[.int .i64 a] w fun e w' => e = .returned (.bool false) ∧ w = w' := by
  have := refMember_any a w; rw [h] at this; exact this
theorem refSecret_any (a : Int) (w : World) : Calls Tryd.prog 40 #[.int .i64 a] w fun e w' => e = .returned (.bool (secretB a)) ∧ w = w' := by
  by_cases h0 : 1 ≤ a
  · by_cases h1 : a < 1152921504606845789
    · have e := Lib.hid (secretB_yes h0 h1)
      go_enter Tryd.func40, Tryd.ntmps40
      go_wp2
      go_ret
      exact ⟨ret_bool e.out.symm, rfl⟩
    · have e := Lib.hid (show secretB a = false from decide_eq_false (fun h => h1 h.2))
      go_enter Tryd.func40, Tryd.ntmps40
      go_wp2
      go_ret
      exact ⟨ret_bool e.out.symm, rfl⟩
  · have e := Lib.hid (show secretB a = false from decide_eq_false (fun h => h0 h.1))
    go_enter Tryd.func40, Tryd.ntmps40
    go_wp2
    go_ret
    exact ⟨ret_bool e.out.symm, rfl⟩
theorem refSecret_yes (a : Int) (h : secretB a = true) (w : World) : Calls Tryd.prog 40 #[.int .i64 a] w fun e w' => e = .returned (.bool true) ∧ w = w' := by
  have := refSecret_any a w; rw [h] at this; exact this
theorem refSecret_no (a : Int) (h : secretB a = false) (w : World) : Calls Tryd.prog 40 #[.int .i64 a] w fun e w' => e = .returned (.bool false) ∧ w = w' := by
  have := refSecret_any a w; rw [h] at this; exact this

def TimRel (R m : Nat) (a b o : Value) : Prop :=
  ∃ a' b' o' : Nat, a = .int .i64 (a' : Int) ∧ b = .int .i64 (b' : Int) ∧ o = .int .i64 (o' : Int) ∧ a' < m ∧ b' < 9223372036854775808 ∧ o' < m ∧ (o' + a' * b') % m = R

set_option maxHeartbeats 2000000 in
set_option maxRecDepth 100000 in
theorem reftimes_any (a b m : Nat) (hm : 0 < m) (hm2 : m < 4611686018427387904) (ha : a < m) (hb : b < 9223372036854775808) (w : World) :
    Calls Tryd.prog 65 #[.int .i64 (a : Int), .int .i64 (b : Int), .int .i64 (m : Int)] w fun e w' => e = .returned (.int .i64 ((a * b % m : Nat) : Int)) ∧ w = w' := by
  obtain ⟨R, hR⟩ : ∃ R, R = a * b % m := ⟨_, rfl⟩
  rw [← hR]
  have HS : Hid (TimRel R m (.int .i64 (a : Int)) (.int .i64 (b : Int)) (.int .i64 0)) := Lib.hid ⟨a, b, 0, rfl, rfl, rfl, ha, hb, hm, by rw [Nat.zero_add, hR]⟩
  clear hR ha hb
  go_enter Tryd.func65, Tryd.ntmps65
  go_wp2
  go_loop [0, 1, 7] (fun a b o => TimRel R m a b o) (fun _ b _ => (intOf b).toNat)
  case atStart => exact HS.out
  case round =>
    clear HS
    obtain ⟨a', b', o', rfl, rfl, rfl, ha, hb, ho, hR⟩ := hrel
    have HR := Lib.hid hR
    clear hR
    by_cases hz : 0 < b'
    · have hzI : (0 : Int) < (b' : Int) := by omega
      have hmI : (0 : Int) < (m : Int) := by omega
      obtain ⟨h, hh⟩ : ∃ h : Nat, h = b' / 2 := ⟨_, rfl⟩
      obtain ⟨x, hx⟩ : ∃ x : Nat, x = (a' + a') % m := ⟨_, rfl⟩
      obtain ⟨y, hy⟩ : ∃ y : Nat, y = (o' + a') % m := ⟨_, rfl⟩
      have hxm : x < m := by rw [hx]; exact Nat.mod_lt _ hm
      have hym : y < m := by rw [hy]; exact Nat.mod_lt _ hm
      have HX := Lib.hid hxm
      have HY := Lib.hid hym
      have HLT : Hid (h < b') := Lib.hid (by omega)
      have HO := Lib.hid ho
      have HB := Lib.hid hb
      have HRR := Lib.hid (mul_round o' a' b' m)
      rw [← hx, ← hy, ← hh] at HRR
      have hd : (b' : Int) / 2 = (h : Int) := by omega
      have hd2 : (b' : Int).tdiv 2 = (h : Int) := by rw [Int.tdiv_eq_ediv_of_nonneg (by omega)]; exact hd
      have ex : ((a' : Int) + (a' : Int)) % (m : Int) = (x : Int) := by rw [hx]; simp
      have ex2 : ((a' : Int) + (a' : Int)).tmod (m : Int) = (x : Int) := by rw [Int.tmod_eq_emod_of_nonneg (by omega)]; exact ex
      have ey : ((o' : Int) + (a' : Int)) % (m : Int) = (y : Int) := by rw [hy]; simp
      have ey2 : ((o' : Int) + (a' : Int)).tmod (m : Int) = (y : Int) := by rw [Int.tmod_eq_emod_of_nonneg (by omega)]; exact ey
      clear hh hx hy hxm hym
      by_cases hodd : b' % 2 = 1
      · have hm2' : (b' : Int).tmod 2 = 1 := by rw [Int.tmod_eq_emod_of_nonneg (by omega)]; omega
        have hm3 : (b' : Int) % 2 = 1 := by omega
        have HR2 : Hid ((y + x * h) % m = R) := Lib.hid (by have := HRR.out; rw [if_pos hodd] at this; rw [← this]; exact HR.out)
        clear hodd
        go_wp2_with fail
        go_round
        case rel => exact ⟨x, h, y, rfl, rfl, rfl, HX.out, by have := HLT.out; have := HB.out; omega, HY.out, HR2.out⟩
        case measure => have := HLT.out; simp [intOf]; omega
      · have hm2' : (b' : Int).tmod 2 = 0 := by rw [Int.tmod_eq_emod_of_nonneg (by omega)]; omega
        have hm3 : (b' : Int) % 2 = 0 := by omega
        have HR2 : Hid ((o' + x * h) % m = R) := Lib.hid (by have := HRR.out; rw [if_neg hodd] at this; rw [← this]; exact HR.out)
        clear hodd
        go_wp2_with fail
        go_round
        case rel => exact ⟨x, h, o', rfl, rfl, rfl, HX.out, by have := HLT.out; have := HB.out; omega, HO.out, HR2.out⟩
        case measure => have := HLT.out; simp [intOf]; omega
    · obtain rfl : b' = 0 := by omega
      have hfin : Hid (o' = R) := Lib.hid (by have := HR.out; rw [Nat.mul_zero, Nat.add_zero, Nat.mod_eq_of_lt ho] at this; exact this)
      clear ha hb ho
      go_wp2
      go_ret
      exact ⟨by rw [← hfin.out]; rfl, rfl⟩

theorem refTimes_any (a b : Nat) (ha : a < 2305843009213691579) (hb : b < 9223372036854775808) (w : World) :
    Calls Tryd.prog 35 #[.int .i64 (a : Int), .int .i64 (b : Int)] w fun e w' => e = .returned (.int .i64 ((a * b % 2305843009213691579 : Nat) : Int)) ∧ w = w' := by
  have HT := Lib.hid (fun w => reftimes_any a b 2305843009213691579 (by omega) (by omega) ha hb w)
  have hl : ((2305843009213691579 : Nat) : Int) = 2305843009213691579 := rfl
  rw [hl] at HT
  generalize a * b % 2305843009213691579 = R at *
  clear hl ha hb
  go_enter Tryd.func35, Tryd.ntmps35
  go_wp2_with fail
  refine (HT.out _).mono ?_
  rintro e w1 ⟨rfl, rfl⟩
  go_wp2_with fail
  go_ret
  exact ⟨rfl, rfl⟩

def RPowRel (R : Nat) (a n p : Value) : Prop :=
  ∃ a' n' p' : Nat, a = .int .i64 (a' : Int) ∧ n = .int .i64 (n' : Int) ∧ p = .int .i64 (p' : Int) ∧ a' < 2305843009213691579 ∧ n' < 9223372036854775808 ∧ p' < 2305843009213691579 ∧ (p' * powP a' n') % 2305843009213691579 = R

set_option maxHeartbeats 4000000 in
set_option maxRecDepth 100000 in
theorem refPower_any (a n : Nat) (ha : a < 2305843009213691579) (hn : n < 9223372036854775808) (w : World) :
    Calls Tryd.prog 34 #[.int .i64 (a : Int), .int .i64 (n : Int)] w fun e w' => e = .returned (.int .i64 (powP a n : Int)) ∧ w = w' := by
  obtain ⟨R, hR⟩ : ∃ R, R = powP a n := ⟨_, rfl⟩
  rw [← hR]
  have HS : Hid (RPowRel R (.int .i64 (a : Int)) (.int .i64 (n : Int)) (.int .i64 1)) := Lib.hid ⟨a, n, 1, rfl, rfl, rfl, ha, hn, by decide, by rw [Nat.one_mul, Nat.mod_eq_of_lt (powP_lt a n), hR]⟩
  clear hR ha hn
  go_enter Tryd.func34, Tryd.ntmps34
  go_wp2
  go_loop [0, 1, 5] (fun a n p => RPowRel R a n p) (fun _ n _ => (intOf n).toNat)
  case atStart => exact HS.out
  case round =>
    clear HS
    obtain ⟨a', n', p', rfl, rfl, rfl, ha, hn, hp, hR⟩ := hrel
    have HR := Lib.hid hR
    have HNN := Lib.hid hn
    have hpN := hp
    clear hR
    by_cases hz : 0 < n'
    · have hzI : (0 : Int) < (n' : Int) := by omega
      obtain ⟨h, hh⟩ : ∃ h : Nat, h = n' / 2 := ⟨_, rfl⟩
      have hd : (n' : Int) / 2 = (h : Int) := by omega
      have hd2 : (n' : Int).tdiv 2 = (h : Int) := by rw [Int.tdiv_eq_ediv_of_nonneg (by omega)]; exact hd
      have HLT : Hid (h < n') := Lib.hid (by omega)
      have hb63 : h < 9223372036854775808 := by omega
      have HQ := Lib.hid (fun w => refTimes_any a' a' ha (by omega) w)
      have HP := Lib.hid (fun w => refTimes_any p' a' hp (by omega) w)
      have HA := Lib.hid (show a' * a' % 2305843009213691579 < 2305843009213691579 from Nat.mod_lt _ (by decide))
      have HPL := Lib.hid (show p' * a' % 2305843009213691579 < 2305843009213691579 from Nat.mod_lt _ (by decide))
      obtain ⟨aa, haa⟩ : ∃ x : Nat, x = a' * a' % 2305843009213691579 := ⟨_, rfl⟩
      obtain ⟨pa, hpa⟩ : ∃ x : Nat, x = p' * a' % 2305843009213691579 := ⟨_, rfl⟩
      rw [← haa] at HQ HA
      rw [← hpa] at HP HPL
      have HRR := Lib.hid (pow_round p' a' n')
      rw [← haa, ← hpa, ← hh] at HRR
      clear hh haa hpa
      by_cases hodd : n' % 2 = 1
      · have hm2' : (n' : Int).tmod 2 = 1 := by rw [Int.tmod_eq_emod_of_nonneg (by omega)]; omega
        have hm3 : (n' : Int) % 2 = 1 := by omega
        have HR2 : Hid ((pa * powP aa h) % 2305843009213691579 = R) := Lib.hid (by have := HRR.out; rw [if_pos hodd] at this; rw [← this]; exact HR.out)
        clear hodd ha hp hn
        go_wp2_with fail
        refine (HP.out _).mono ?_
        rintro e w1 ⟨rfl, rfl⟩
        go_wp2_with fail
        refine (HQ.out _).mono ?_
        rintro e w2 ⟨rfl, rfl⟩
        go_wp2_with fail
        go_round
        case rel => exact ⟨aa, h, pa, rfl, rfl, rfl, HA.out, by have := HLT.out; have := HNN.out; omega, HPL.out, HR2.out⟩
        case measure => have := HLT.out; simp [intOf]; omega
      · have hm2' : (n' : Int).tmod 2 = 0 := by rw [Int.tmod_eq_emod_of_nonneg (by omega)]; omega
        have hm3 : (n' : Int) % 2 = 0 := by omega
        have HR2 : Hid ((p' * powP aa h) % 2305843009213691579 = R) := Lib.hid (by have := HRR.out; rw [if_neg hodd] at this; rw [← this]; exact HR.out)
        clear hodd ha hp hn
        go_wp2_with fail
        refine (HQ.out _).mono ?_
        rintro e w2 ⟨rfl, rfl⟩
        go_wp2_with fail
        go_round
        case rel => exact ⟨aa, h, p', rfl, rfl, rfl, HA.out, by have := HLT.out; have := HNN.out; omega, hpN, HR2.out⟩
        case measure => have := HLT.out; simp [intOf]; omega
    · obtain rfl : n' = 0 := by omega
      have hfin : Hid (p' = R) := Lib.hid (by have := HR.out; rw [powP_zero, Nat.mul_one, Nat.mod_eq_of_lt hp] at this; exact this)
      clear ha hp hn
      go_wp2
      go_ret
      exact ⟨by rw [← hfin.out]; rfl, rfl⟩

theorem refInverse_any (a : Nat) (ha : a < 2305843009213691579) (w : World) :
    Calls Tryd.prog 70 #[.int .i64 (a : Int)] w fun e w' => e = .returned (.int .i64 (powP a 2305843009213691577 : Int)) ∧ w = w' := by
  have HP := Lib.hid (fun w => refPower_any a 2305843009213691577 ha (by omega) w)
  have hl : ((2305843009213691577 : Nat) : Int) = 2305843009213691577 := rfl
  rw [hl] at HP
  generalize powP a 2305843009213691577 = R at *
  clear ha hl
  go_enter Tryd.func70, Tryd.ntmps70
  go_wp2_with fail
  refine (HP.out _).mono ?_
  rintro e w1 ⟨rfl, rfl⟩
  go_wp2_with fail
  go_ret
  exact ⟨rfl, rfl⟩

set_option maxHeartbeats 2000000 in
theorem refValid_any (k : Int) (w : World) : Calls Tryd.prog 37 #[.int .i64 k] w fun e w' => e = .returned (.bool (validB k)) ∧ w = w' := by
  have HU := Lib.hid (refMember_any k w)
  cases hu : unitB k
  · have hv : Hid (validB k = false) := Lib.hid (by unfold validB; rw [hu]; rfl)
    rw [hu] at HU
    clear hu
    go_enter Tryd.func37, Tryd.ntmps37
    go_wp2_with fail
    refine HU.out.mono ?_
    rintro e w1 ⟨rfl, rfl⟩
    go_wp2_with fail
    go_ret
    exact ⟨ret_bool hv.out.symm, rfl⟩
  · rw [hu] at HU
    have hb : 1 ≤ k ∧ k < 2305843009213691579 := by unfold unitB at hu; exact of_decide_eq_true hu
    by_cases h1 : k = 1
    · subst h1
      have hv : Hid (validB 1 = false) := Lib.hid (by unfold validB; rw [hu]; rfl)
      clear hu hb
      go_enter Tryd.func37, Tryd.ntmps37
      go_wp2_with fail
      refine HU.out.mono ?_
      rintro e w1 ⟨rfl, rfl⟩
      go_wp2_with fail
      go_ret
      exact ⟨ret_bool hv.out.symm, rfl⟩
    · obtain ⟨n, rfl⟩ := Int.eq_ofNat_of_zero_le (show 0 ≤ k by omega)
      have hn : n < 9223372036854775808 := by omega
      have hbn : ((n : Int) == 1) = false := by simpa using h1
      obtain ⟨R, hR⟩ : ∃ R, R = powP n 1152921504606845789 := ⟨_, rfl⟩
      have hv : Hid (validB (n : Int) = ((R : Int) == 1)) := Lib.hid (by unfold validB; rw [hu, hbn, hR, Int.toNat_natCast]; exact nat_beq _ 1)
      have HP := Lib.hid (refPower_any n 1152921504606845789 (by omega) (by decide) w)
      rw [← hR, show ((1152921504606845789 : Nat) : Int) = 1152921504606845789 from rfl] at HP
      have hbn2 : ((n : Int) != 1) = true := by simpa using h1
      have hbn3 : (n == 1) = false := by simp only [beq_eq_false_iff_ne]; omega
      clear hu hb hR h1
      go_enter Tryd.func37, Tryd.ntmps37
      go_wp2_with fail
      refine HU.out.mono ?_
      rintro e w1 ⟨rfl, rfl⟩
      go_wp2_with fail
      refine HP.out.mono ?_
      rintro e w2 ⟨rfl, rfl⟩
      go_wp2_with fail
      go_ret
      exact ⟨ret_bool hv.out.symm, rfl⟩
theorem refValid_yes (a : Int) (h : validB a = true) (w : World) : Calls Tryd.prog 37 #[.int .i64 a] w fun e w' => e = .returned (.bool true) ∧ w = w' := by
  have := refValid_any a w; rw [h] at this; exact this
theorem refValid_no (a : Int) (h : validB a = false) (w : World) : Calls Tryd.prog 37 #[.int .i64 a] w fun e w' => e = .returned (.bool false) ∧ w = w' := by
  have := refValid_any a w; rw [h] at this; exact this
end Go.Proofs.YthhaofdnbemogaaDoor
