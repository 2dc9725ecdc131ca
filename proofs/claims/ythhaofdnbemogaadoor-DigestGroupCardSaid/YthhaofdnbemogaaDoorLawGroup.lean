/-
  For all numbers a, b, c, n, m the law DigestGroup returns true. No condition.
-/
import Derived.Test.YthhaofdnbemogaaDoorRows
import Derived.Test.YthhaofdnbemogaaDoorAwake
import Derived.Test.YthhaofdnbemogaaDoorRefPow
import Derived.Test.YthhaofdnbemogaaDoorLaidD
import Derived.WalkKit
import Derived.ProofKit
import Derived.OpenShut
import Derived.ShutString
import Derived.ChangeOld
import Derived.Carry
import Derived.SevenTiedAt
import Derived.Test.YthhaofdnbemogaaDoorCards
import Derived.Test.YthhaofdnbemogaaDoorTie
set_option linter.unusedVariables false
namespace Go.Proofs.YthhaofdnbemogaaDoor.digestGroup
open Go.ChangeShapes Go.WideShapes Go.ChangeAt Go.RowKit
open Go.ChangeMaps (open_string shut_string)

theorem own : ownKnob Tryd.prog.godebug = none := by kernel_rfl

set_option maxHeartbeats 8000000 in
set_option maxRecDepth 100000 in
theorem walk1 (a b c : Int) (n m : Nat) (hn : n < 4294967296) (hm : m < 4294967296) (ha : unitB a = false) (w : World) (ht : TabD w) :
    Calls Tryd.prog 8 #[.int .i64 a, .int .i64 b, .int .i64 c, .int .u32 (n : Int), .int .u32 (m : Int)] w fun e w' => e = .returned (.bool true) ∧ Below w.heap.size w w' := by
  have HAW := Lib.hid (awake_any w ht)
  have HM := Lib.hid (fun w => refMember_no a ha w)
  have H1 := Lib.hid (fun w => times_no1 a b ha w)
  have H2 := Lib.hid (fun w => Power_no1 a n ha w)
  have H3 := Lib.hid (fun w => Inverse_no a ha w)
  clear ha
  clear ht
  go_enter Tryd.func8, Tryd.ntmps8
  go_wp2_with fail
  refine (HAW.out).mono ?_
  rintro e w1 ⟨rfl, hb⟩
  have HB1 := Lib.hid hb
  clear hb
  go_wp2_with fail
  refine (H1.out _).mono ?_
  rintro e w2 ⟨rfl, hb⟩
  have HB2 := Lib.hid (HB1.out.trans (hb.mono HB1.out.size))
  clear hb
  go_wp2_with fail
  refine (H2.out _).mono ?_
  rintro e w3 ⟨rfl, hb⟩
  have HB3 := Lib.hid (HB2.out.trans (hb.mono HB2.out.size))
  clear hb
  go_wp2_with fail
  refine (H3.out _).mono ?_
  rintro e w4 ⟨rfl, hb⟩
  have HB4 := Lib.hid (HB3.out.trans (hb.mono HB3.out.size))
  clear hb
  go_wp2_with fail
  refine (HM.out _).mono ?_
  rintro e w5 ⟨rfl, rfl⟩
  go_wp2_with fail
  go_ret
  exact ⟨rfl, HB4.out⟩

set_option maxHeartbeats 8000000 in
set_option maxRecDepth 100000 in
theorem walk2 (a : Nat) (b c : Int) (n m : Nat) (hn : n < 4294967296) (hm : m < 4294967296) (ha : unitB (a : Int) = true) (hb : unitB b = false) (w : World) (ht : TabD w) :
    Calls Tryd.prog 8 #[.int .i64 (a : Int), .int .i64 b, .int .i64 c, .int .u32 (n : Int), .int .u32 (m : Int)] w fun e w' => e = .returned (.bool true) ∧ Below w.heap.size w w' := by
  have HAW := Lib.hid (awake_any w ht)
  have ua := unitB_nat ha
  obtain ⟨k, hk⟩ := pD_two
  have hk' : k = 2305843009213691577 := by have : (2305843009213691579 : Nat) = k + 2 := hk; omega
  have hPL : pD = 2305843009213691579 := rfl
  have hia : unitB ((powP a 2305843009213691577 : Nat) : Int) = true := unitB_yes (by have := unit_pow a 2305843009213691577 ua.1 ua.2; omega) (by have := powP_lt a 2305843009213691577; omega)
  have hone : a * powP a 2305843009213691577 % 2305843009213691579 = 1 := by have := inv_pow a ua.1 ua.2 k hk; rw [hk'] at this; exact this
  have han : unitB ((powP a n : Nat) : Int) = true := unitB_yes (by have := unit_pow a n ua.1 ua.2; omega) (by have := powP_lt a n; omega)
  have ham : unitB ((powP a m : Nat) : Int) = true := unitB_yes (by have := unit_pow a m ua.1 ua.2; omega) (by have := powP_lt a m; omega)
  have hboth : powP a n * powP a m % 2305843009213691579 = powP a (n + m) := pow_add' a n m
  have HM := Lib.hid (fun w => refMember_yes (a : Int) ha w)
  have H2 := Lib.hid (fun w => Power_yes a n ha (by omega) w)
  have H3 := Lib.hid (fun w => Inverse_yes a ha w)
  have H4 := Lib.hid (fun w => times_yes a (powP a 2305843009213691577) ha hia w)
  have H5 := Lib.hid (fun w => Power_yes a m ha (by omega) w)
  have H6 := Lib.hid (fun w => Power_yes a (n + m) ha (by omega) w)
  have H7 := Lib.hid (fun w => times_yes (powP a n) (powP a m) han ham w)
  have H8 := Lib.hid (fun w => Power_no2 (a : Int) (-1 - (n : Int)) ha (by omega) w)
  have H9 := Lib.hid (fun w => refPower_any a n ua.2 (by omega) w)
  rw [hone] at H4
  rw [hboth] at H7
  have hnm : ((n + m : Nat) : Int) = (n : Int) + (m : Int) := by omega
  rw [hnm] at H6
  generalize powP a 2305843009213691577 = IA at *
  generalize powP a (n + m) = BO at *
  generalize powP a n = AN at *
  generalize powP a m = AM at *
  
  have H1 := Lib.hid (fun w => times_no2 (a : Int) b ha hb w)
  have HMB := Lib.hid (fun w => refMember_no b hb w)
  clear ua hk hk' hPL hia hone han ham hboth hnm ha hb k
  clear ht
  go_enter Tryd.func8, Tryd.ntmps8
  go_wp2_with fail
  refine (HAW.out).mono ?_
  rintro e w1 ⟨rfl, hb⟩
  have HB1 := Lib.hid hb
  clear hb
  go_wp2_with fail
  refine (H1.out _).mono ?_
  rintro e w2 ⟨rfl, hb⟩
  have HB2 := Lib.hid (HB1.out.trans (hb.mono HB1.out.size))
  clear hb
  go_wp2_with fail
  refine (H2.out _).mono ?_
  rintro e w3 ⟨rfl, hb⟩
  have HB3 := Lib.hid (HB2.out.trans (hb.mono HB2.out.size))
  clear hb
  go_wp2_with fail
  refine (H3.out _).mono ?_
  rintro e w4 ⟨rfl, hb⟩
  have HB4 := Lib.hid (HB3.out.trans (hb.mono HB3.out.size))
  clear hb
  go_wp2_with fail
  refine (HM.out _).mono ?_
  rintro e w5 ⟨rfl, rfl⟩
  go_wp2_with fail
  refine (H4.out _).mono ?_
  rintro e w6 ⟨rfl, hb⟩
  have HB6 := Lib.hid (HB4.out.trans (hb.mono HB4.out.size))
  clear hb
  go_wp2_with fail
  refine (H5.out _).mono ?_
  rintro e w7 ⟨rfl, hb⟩
  have HB7 := Lib.hid (HB6.out.trans (hb.mono HB6.out.size))
  clear hb
  go_wp2_with fail
  refine (H6.out _).mono ?_
  rintro e w8 ⟨rfl, hb⟩
  have HB8 := Lib.hid (HB7.out.trans (hb.mono HB7.out.size))
  clear hb
  go_wp2_with fail
  refine (H7.out _).mono ?_
  rintro e w9 ⟨rfl, hb⟩
  have HB9 := Lib.hid (HB8.out.trans (hb.mono HB8.out.size))
  clear hb
  go_wp2_with fail
  refine (H8.out _).mono ?_
  rintro e w10 ⟨rfl, hb⟩
  have HB10 := Lib.hid (HB9.out.trans (hb.mono HB9.out.size))
  clear hb
  go_wp2_with fail
  refine (H9.out _).mono ?_
  rintro e w11 ⟨rfl, rfl⟩
  go_wp2_with fail
  refine (HMB.out _).mono ?_
  rintro e w12 ⟨rfl, rfl⟩
  go_wp2_with fail
  go_ret
  exact ⟨rfl, HB10.out⟩

set_option maxHeartbeats 8000000 in
set_option maxRecDepth 100000 in
theorem walk3 (a b : Nat) (c : Int) (n m : Nat) (hn : n < 4294967296) (hm : m < 4294967296) (ha : unitB (a : Int) = true) (hb : unitB (b : Int) = true) (hc : unitB c = false) (w : World) (ht : TabD w) :
    Calls Tryd.prog 8 #[.int .i64 (a : Int), .int .i64 (b : Int), .int .i64 c, .int .u32 (n : Int), .int .u32 (m : Int)] w fun e w' => e = .returned (.bool true) ∧ Below w.heap.size w w' := by
  have HAW := Lib.hid (awake_any w ht)
  have ua := unitB_nat ha
  obtain ⟨k, hk⟩ := pD_two
  have hk' : k = 2305843009213691577 := by have : (2305843009213691579 : Nat) = k + 2 := hk; omega
  have hPL : pD = 2305843009213691579 := rfl
  have hia : unitB ((powP a 2305843009213691577 : Nat) : Int) = true := unitB_yes (by have := unit_pow a 2305843009213691577 ua.1 ua.2; omega) (by have := powP_lt a 2305843009213691577; omega)
  have hone : a * powP a 2305843009213691577 % 2305843009213691579 = 1 := by have := inv_pow a ua.1 ua.2 k hk; rw [hk'] at this; exact this
  have han : unitB ((powP a n : Nat) : Int) = true := unitB_yes (by have := unit_pow a n ua.1 ua.2; omega) (by have := powP_lt a n; omega)
  have ham : unitB ((powP a m : Nat) : Int) = true := unitB_yes (by have := unit_pow a m ua.1 ua.2; omega) (by have := powP_lt a m; omega)
  have hboth : powP a n * powP a m % 2305843009213691579 = powP a (n + m) := pow_add' a n m
  have HM := Lib.hid (fun w => refMember_yes (a : Int) ha w)
  have H2 := Lib.hid (fun w => Power_yes a n ha (by omega) w)
  have H3 := Lib.hid (fun w => Inverse_yes a ha w)
  have H4 := Lib.hid (fun w => times_yes a (powP a 2305843009213691577) ha hia w)
  have H5 := Lib.hid (fun w => Power_yes a m ha (by omega) w)
  have H6 := Lib.hid (fun w => Power_yes a (n + m) ha (by omega) w)
  have H7 := Lib.hid (fun w => times_yes (powP a n) (powP a m) han ham w)
  have H8 := Lib.hid (fun w => Power_no2 (a : Int) (-1 - (n : Int)) ha (by omega) w)
  have H9 := Lib.hid (fun w => refPower_any a n ua.2 (by omega) w)
  rw [hone] at H4
  rw [hboth] at H7
  have hnm : ((n + m : Nat) : Int) = (n : Int) + (m : Int) := by omega
  rw [hnm] at H6
  generalize powP a 2305843009213691577 = IA at *
  generalize powP a (n + m) = BO at *
  generalize powP a n = AN at *
  generalize powP a m = AM at *
  
  have ub := unitB_nat hb
  have H1 := Lib.hid (fun w => times_yes a b ha hb w)
  have HMB := Lib.hid (fun w => refMember_yes (b : Int) hb w)
  have H10 := Lib.hid (fun w => times_yes b a hb ha w)
  have H11 := Lib.hid (fun w => refTimes_any a b ua.2 (by have := ub.2; omega) w)
  rw [Nat.mul_comm b a] at H10
  
  have HMC := Lib.hid (fun w => refMember_no c hc w)
  generalize a * b % 2305843009213691579 = AB at *
  clear ua ub hk hk' hPL hia hone han ham hboth hnm ha hb hc k
  clear ht
  go_enter Tryd.func8, Tryd.ntmps8
  go_wp2_with fail
  refine (HAW.out).mono ?_
  rintro e w1 ⟨rfl, hb⟩
  have HB1 := Lib.hid hb
  clear hb
  go_wp2_with fail
  refine (H1.out _).mono ?_
  rintro e w2 ⟨rfl, hb⟩
  have HB2 := Lib.hid (HB1.out.trans (hb.mono HB1.out.size))
  clear hb
  go_wp2_with fail
  refine (H2.out _).mono ?_
  rintro e w3 ⟨rfl, hb⟩
  have HB3 := Lib.hid (HB2.out.trans (hb.mono HB2.out.size))
  clear hb
  go_wp2_with fail
  refine (H3.out _).mono ?_
  rintro e w4 ⟨rfl, hb⟩
  have HB4 := Lib.hid (HB3.out.trans (hb.mono HB3.out.size))
  clear hb
  go_wp2_with fail
  refine (HM.out _).mono ?_
  rintro e w5 ⟨rfl, rfl⟩
  go_wp2_with fail
  refine (H4.out _).mono ?_
  rintro e w6 ⟨rfl, hb⟩
  have HB6 := Lib.hid (HB4.out.trans (hb.mono HB4.out.size))
  clear hb
  go_wp2_with fail
  refine (H5.out _).mono ?_
  rintro e w7 ⟨rfl, hb⟩
  have HB7 := Lib.hid (HB6.out.trans (hb.mono HB6.out.size))
  clear hb
  go_wp2_with fail
  refine (H6.out _).mono ?_
  rintro e w8 ⟨rfl, hb⟩
  have HB8 := Lib.hid (HB7.out.trans (hb.mono HB7.out.size))
  clear hb
  go_wp2_with fail
  refine (H7.out _).mono ?_
  rintro e w9 ⟨rfl, hb⟩
  have HB9 := Lib.hid (HB8.out.trans (hb.mono HB8.out.size))
  clear hb
  go_wp2_with fail
  refine (H8.out _).mono ?_
  rintro e w10 ⟨rfl, hb⟩
  have HB10 := Lib.hid (HB9.out.trans (hb.mono HB9.out.size))
  clear hb
  go_wp2_with fail
  refine (H9.out _).mono ?_
  rintro e w11 ⟨rfl, rfl⟩
  go_wp2_with fail
  refine (HMB.out _).mono ?_
  rintro e w12 ⟨rfl, rfl⟩
  go_wp2_with fail
  refine (H10.out _).mono ?_
  rintro e w13 ⟨rfl, hb⟩
  have HB13 := Lib.hid (HB10.out.trans (hb.mono HB10.out.size))
  clear hb
  go_wp2_with fail
  refine (H11.out _).mono ?_
  rintro e w14 ⟨rfl, rfl⟩
  go_wp2_with fail
  refine (HMC.out _).mono ?_
  rintro e w15 ⟨rfl, rfl⟩
  go_wp2_with fail
  go_ret
  exact ⟨rfl, HB13.out⟩

set_option maxHeartbeats 8000000 in
set_option maxRecDepth 100000 in
theorem walk4 (a b c : Nat) (n m : Nat) (hn : n < 4294967296) (hm : m < 4294967296) (ha : unitB (a : Int) = true) (hb : unitB (b : Int) = true) (hc : unitB (c : Int) = true) (w : World) (ht : TabD w) :
    Calls Tryd.prog 8 #[.int .i64 (a : Int), .int .i64 (b : Int), .int .i64 (c : Int), .int .u32 (n : Int), .int .u32 (m : Int)] w fun e w' => e = .returned (.bool true) ∧ Below w.heap.size w w' := by
  have HAW := Lib.hid (awake_any w ht)
  have ua := unitB_nat ha
  obtain ⟨k, hk⟩ := pD_two
  have hk' : k = 2305843009213691577 := by have : (2305843009213691579 : Nat) = k + 2 := hk; omega
  have hPL : pD = 2305843009213691579 := rfl
  have hia : unitB ((powP a 2305843009213691577 : Nat) : Int) = true := unitB_yes (by have := unit_pow a 2305843009213691577 ua.1 ua.2; omega) (by have := powP_lt a 2305843009213691577; omega)
  have hone : a * powP a 2305843009213691577 % 2305843009213691579 = 1 := by have := inv_pow a ua.1 ua.2 k hk; rw [hk'] at this; exact this
  have han : unitB ((powP a n : Nat) : Int) = true := unitB_yes (by have := unit_pow a n ua.1 ua.2; omega) (by have := powP_lt a n; omega)
  have ham : unitB ((powP a m : Nat) : Int) = true := unitB_yes (by have := unit_pow a m ua.1 ua.2; omega) (by have := powP_lt a m; omega)
  have hboth : powP a n * powP a m % 2305843009213691579 = powP a (n + m) := pow_add' a n m
  have HM := Lib.hid (fun w => refMember_yes (a : Int) ha w)
  have H2 := Lib.hid (fun w => Power_yes a n ha (by omega) w)
  have H3 := Lib.hid (fun w => Inverse_yes a ha w)
  have H4 := Lib.hid (fun w => times_yes a (powP a 2305843009213691577) ha hia w)
  have H5 := Lib.hid (fun w => Power_yes a m ha (by omega) w)
  have H6 := Lib.hid (fun w => Power_yes a (n + m) ha (by omega) w)
  have H7 := Lib.hid (fun w => times_yes (powP a n) (powP a m) han ham w)
  have H8 := Lib.hid (fun w => Power_no2 (a : Int) (-1 - (n : Int)) ha (by omega) w)
  have H9 := Lib.hid (fun w => refPower_any a n ua.2 (by omega) w)
  rw [hone] at H4
  rw [hboth] at H7
  have hnm : ((n + m : Nat) : Int) = (n : Int) + (m : Int) := by omega
  rw [hnm] at H6
  generalize powP a 2305843009213691577 = IA at *
  generalize powP a (n + m) = BO at *
  generalize powP a n = AN at *
  generalize powP a m = AM at *
  
  have ub := unitB_nat hb
  have H1 := Lib.hid (fun w => times_yes a b ha hb w)
  have HMB := Lib.hid (fun w => refMember_yes (b : Int) hb w)
  have H10 := Lib.hid (fun w => times_yes b a hb ha w)
  have H11 := Lib.hid (fun w => refTimes_any a b ua.2 (by have := ub.2; omega) w)
  rw [Nat.mul_comm b a] at H10
  
  have uc := unitB_nat hc
  have HMC := Lib.hid (fun w => refMember_yes (c : Int) hc w)
  have hab : unitB ((a * b % 2305843009213691579 : Nat) : Int) = true := unitB_yes (by have : 0 < a * b % 2305843009213691579 := unit_mul a b ua.1 ua.2 ub.1 ub.2; omega) (by omega)
  have hbc : unitB ((b * c % 2305843009213691579 : Nat) : Int) = true := unitB_yes (by have : 0 < b * c % 2305843009213691579 := unit_mul b c ub.1 ub.2 uc.1 uc.2; omega) (by omega)
  have hass : a * b % 2305843009213691579 * c % 2305843009213691579 = a * (b * c % 2305843009213691579) % 2305843009213691579 := mul_assoc' a b c
  have H12 := Lib.hid (fun w => times_yes b c hb hc w)
  have H13 := Lib.hid (fun w => times_yes (a * b % 2305843009213691579) c hab hc w)
  have H14 := Lib.hid (fun w => times_yes a (b * c % 2305843009213691579) ha hbc w)
  rw [hass] at H13
  generalize a * (b * c % 2305843009213691579) % 2305843009213691579 = X at *
  generalize a * b % 2305843009213691579 = AB at *
  generalize b * c % 2305843009213691579 = BC at *
  clear ua ub uc hk hk' hPL hia hone han ham hboth hnm hab hbc hass ha hb hc k
  clear ht
  go_enter Tryd.func8, Tryd.ntmps8
  go_wp2_with fail
  refine (HAW.out).mono ?_
  rintro e w1 ⟨rfl, hb⟩
  have HB1 := Lib.hid hb
  clear hb
  go_wp2_with fail
  refine (H1.out _).mono ?_
  rintro e w2 ⟨rfl, hb⟩
  have HB2 := Lib.hid (HB1.out.trans (hb.mono HB1.out.size))
  clear hb
  go_wp2_with fail
  refine (H2.out _).mono ?_
  rintro e w3 ⟨rfl, hb⟩
  have HB3 := Lib.hid (HB2.out.trans (hb.mono HB2.out.size))
  clear hb
  go_wp2_with fail
  refine (H3.out _).mono ?_
  rintro e w4 ⟨rfl, hb⟩
  have HB4 := Lib.hid (HB3.out.trans (hb.mono HB3.out.size))
  clear hb
  go_wp2_with fail
  refine (HM.out _).mono ?_
  rintro e w5 ⟨rfl, rfl⟩
  go_wp2_with fail
  refine (H4.out _).mono ?_
  rintro e w6 ⟨rfl, hb⟩
  have HB6 := Lib.hid (HB4.out.trans (hb.mono HB4.out.size))
  clear hb
  go_wp2_with fail
  refine (H5.out _).mono ?_
  rintro e w7 ⟨rfl, hb⟩
  have HB7 := Lib.hid (HB6.out.trans (hb.mono HB6.out.size))
  clear hb
  go_wp2_with fail
  refine (H6.out _).mono ?_
  rintro e w8 ⟨rfl, hb⟩
  have HB8 := Lib.hid (HB7.out.trans (hb.mono HB7.out.size))
  clear hb
  go_wp2_with fail
  refine (H7.out _).mono ?_
  rintro e w9 ⟨rfl, hb⟩
  have HB9 := Lib.hid (HB8.out.trans (hb.mono HB8.out.size))
  clear hb
  go_wp2_with fail
  refine (H8.out _).mono ?_
  rintro e w10 ⟨rfl, hb⟩
  have HB10 := Lib.hid (HB9.out.trans (hb.mono HB9.out.size))
  clear hb
  go_wp2_with fail
  refine (H9.out _).mono ?_
  rintro e w11 ⟨rfl, rfl⟩
  go_wp2_with fail
  refine (HMB.out _).mono ?_
  rintro e w12 ⟨rfl, rfl⟩
  go_wp2_with fail
  refine (H10.out _).mono ?_
  rintro e w13 ⟨rfl, hb⟩
  have HB13 := Lib.hid (HB10.out.trans (hb.mono HB10.out.size))
  clear hb
  go_wp2_with fail
  refine (H11.out _).mono ?_
  rintro e w14 ⟨rfl, rfl⟩
  go_wp2_with fail
  refine (HMC.out _).mono ?_
  rintro e w15 ⟨rfl, rfl⟩
  go_wp2_with fail
  refine (H12.out _).mono ?_
  rintro e w16 ⟨rfl, hb⟩
  have HB16 := Lib.hid (HB13.out.trans (hb.mono HB13.out.size))
  clear hb
  go_wp2_with fail
  refine (H13.out _).mono ?_
  rintro e w17 ⟨rfl, hb⟩
  have HB17 := Lib.hid (HB16.out.trans (hb.mono HB16.out.size))
  clear hb
  go_wp2_with fail
  refine (H14.out _).mono ?_
  rintro e w18 ⟨rfl, hb⟩
  have HB18 := Lib.hid (HB17.out.trans (hb.mono HB17.out.size))
  clear hb
  go_wp2_with fail
  go_ret
  exact ⟨rfl, HB18.out⟩

theorem walk (a b c : Int) (n m : Int) (hn0 : 0 ≤ n) (hn1 : n < 4294967296) (hm0 : 0 ≤ m) (hm1 : m < 4294967296) (w : World) (ht : TabD w) :
    Calls Tryd.prog 8 #[.int .i64 a, .int .i64 b, .int .i64 c, .int .u32 n, .int .u32 m] w fun e w' => e = .returned (.bool true) ∧ Below w.heap.size w w' := by
  obtain ⟨n, rfl⟩ := Int.eq_ofNat_of_zero_le hn0
  obtain ⟨m, rfl⟩ := Int.eq_ofNat_of_zero_le hm0
  have hn : n < 4294967296 := by omega
  have hm : m < 4294967296 := by omega
  cases ha : unitB a
  · exact walk1 a b c n m hn hm ha w ht
  obtain ⟨a, rfl⟩ := Int.eq_ofNat_of_zero_le (show 0 ≤ a by have := unitB_of ha; omega)
  cases hb : unitB b
  · exact walk2 a b c n m hn hm ha hb w ht
  obtain ⟨b, rfl⟩ := Int.eq_ofNat_of_zero_le (show 0 ≤ b by have := unitB_of hb; omega)
  cases hc : unitB c
  · exact walk3 a b c n m hn hm ha hb hc w ht
  obtain ⟨c, rfl⟩ := Int.eq_ofNat_of_zero_le (show 0 ≤ c by have := unitB_of hc; omega)
  exact walk4 a b c n m hn hm ha hb hc w ht

theorem u32_bd {n : Int} (h : (Lit.int .u32 n).wf = true) : 0 ≤ n ∧ n < 4294967296 := by
  simp [Lit.wf, IntKind.min, IntKind.max, IntKind.signed, IntKind.bits] at h
  omega

set_option maxRecDepth 100000 in
theorem lifted (os : Os) (started : os.Started) (H : Type) (enc : TypeId × Value → H) :
    ReturnsInHanded {} Tryd.checked os 8 .any (fun w args => (Rows.digestGroupSpec.pre enc Tryd.prog Tryd.f8 [] false w args ∧ laidMetH Tryd.prog laid2 w) ∧ sizedMet enc Tryd.prog Tryd.f8 (OpenSpec.ofChange Rows.digestGroupSpec) false w args)
      (Rows.digestGroupSpec.post enc Tryd.prog Tryd.f8 false true false false) := by
  refine returnsInHanded_of_change_and (C := Tryd.checked) (X := fun w _ => laidMetH Tryd.prog laid2 w) (fun _ _ _ hh h => h.of_heap hh) own started (by kernel_rfl) Tryd.func8
    (ChangeSpec.witness_shaped (enc := enc) (C := Tryd.checked) (os := os) (X := fun w _ => laidMetH Tryd.prog laid2 w) false (World.doorLaid Tryd.prog 400 os) #[.int .i64 0, .int .i64 0, .int .i64 0, .int .u32 0, .int .u32 0] 8 rfl (World.shaped_of_RefB (by kernel_rfl) (by kernel_rfl)) (by kernel_rfl) (by kernel_rfl) (by kernel_rfl) (door_met os _)) ?_
  intro W base args ds gs before hval0 hW _ _ hL _
  have hval : ∀ (j : Nat) t v, Tryd.f8.params[j]? = some t → args[j]? = some v → Value.okWide Tryd.prog W .any base t v := hval0
  have hW' := hW
  obtain ⟨p, q, hA0, hV, rfl, hfz, hnd⟩ := hW
  have hA : DataW.TrodAll enc Tryd.prog W 0 (fun _ => true) true Tryd.f8.params.toList args.toList ds p := hA0
  rw [Tryd.params8] at hA hval
  obtain ⟨v0, vs0, d0, ds0, p0, q0, hargs, rfl, rfl, h0, r0⟩ := trodAll_cons hA
  obtain ⟨v1, vs1, d1, ds1, p1, q1, rfl, rfl, rfl, h1, r1⟩ := trodAll_cons r0
  obtain ⟨v2, vs2, d2, ds2, p2, q2, rfl, rfl, rfl, h2, r2⟩ := trodAll_cons r1
  obtain ⟨v3, vs3, d3, ds3, p3, q3, rfl, rfl, rfl, h3, r3⟩ := trodAll_cons r2
  obtain ⟨v4, vs4, d4, ds4, p4, q4, rfl, rfl, rfl, h4, r4⟩ := trodAll_cons r3
  obtain ⟨rfl, rfl, rfl⟩ := trodAll_nil r4
  obtain rfl : args = #[v0, v1, v2, v3, v4] := by cases args; simp_all
  obtain ⟨rfl, rfl⟩ := trodVars_none hV
  obtain ⟨a0, rfl, rfl, rfl, w0⟩ := open_int Tryd.underlying3 (hval 0 3 v0 rfl rfl) h0
  obtain ⟨a1, rfl, rfl, rfl, w1⟩ := open_int Tryd.underlying3 (hval 1 3 v1 rfl rfl) h1
  obtain ⟨a2, rfl, rfl, rfl, w2⟩ := open_int Tryd.underlying3 (hval 2 3 v2 rfl rfl) h2
  obtain ⟨a3, rfl, rfl, rfl, w3⟩ := open_int Tryd.underlying24 (hval 3 24 v3 rfl rfl) h3
  obtain ⟨a4, rfl, rfl, rfl, w4⟩ := open_int Tryd.underlying24 (hval 4 24 v4 rfl rfl) h4
  clear hA0 hval0
  have ht := of_laid hL
  refine (walk a0 a1 a2 a3 a4 (u32_bd w3).1 (u32_bd w3).2 (u32_bd w4).1 (u32_bd w4).2 W ht).mono fun e W' ⟨he, bel⟩ => ?_
  subst he
  exact ⟨_, rfl, _, _, _, [], _, [], hW', trodAll_mk1 (shut_bool Tryd.underlying4 _), (trodAll_cons_mk (shut_int Tryd.underlying3 w0) (trodAll_cons_mk (shut_int Tryd.underlying3 w1) (trodAll_cons_mk (shut_int Tryd.underlying3 w2) (trodAll_cons_mk (shut_int Tryd.underlying24 w3) (trodAll_cons_mk (shut_int Tryd.underlying24 w4) trodAll_mk0))))), rfl, bel.frame _, fun h => by cases h⟩

theorem over : Rows.digestGroupRow.holds Tryd.pinned (OpenSpec.ofChange Rows.digestGroupSpec) :=
  OpenClaim.holds_of_wide 8 Tryd.f8 rfl rfl rfl rfl rfl rfl rfl ⟨rfl, rfl, rfl, rfl, rfl⟩ rfl rfl rfl rfl rfl (by kernel_rfl) Tryd.func8 (by kernel_rfl)
    (of_decide_eq_true (by kernel_rfl)) (by unfold Func.isWrapper; first | (rw [if_pos (by decide +kernel)]; kernel_rfl) | (rw [if_neg (by decide +kernel)]; exact ⟨rfl, rfl⟩))
    (fun os started H enc _ => lifted os started H enc)

theorem card_holds : Rows.DigestGroupCardSaid :=
  Claim7.holds_tied_plain_at .later [] [.data, .data] true (true, "8c260326cb8ce36d986a9977b984088357d89190d852a59f516cd170735cb484") false
    over (fun _ h => by cases h) (by kernel_rfl) (fun _ h => by cases h) digestGroup_row_tie rfl ⟨rfl, rfl⟩ (by kernel_rfl) rfl
    (fun f fn hf hfn => by
      obtain rfl : f = 8 := Option.some.inj ((show Tryd.prog.funcNamed "acheron/acheronlaw03.DigestGroup" = some 8 by kernel_rfl).symm.trans hf) |>.symm
      obtain rfl : fn = Tryd.f8 := (Option.some.inj (Tryd.func8.symm.trans hfn)).symm
      exact ⟨by kernel_rfl, fun j t ht => by
        rw [Tryd.params8] at ht
        have hm : t ∈ [3, 24] := by have := Array.mem_of_getElem? ht; simp at this ⊢; omega
        have hall : ([3, 24].all fun u => !Tryd.prog.wantsStandIn u) = true := by kernel_rfl
        exact (show Tryd.prog.wantsStandIn t = false by simpa using List.all_eq_true.1 hall t hm)⟩)
    (by kernel_rfl)
end Go.Proofs.YthhaofdnbemogaaDoor.digestGroup

