/-
  digest.Times, Power, Inverse, Key, Shared.
-/
import Derived.Test.YthhaofdnbemogaaDoorGrpM
set_option linter.unusedVariables false
namespace Go.Proofs.YthhaofdnbemogaaDoor
open Go.RowKit

theorem secretB_yes {a : Int} (h0 : 1 ≤ a) (h1 : a < 1152921504606845789) : secretB a = true := decide_eq_true ⟨h0, h1⟩
theorem secretB_of {a : Int} (h : secretB a = true) : 1 ≤ a ∧ a < 1152921504606845789 := of_decide_eq_true h
theorem unitB_of {a : Int} (h : unitB a = true) : 1 ≤ a ∧ a < 2305843009213691579 := of_decide_eq_true h
theorem secret_any (a : Int) (w : World) : Calls Tryd.prog 66 #[.int .i64 a] w fun e w' => e = .returned (.bool (secretB a)) ∧ w = w' := by
  by_cases h0 : 1 ≤ a
  · by_cases h1 : a < 1152921504606845789
    · have e := Lib.hid (secretB_yes h0 h1)
      go_enter Tryd.func66, Tryd.ntmps66
      go_wp2
      go_ret
      exact ⟨ret_bool e.out.symm, rfl⟩
    · have e := Lib.hid (show secretB a = false from decide_eq_false (fun h => h1 h.2))
      go_enter Tryd.func66, Tryd.ntmps66
      go_wp2
      go_ret
      exact ⟨ret_bool e.out.symm, rfl⟩
  · have e := Lib.hid (show secretB a = false from decide_eq_false (fun h => h0 h.1))
    go_enter Tryd.func66, Tryd.ntmps66
    go_wp2
    go_ret
    exact ⟨ret_bool e.out.symm, rfl⟩
theorem unit_yes (a : Int) (h : unitB a = true) (w : World) : Calls Tryd.prog 61 #[.int .i64 a] w fun e w' => e = .returned (.bool true) ∧ w = w' := by
  have := unit_any a w; rw [h] at this; exact this
theorem unit_no (a : Int) (h : unitB a = false) (w : World) : Calls Tryd.prog 61 #[.int .i64 a] w fun e w' => e = .returned (.bool false) ∧ w = w' := by
  have := unit_any a w; rw [h] at this; exact this
theorem secret_yes (a : Int) (h : secretB a = true) (w : World) : Calls Tryd.prog 66 #[.int .i64 a] w fun e w' => e = .returned (.bool true) ∧ w = w' := by
  have := secret_any a w; rw [h] at this; exact this
theorem secret_no (a : Int) (h : secretB a = false) (w : World) : Calls Tryd.prog 66 #[.int .i64 a] w fun e w' => e = .returned (.bool false) ∧ w = w' := by
  have := secret_any a w; rw [h] at this; exact this
theorem valid_yes (a : Int) (h : validB a = true) (w : World) : Calls Tryd.prog 36 #[.int .i64 a] w fun e w' => e = .returned (.bool true) ∧ Below w.heap.size w w' := by
  have := valid_any a w; rw [h] at this; exact this
theorem valid_no (a : Int) (h : validB a = false) (w : World) : Calls Tryd.prog 36 #[.int .i64 a] w fun e w' => e = .returned (.bool false) ∧ Below w.heap.size w w' := by
  have := valid_any a w; rw [h] at this; exact this
theorem unitB_nat {a : Nat} (h : unitB (a : Int) = true) : 0 < a ∧ a < 2305843009213691579 := by
  have := unitB_of h; omega
theorem unitB_valid {k : Int} (h : validB k = true) : unitB k = true := by
  unfold validB at h; cases hu : unitB k
  · rw [hu] at h; simp at h
  · rfl

set_option maxHeartbeats 1000000 in
theorem times_yes (a b : Nat) (ha : unitB (a : Int) = true) (hb : unitB (b : Int) = true) (w : World) :
    Calls Tryd.prog 30 #[.int .i64 (a : Int), .int .i64 (b : Int)] w fun e w' => e = .returned (.tuple #[.int .i64 ((a * b % 2305843009213691579 : Nat) : Int), .int .i64 0]) ∧ Below w.heap.size w w' := by
  have HP := Lib.hid (fun w => product_p a b (by have := unitB_nat ha; omega) (by have := unitB_nat hb; omega) w)
  have HU := Lib.hid (fun w => unit_yes (a : Int) ha w)
  have HV := Lib.hid (fun w => unit_yes (b : Int) hb w)
  obtain ⟨R, hR⟩ : ∃ R, R = a * b % 2305843009213691579 := ⟨_, rfl⟩
  rw [← hR] at HP ⊢
  clear ha hb hR
  go_enter Tryd.func30, Tryd.ntmps30
  go_wp2_with fail
  refine (HU.out _).mono ?_
  rintro e w1 ⟨rfl, rfl⟩
  go_wp2_with fail
  refine (HV.out _).mono ?_
  rintro e w2 ⟨rfl, rfl⟩
  go_wp2_with fail
  refine (HP.out _).mono ?_
  rintro e w3 ⟨rfl, hb⟩
  have HB3 := Lib.hid hb
  clear hb
  go_wp2_with fail
  go_ret2
  exact ⟨rfl, HB3.out⟩

set_option maxHeartbeats 1000000 in
theorem times_no1 (a b : Int) (h : unitB a = false) (w : World) :
    Calls Tryd.prog 30 #[.int .i64 a, .int .i64 b] w fun e w' => e = .returned (.tuple #[.int .i64 0, .int .i64 11]) ∧ Below w.heap.size w w' := by
  have HU := Lib.hid (fun w => unit_no a h w)
  clear h
  go_enter Tryd.func30, Tryd.ntmps30
  go_wp2_with fail
  refine (HU.out _).mono ?_
  rintro e w1 ⟨rfl, rfl⟩
  go_wp2_with fail
  go_ret2
  exact ⟨rfl, Below.refl _ _⟩

set_option maxHeartbeats 1000000 in
theorem times_no2 (a b : Int) (ha : unitB a = true) (h : unitB b = false) (w : World) :
    Calls Tryd.prog 30 #[.int .i64 a, .int .i64 b] w fun e w' => e = .returned (.tuple #[.int .i64 0, .int .i64 11]) ∧ Below w.heap.size w w' := by
  have HU := Lib.hid (fun w => unit_yes a ha w)
  have HV := Lib.hid (fun w => unit_no b h w)
  clear ha h
  go_enter Tryd.func30, Tryd.ntmps30
  go_wp2_with fail
  refine (HU.out _).mono ?_
  rintro e w1 ⟨rfl, rfl⟩
  go_wp2_with fail
  refine (HV.out _).mono ?_
  rintro e w2 ⟨rfl, rfl⟩
  go_wp2_with fail
  go_ret2
  exact ⟨rfl, Below.refl _ _⟩

set_option maxHeartbeats 1000000 in
theorem Power_yes (a n : Nat) (ha : unitB (a : Int) = true) (hn : n < 9223372036854775808) (w : World) :
    Calls Tryd.prog 31 #[.int .i64 (a : Int), .int .i64 (n : Int)] w fun e w' => e = .returned (.tuple #[.int .i64 (powP a n : Int), .int .i64 0]) ∧ Below w.heap.size w w' := by
  have HP := Lib.hid (fun w => power_any a n (by have := unitB_nat ha; omega) hn w)
  have HU := Lib.hid (fun w => unit_yes (a : Int) ha w)
  have h0 : ¬ (n : Int) < 0 := by omega
  clear ha hn
  go_enter Tryd.func31, Tryd.ntmps31
  go_wp2_with fail
  refine (HU.out _).mono ?_
  rintro e w1 ⟨rfl, rfl⟩
  go_wp2_with fail
  refine (HP.out _).mono ?_
  rintro e w2 ⟨rfl, hb⟩
  have HB2 := Lib.hid hb
  clear hb
  go_wp2_with fail
  go_ret2
  exact ⟨rfl, HB2.out⟩

set_option maxHeartbeats 1000000 in
theorem Power_no1 (a n : Int) (h : unitB a = false) (w : World) :
    Calls Tryd.prog 31 #[.int .i64 a, .int .i64 n] w fun e w' => e = .returned (.tuple #[.int .i64 0, .int .i64 11]) ∧ Below w.heap.size w w' := by
  have HU := Lib.hid (fun w => unit_no a h w)
  clear h
  go_enter Tryd.func31, Tryd.ntmps31
  go_wp2_with fail
  refine (HU.out _).mono ?_
  rintro e w1 ⟨rfl, rfl⟩
  go_wp2_with fail
  go_ret2
  exact ⟨rfl, Below.refl _ _⟩

set_option maxHeartbeats 1000000 in
theorem Power_no2 (a n : Int) (ha : unitB a = true) (h : n < 0) (w : World) :
    Calls Tryd.prog 31 #[.int .i64 a, .int .i64 n] w fun e w' => e = .returned (.tuple #[.int .i64 0, .int .i64 11]) ∧ Below w.heap.size w w' := by
  have HU := Lib.hid (fun w => unit_yes a ha w)
  clear ha
  go_enter Tryd.func31, Tryd.ntmps31
  go_wp2_with fail
  refine (HU.out _).mono ?_
  rintro e w1 ⟨rfl, rfl⟩
  go_wp2_with fail
  go_ret2
  exact ⟨rfl, Below.refl _ _⟩

set_option maxHeartbeats 1000000 in
theorem inverse_any (a : Nat) (ha : a < 9223372036854775808) (w : World) :
    Calls Tryd.prog 64 #[.int .i64 (a : Int)] w fun e w' => e = .returned (.int .i64 (powP a 2305843009213691577 : Int)) ∧ Below w.heap.size w w' := by
  have HP := Lib.hid (fun w => power_any a 2305843009213691577 ha (by omega) w)
  have hl : ((2305843009213691577 : Nat) : Int) = 2305843009213691577 := rfl
  rw [hl] at HP
  obtain ⟨R, hR⟩ : ∃ R, R = powP a 2305843009213691577 := ⟨_, rfl⟩
  rw [← hR] at HP ⊢
  clear ha hR hl
  go_enter Tryd.func64, Tryd.ntmps64
  go_wp2_with fail
  refine (HP.out _).mono ?_
  rintro e w1 ⟨rfl, hb⟩
  have HB1 := Lib.hid hb
  clear hb
  go_wp2_with fail
  go_ret
  exact ⟨rfl, HB1.out⟩

set_option maxHeartbeats 1000000 in
theorem Inverse_yes (a : Nat) (ha : unitB (a : Int) = true) (w : World) :
    Calls Tryd.prog 32 #[.int .i64 (a : Int)] w fun e w' => e = .returned (.tuple #[.int .i64 (powP a 2305843009213691577 : Int), .int .i64 0]) ∧ Below w.heap.size w w' := by
  have HP := Lib.hid (fun w => inverse_any a (by have := unitB_nat ha; omega) w)
  have HU := Lib.hid (fun w => unit_yes (a : Int) ha w)
  obtain ⟨R, hR⟩ : ∃ R, R = powP a 2305843009213691577 := ⟨_, rfl⟩
  rw [← hR] at HP ⊢
  clear ha hR
  go_enter Tryd.func32, Tryd.ntmps32
  go_wp2_with fail
  refine (HU.out _).mono ?_
  rintro e w1 ⟨rfl, rfl⟩
  go_wp2_with fail
  refine (HP.out _).mono ?_
  rintro e w2 ⟨rfl, hb⟩
  have HB2 := Lib.hid hb
  clear hb
  go_wp2_with fail
  go_ret2
  exact ⟨rfl, HB2.out⟩

set_option maxHeartbeats 1000000 in
theorem Inverse_no (a : Int) (h : unitB a = false) (w : World) :
    Calls Tryd.prog 32 #[.int .i64 a] w fun e w' => e = .returned (.tuple #[.int .i64 0, .int .i64 11]) ∧ Below w.heap.size w w' := by
  have HU := Lib.hid (fun w => unit_no a h w)
  clear h
  go_enter Tryd.func32, Tryd.ntmps32
  go_wp2_with fail
  refine (HU.out _).mono ?_
  rintro e w1 ⟨rfl, rfl⟩
  go_wp2_with fail
  go_ret2
  exact ⟨rfl, Below.refl _ _⟩

set_option maxHeartbeats 1000000 in
theorem Key_yes (x : Nat) (hx : secretB (x : Int) = true) (w : World) :
    Calls Tryd.prog 38 #[.int .i64 (x : Int)] w fun e w' => e = .returned (.tuple #[.int .i64 (powP 4 x : Int), .int .i64 0]) ∧ Below w.heap.size w w' := by
  have HP := Lib.hid (fun w => power_any 4 x (by omega) (by have := secretB_of hx; omega) w)
  have HU := Lib.hid (fun w => secret_yes (x : Int) hx w)
  obtain ⟨R, hR⟩ : ∃ R, R = powP 4 x := ⟨_, rfl⟩
  rw [← hR] at HP ⊢
  have hl : ((4 : Nat) : Int) = 4 := rfl
  rw [hl] at HP
  clear hx hR hl
  go_enter Tryd.func38, Tryd.ntmps38
  go_wp2_with fail
  refine (HU.out _).mono ?_
  rintro e w1 ⟨rfl, rfl⟩
  go_wp2_with fail
  refine (HP.out _).mono ?_
  rintro e w2 ⟨rfl, hb⟩
  have HB2 := Lib.hid hb
  clear hb
  go_wp2_with fail
  go_ret2
  exact ⟨rfl, HB2.out⟩

set_option maxHeartbeats 1000000 in
theorem Key_no (x : Int) (h : secretB x = false) (w : World) :
    Calls Tryd.prog 38 #[.int .i64 x] w fun e w' => e = .returned (.tuple #[.int .i64 0, .int .i64 11]) ∧ Below w.heap.size w w' := by
  have HU := Lib.hid (fun w => secret_no x h w)
  clear h
  go_enter Tryd.func38, Tryd.ntmps38
  go_wp2_with fail
  refine (HU.out _).mono ?_
  rintro e w1 ⟨rfl, rfl⟩
  go_wp2_with fail
  go_ret2
  exact ⟨rfl, Below.refl _ _⟩

set_option maxHeartbeats 1000000 in
theorem Shared_no (x k : Int) (h : secretB x = false) (w : World) :
    Calls Tryd.prog 39 #[.int .i64 x, .int .i64 k] w fun e w' => e = .returned (.tuple #[.int .i64 0, .int .i64 11]) ∧ Below w.heap.size w w' := by
  have HU := Lib.hid (fun w => secret_no x h w)
  clear h
  go_enter Tryd.func39, Tryd.ntmps39
  go_wp2_with fail
  refine (HU.out _).mono ?_
  rintro e w1 ⟨rfl, rfl⟩
  go_wp2_with fail
  go_ret2
  exact ⟨rfl, Below.refl _ _⟩

set_option maxHeartbeats 1000000 in
theorem Shared_key (x k : Int) (hx : secretB x = true) (h : validB k = false) (w : World) :
    Calls Tryd.prog 39 #[.int .i64 x, .int .i64 k] w fun e w' => e = .returned (.tuple #[.int .i64 0, .int .i64 26]) ∧ Below w.heap.size w w' := by
  have HU := Lib.hid (fun w => secret_yes x hx w)
  have HV := Lib.hid (fun w => valid_no k h w)
  clear hx h
  go_enter Tryd.func39, Tryd.ntmps39
  go_wp2_with fail
  refine (HU.out _).mono ?_
  rintro e w1 ⟨rfl, rfl⟩
  go_wp2_with fail
  refine (HV.out _).mono ?_
  rintro e w2 ⟨rfl, hb⟩
  have HB2 := Lib.hid hb
  clear hb
  go_wp2_with fail
  go_ret2
  exact ⟨rfl, HB2.out⟩

set_option maxHeartbeats 1000000 in
theorem Shared_yes (x k : Nat) (hx : secretB (x : Int) = true) (hk : validB (k : Int) = true) (w : World) :
    Calls Tryd.prog 39 #[.int .i64 (x : Int), .int .i64 (k : Int)] w fun e w' => e = .returned (.tuple #[.int .i64 (powP k x : Int), .int .i64 0]) ∧ Below w.heap.size w w' := by
  have HP := Lib.hid (fun w => power_any k x (by have := unitB_nat (unitB_valid hk); omega) (by have := secretB_of hx; omega) w)
  have HU := Lib.hid (fun w => secret_yes (x : Int) hx w)
  have HV := Lib.hid (fun w => valid_yes (k : Int) hk w)
  obtain ⟨R, hR⟩ : ∃ R, R = powP k x := ⟨_, rfl⟩
  rw [← hR] at HP ⊢
  clear hx hk hR
  go_enter Tryd.func39, Tryd.ntmps39
  go_wp2_with fail
  refine (HU.out _).mono ?_
  rintro e w1 ⟨rfl, rfl⟩
  go_wp2_with fail
  refine (HV.out _).mono ?_
  rintro e w2 ⟨rfl, hb⟩
  have HB2 := Lib.hid hb
  clear hb
  go_wp2_with fail
  refine (HP.out _).mono ?_
  rintro e w3 ⟨rfl, hb⟩
  have HB3 := Lib.hid (HB2.out.trans (hb.mono HB2.out.size))
  clear hb
  go_wp2_with fail
  go_ret2
  exact ⟨rfl, HB3.out⟩

end Go.Proofs.YthhaofdnbemogaaDoor
