/-
  acheronref04.shift.
-/
import Derived.Test.YthbmdlihfocbmaaGreatDoorRef1
set_option linter.unusedVariables false
namespace Go.Proofs.YthbmdlihfocbmaaGreatDoor
open Go.RowKit

theorem refWidth1 (w : World) : Calls Tryz.prog 51 #[.int .i64 1] w fun e w' => e = .returned (.int .i64 8) ∧ w = w' := by
  go_enter Tryz.func51, Tryz.ntmps51
  go_wp2
  go_ret
  exact ⟨rfl, rfl⟩
theorem refWidth2 (w : World) : Calls Tryz.prog 51 #[.int .i64 2] w fun e w' => e = .returned (.int .i64 32) ∧ w = w' := by
  go_enter Tryz.func51, Tryz.ntmps51
  go_wp2
  go_ret
  exact ⟨rfl, rfl⟩
theorem refWidth3 (w : World) : Calls Tryz.prog 51 #[.int .i64 3] w fun e w' => e = .returned (.int .i64 64) ∧ w = w' := by
  go_enter Tryz.func51, Tryz.ntmps51
  go_wp2
  go_ret
  exact ⟨rfl, rfl⟩
theorem dbl1 (A : Int) : wrap64 (A % 256 + A % 256) % 256 = (A * 2) % 256 := by unfold wrap64; omega
theorem dbl2 (A : Int) : wrap32 (wrap64 (wrap32 A + wrap32 A)) = wrap32 (A * 2) := by unfold wrap32 wrap64; omega
theorem dbl3 (A : Int) : wrap64 (wrap64 A + wrap64 A) = wrap64 (A * 2) := by unfold wrap64; omega
theorem halfS (x : Int) (N : Nat) : x / 2 ^ (N + 1) = x / 2 ^ N / 2 := by
  rw [Int.pow_succ, Int.ediv_ediv_of_nonneg (Int.le_of_lt (Int.pow_pos (by decide)))]
theorem betweenS (x : Int) (N : Nat) (lo hi : Int) (hl : lo ≤ 0) (hh : 0 ≤ hi) (h1 : lo ≤ x) (h2 : x ≤ hi) : lo ≤ x / 2 ^ N ∧ x / 2 ^ N ≤ hi := by
  have hp : (0 : Int) < 2 ^ N := Int.pow_pos (by decide)
  rcases Int.le_total 0 x with h | h
  · have a := Int.ediv_nonneg h (Int.le_of_lt hp)
    have b : x / 2 ^ N ≤ x := Int.ediv_le_self _ h
    omega
  · have a : x ≤ x / 2 ^ N := by
      apply Int.le_ediv_of_mul_le hp
      have h2 : (1 : Int) ≤ 2 ^ N := by omega
      have h3 : (-x) * 1 ≤ (-x) * 2 ^ N := Int.mul_le_mul_of_nonneg_left h2 (by omega)
      rw [Int.neg_mul, Int.neg_mul] at h3
      omega
    have b : x / 2 ^ N ≤ 0 := by
      have : x / 2 ^ N ≤ 0 / 2 ^ N := Int.ediv_le_ediv hp h
      simpa using this
    omega
theorem tdiv2 (A : Int) : A.tdiv 2 = if 0 ≤ A ∨ A % 2 = 0 then A / 2 else A / 2 + 1 := by
  rw [Int.tdiv_eq_ediv]
  by_cases h : 0 ≤ A
  · rw [if_pos (.inl h), if_pos (.inl h)]; omega
  · by_cases h2 : A % 2 = 0
    · rw [if_pos (.inr (by omega)), if_pos (.inr h2)]; omega
    · rw [if_neg (by omega), if_neg (by omega)]; rfl
theorem tmod2 (A : Int) : A.tmod 2 = A - 2 * A.tdiv 2 := by
  have := Int.mul_tdiv_add_tmod A 2
  omega
set_option maxRecDepth 100000 in
theorem refShl1 (x : Int) (n : Nat) (hx : ((x) % 256) = x) (hn : n < 8) (w : World) : Calls Tryz.prog 36 #[.int .i64 1, .int .i64 8, .int .i64 x, .int .i64 (n : Int)] w fun e w' => e = .returned (.int .i64 ((x * 2 ^ n) % 256)) ∧ w = w' := by
  have hn0 : (0 : Int) ≤ (n : Int) := by omega
  have hn1 : (n : Int) < 8 := by omega
  have HX := Lib.hid hx
  clear hx hn
  go_enter Tryz.func36, Tryz.ntmps36
  go_wp2_with fail
  refine (refWidth1 _).mono ?_
  rintro e w1 ⟨rfl, rfl⟩
  go_wp2_with fail
  go_loop [2, 9] (fun a i => ∃ j : Nat, j ≤ n ∧ i = .int .i64 j ∧ a = .int .i64 ((x * 2 ^ j) % 256)) (fun _ i => n - (intOf i).toNat)
  case atStart => exact ⟨0, Nat.zero_le _, rfl, by rw [Int.pow_zero, Int.mul_one, HX.out]⟩
  case round =>
    obtain ⟨j, hj, rfl, rfl⟩ := hrel
    by_cases hlt : j < n
    · have HD := Lib.hid (dbl1 (x * 2 ^ j))
      have HS : Hid (x * 2 ^ j * 2 = x * 2 ^ (j + 1)) := Lib.hid (by rw [Int.pow_succ, Int.mul_assoc])
      go_wp2_with fail
      skip
      refine (refWrap1 _ _).mono ?_
      rintro e w2 ⟨rfl, rfl⟩
      go_wp2_with fail
      go_round
      case rel => exact ⟨j + 1, by omega, by go_num, by rw [← HS.out]; first | (rw [← HD.out]; done) | (show Value.int _ _ = Value.int _ _; congr 1; generalize x * 2 ^ j = X; omega)⟩
      case measure => simp [intOf]; omega
    · obtain rfl : j = n := by omega
      go_wp2_with fail
      go_ret
      exact ⟨rfl, rfl⟩
set_option maxRecDepth 100000 in
theorem refShr1 (x : Int) (n : Nat) (x0 : -9223372036854775808 ≤ x) (x1 : x ≤ 9223372036854775807) (hn : n < 8) (w : World) : Calls Tryz.prog 36 #[.int .i64 1, .int .i64 9, .int .i64 x, .int .i64 (n : Int)] w fun e w' => e = .returned (.int .i64 (x / 2 ^ n)) ∧ w = w' := by
  have hn0 : (0 : Int) ≤ (n : Int) := by omega
  have hn1 : (n : Int) < 8 := by omega
  have HX : Hid (∀ j, -9223372036854775808 ≤ x / 2 ^ j ∧ x / 2 ^ j ≤ 9223372036854775807) := Lib.hid (fun j => betweenS x j _ _ (by decide) (by decide) x0 x1)
  clear hn x0 x1
  go_enter Tryz.func36, Tryz.ntmps36
  go_wp2_with fail
  refine (refWidth1 _).mono ?_
  rintro e w1 ⟨rfl, rfl⟩
  go_wp2_with fail
  go_loop [2, 9] (fun a i => ∃ j : Nat, j ≤ n ∧ i = .int .i64 j ∧ a = .int .i64 (x / 2 ^ j)) (fun _ i => n - (intOf i).toNat)
  case atStart => exact ⟨0, Nat.zero_le _, rfl, by rw [Int.pow_zero, Int.ediv_one]⟩
  case round =>
    obtain ⟨j, hj, rfl, rfl⟩ := hrel
    by_cases hlt : j < n
    · have hr := HX.out j
      have hs := halfS x j
      have hd := tdiv2 (x / 2 ^ j)
      have hm := tmod2 (x / 2 ^ j)
      obtain ⟨A, hA⟩ : ∃ A, x / 2 ^ j = A := ⟨_, rfl⟩
      rw [hA] at hr hs hd hm ⊢
      rcases Bool.eq_false_or_eq_true (decide (A < 0)) with h1 | h1
      · have h1' : A < 0 := by simpa using h1
        rcases Bool.eq_false_or_eq_true (A.tmod 2 != 0) with h2 | h2
        · have h2' : A.tmod 2 ≠ 0 := by simpa using h2
          have HV : Hid (wrap64 (wrap64 (A.tdiv 2) - 1) = x / 2 ^ (j + 1)) := Lib.hid (by
            rw [hs]; split at hd <;> (unfold wrap64; omega))
          clear h2' hr hs hd hm hA h1'
          go_wp2_with fail
          skip
          go_round
          case rel => exact ⟨j + 1, by omega, by go_num, by rw [← HV.out]⟩
          case measure => simp [intOf]; omega
        · have h2' : A.tmod 2 = 0 := by simpa using h2
          have HV : Hid (wrap64 (A.tdiv 2) = x / 2 ^ (j + 1)) := Lib.hid (by
            rw [hs]; split at hd <;> (unfold wrap64; omega))
          clear h2' hr hs hd hm hA h1'
          go_wp2_with fail
          go_round
          case rel => exact ⟨j + 1, by omega, by go_num, by rw [← HV.out]⟩
          case measure => simp [intOf]; omega
      · have h1' : 0 ≤ A := by simpa using h1
        have HV : Hid (wrap64 (A.tdiv 2) = x / 2 ^ (j + 1)) := Lib.hid (by
          rw [hs]; split at hd <;> (unfold wrap64; omega))
        clear hr hs hd hm hA h1'
        go_wp2_with fail
        go_round
        case rel => exact ⟨j + 1, by omega, by go_num, by rw [← HV.out]⟩
        case measure => simp [intOf]; omega
    · obtain rfl : j = n := by omega
      go_wp2_with fail
      go_ret
      exact ⟨rfl, rfl⟩
set_option maxRecDepth 100000 in
theorem refShift1_8_out (x b : Int) (hb : b < 0 ∨ 8 ≤ b) (w : World) : Calls Tryz.prog 36 #[.int .i64 1, .int .i64 8, .int .i64 x, .int .i64 b] w fun e w' => e = .returned (.int .i64 (0)) ∧ w = w' := by
  all_goals
    have HR := Lib.hid (rfl : (0 : Int) = 0)
    rcases hb with hb | hb
    · go_enter Tryz.func36, Tryz.ntmps36
      go_wp2_with fail
      go_ret
      exact ⟨rfl, rfl⟩
    · have hb0 : 0 ≤ b := by omega
      go_enter Tryz.func36, Tryz.ntmps36
      go_wp2_with fail
      refine (refWidth1 _).mono ?_
      rintro e w1 ⟨rfl, rfl⟩
      go_wp2_with fail
      go_ret
      exact ⟨rfl, rfl⟩
set_option maxRecDepth 100000 in
theorem refShift1_9_out (x b : Int) (hb : b < 0 ∨ 8 ≤ b) (w : World) : Calls Tryz.prog 36 #[.int .i64 1, .int .i64 9, .int .i64 x, .int .i64 b] w fun e w' => e = .returned (.int .i64 (bif decide (x < 0) then -1 else 0)) ∧ w = w' := by
  rcases Bool.eq_false_or_eq_true (decide (x < 0)) with h1 | h1
  all_goals
    rw [h1]
    have HR := Lib.hid (rfl : (0 : Int) = 0)
    rcases hb with hb | hb
    · go_enter Tryz.func36, Tryz.ntmps36
      go_wp2_with fail
      go_ret
      exact ⟨rfl, rfl⟩
    · have hb0 : 0 ≤ b := by omega
      go_enter Tryz.func36, Tryz.ntmps36
      go_wp2_with fail
      refine (refWidth1 _).mono ?_
      rintro e w1 ⟨rfl, rfl⟩
      go_wp2_with fail
      go_ret
      exact ⟨rfl, rfl⟩
set_option maxRecDepth 100000 in
theorem refShl2 (x : Int) (n : Nat) (hx : (wrap32 (x)) = x) (hn : n < 32) (w : World) : Calls Tryz.prog 36 #[.int .i64 2, .int .i64 8, .int .i64 x, .int .i64 (n : Int)] w fun e w' => e = .returned (.int .i64 (wrap32 (x * 2 ^ n))) ∧ w = w' := by
  have hn0 : (0 : Int) ≤ (n : Int) := by omega
  have hn1 : (n : Int) < 32 := by omega
  have HX := Lib.hid hx
  clear hx hn
  go_enter Tryz.func36, Tryz.ntmps36
  go_wp2_with fail
  refine (refWidth2 _).mono ?_
  rintro e w1 ⟨rfl, rfl⟩
  go_wp2_with fail
  go_loop [2, 9] (fun a i => ∃ j : Nat, j ≤ n ∧ i = .int .i64 j ∧ a = .int .i64 (wrap32 (x * 2 ^ j))) (fun _ i => n - (intOf i).toNat)
  case atStart => exact ⟨0, Nat.zero_le _, rfl, by rw [Int.pow_zero, Int.mul_one, HX.out]⟩
  case round =>
    obtain ⟨j, hj, rfl, rfl⟩ := hrel
    by_cases hlt : j < n
    · have HD := Lib.hid (dbl2 (x * 2 ^ j))
      have HS : Hid (x * 2 ^ j * 2 = x * 2 ^ (j + 1)) := Lib.hid (by rw [Int.pow_succ, Int.mul_assoc])
      go_wp2_with fail
      skip
      refine (refWrap2 _ _).mono ?_
      rintro e w2 ⟨rfl, rfl⟩
      go_wp2_with fail
      go_round
      case rel => exact ⟨j + 1, by omega, by go_num, by rw [← HS.out]; first | (rw [← HD.out]; done) | (show Value.int _ _ = Value.int _ _; congr 1; generalize x * 2 ^ j = X; omega)⟩
      case measure => simp [intOf]; omega
    · obtain rfl : j = n := by omega
      go_wp2_with fail
      go_ret
      exact ⟨rfl, rfl⟩
set_option maxRecDepth 100000 in
theorem refShr2 (x : Int) (n : Nat) (x0 : -9223372036854775808 ≤ x) (x1 : x ≤ 9223372036854775807) (hn : n < 32) (w : World) : Calls Tryz.prog 36 #[.int .i64 2, .int .i64 9, .int .i64 x, .int .i64 (n : Int)] w fun e w' => e = .returned (.int .i64 (x / 2 ^ n)) ∧ w = w' := by
  have hn0 : (0 : Int) ≤ (n : Int) := by omega
  have hn1 : (n : Int) < 32 := by omega
  have HX : Hid (∀ j, -9223372036854775808 ≤ x / 2 ^ j ∧ x / 2 ^ j ≤ 9223372036854775807) := Lib.hid (fun j => betweenS x j _ _ (by decide) (by decide) x0 x1)
  clear hn x0 x1
  go_enter Tryz.func36, Tryz.ntmps36
  go_wp2_with fail
  refine (refWidth2 _).mono ?_
  rintro e w1 ⟨rfl, rfl⟩
  go_wp2_with fail
  go_loop [2, 9] (fun a i => ∃ j : Nat, j ≤ n ∧ i = .int .i64 j ∧ a = .int .i64 (x / 2 ^ j)) (fun _ i => n - (intOf i).toNat)
  case atStart => exact ⟨0, Nat.zero_le _, rfl, by rw [Int.pow_zero, Int.ediv_one]⟩
  case round =>
    obtain ⟨j, hj, rfl, rfl⟩ := hrel
    by_cases hlt : j < n
    · have hr := HX.out j
      have hs := halfS x j
      have hd := tdiv2 (x / 2 ^ j)
      have hm := tmod2 (x / 2 ^ j)
      obtain ⟨A, hA⟩ : ∃ A, x / 2 ^ j = A := ⟨_, rfl⟩
      rw [hA] at hr hs hd hm ⊢
      rcases Bool.eq_false_or_eq_true (decide (A < 0)) with h1 | h1
      · have h1' : A < 0 := by simpa using h1
        rcases Bool.eq_false_or_eq_true (A.tmod 2 != 0) with h2 | h2
        · have h2' : A.tmod 2 ≠ 0 := by simpa using h2
          have HV : Hid (wrap64 (wrap64 (A.tdiv 2) - 1) = x / 2 ^ (j + 1)) := Lib.hid (by
            rw [hs]; split at hd <;> (unfold wrap64; omega))
          clear h2' hr hs hd hm hA h1'
          go_wp2_with fail
          skip
          go_round
          case rel => exact ⟨j + 1, by omega, by go_num, by rw [← HV.out]⟩
          case measure => simp [intOf]; omega
        · have h2' : A.tmod 2 = 0 := by simpa using h2
          have HV : Hid (wrap64 (A.tdiv 2) = x / 2 ^ (j + 1)) := Lib.hid (by
            rw [hs]; split at hd <;> (unfold wrap64; omega))
          clear h2' hr hs hd hm hA h1'
          go_wp2_with fail
          go_round
          case rel => exact ⟨j + 1, by omega, by go_num, by rw [← HV.out]⟩
          case measure => simp [intOf]; omega
      · have h1' : 0 ≤ A := by simpa using h1
        have HV : Hid (wrap64 (A.tdiv 2) = x / 2 ^ (j + 1)) := Lib.hid (by
          rw [hs]; split at hd <;> (unfold wrap64; omega))
        clear hr hs hd hm hA h1'
        go_wp2_with fail
        go_round
        case rel => exact ⟨j + 1, by omega, by go_num, by rw [← HV.out]⟩
        case measure => simp [intOf]; omega
    · obtain rfl : j = n := by omega
      go_wp2_with fail
      go_ret
      exact ⟨rfl, rfl⟩
set_option maxRecDepth 100000 in
theorem refShift2_8_out (x b : Int) (hb : b < 0 ∨ 32 ≤ b) (w : World) : Calls Tryz.prog 36 #[.int .i64 2, .int .i64 8, .int .i64 x, .int .i64 b] w fun e w' => e = .returned (.int .i64 (0)) ∧ w = w' := by
  all_goals
    have HR := Lib.hid (rfl : (0 : Int) = 0)
    rcases hb with hb | hb
    · go_enter Tryz.func36, Tryz.ntmps36
      go_wp2_with fail
      go_ret
      exact ⟨rfl, rfl⟩
    · have hb0 : 0 ≤ b := by omega
      go_enter Tryz.func36, Tryz.ntmps36
      go_wp2_with fail
      refine (refWidth2 _).mono ?_
      rintro e w1 ⟨rfl, rfl⟩
      go_wp2_with fail
      go_ret
      exact ⟨rfl, rfl⟩
set_option maxRecDepth 100000 in
theorem refShift2_9_out (x b : Int) (hb : b < 0 ∨ 32 ≤ b) (w : World) : Calls Tryz.prog 36 #[.int .i64 2, .int .i64 9, .int .i64 x, .int .i64 b] w fun e w' => e = .returned (.int .i64 (bif decide (x < 0) then -1 else 0)) ∧ w = w' := by
  rcases Bool.eq_false_or_eq_true (decide (x < 0)) with h1 | h1
  all_goals
    rw [h1]
    have HR := Lib.hid (rfl : (0 : Int) = 0)
    rcases hb with hb | hb
    · go_enter Tryz.func36, Tryz.ntmps36
      go_wp2_with fail
      go_ret
      exact ⟨rfl, rfl⟩
    · have hb0 : 0 ≤ b := by omega
      go_enter Tryz.func36, Tryz.ntmps36
      go_wp2_with fail
      refine (refWidth2 _).mono ?_
      rintro e w1 ⟨rfl, rfl⟩
      go_wp2_with fail
      go_ret
      exact ⟨rfl, rfl⟩
set_option maxRecDepth 100000 in
theorem refShl3 (x : Int) (n : Nat) (hx : (wrap64 (x)) = x) (hn : n < 64) (w : World) : Calls Tryz.prog 36 #[.int .i64 3, .int .i64 8, .int .i64 x, .int .i64 (n : Int)] w fun e w' => e = .returned (.int .i64 (wrap64 (x * 2 ^ n))) ∧ w = w' := by
  have hn0 : (0 : Int) ≤ (n : Int) := by omega
  have hn1 : (n : Int) < 64 := by omega
  have HX := Lib.hid hx
  clear hx hn
  go_enter Tryz.func36, Tryz.ntmps36
  go_wp2_with fail
  refine (refWidth3 _).mono ?_
  rintro e w1 ⟨rfl, rfl⟩
  go_wp2_with fail
  go_loop [2, 9] (fun a i => ∃ j : Nat, j ≤ n ∧ i = .int .i64 j ∧ a = .int .i64 (wrap64 (x * 2 ^ j))) (fun _ i => n - (intOf i).toNat)
  case atStart => exact ⟨0, Nat.zero_le _, rfl, by rw [Int.pow_zero, Int.mul_one, HX.out]⟩
  case round =>
    obtain ⟨j, hj, rfl, rfl⟩ := hrel
    by_cases hlt : j < n
    · have HD := Lib.hid (dbl3 (x * 2 ^ j))
      have HS : Hid (x * 2 ^ j * 2 = x * 2 ^ (j + 1)) := Lib.hid (by rw [Int.pow_succ, Int.mul_assoc])
      go_wp2_with fail
      skip
      refine (refWrap3 _ _).mono ?_
      rintro e w2 ⟨rfl, rfl⟩
      go_wp2_with fail
      go_round
      case rel => exact ⟨j + 1, by omega, by go_num, by rw [← HS.out]; first | (rw [← HD.out]; done) | (show Value.int _ _ = Value.int _ _; congr 1; generalize x * 2 ^ j = X; omega)⟩
      case measure => simp [intOf]; omega
    · obtain rfl : j = n := by omega
      go_wp2_with fail
      go_ret
      exact ⟨rfl, rfl⟩
set_option maxRecDepth 100000 in
theorem refShr3 (x : Int) (n : Nat) (x0 : -9223372036854775808 ≤ x) (x1 : x ≤ 9223372036854775807) (hn : n < 64) (w : World) : Calls Tryz.prog 36 #[.int .i64 3, .int .i64 9, .int .i64 x, .int .i64 (n : Int)] w fun e w' => e = .returned (.int .i64 (x / 2 ^ n)) ∧ w = w' := by
  have hn0 : (0 : Int) ≤ (n : Int) := by omega
  have hn1 : (n : Int) < 64 := by omega
  have HX : Hid (∀ j, -9223372036854775808 ≤ x / 2 ^ j ∧ x / 2 ^ j ≤ 9223372036854775807) := Lib.hid (fun j => betweenS x j _ _ (by decide) (by decide) x0 x1)
  clear hn x0 x1
  go_enter Tryz.func36, Tryz.ntmps36
  go_wp2_with fail
  refine (refWidth3 _).mono ?_
  rintro e w1 ⟨rfl, rfl⟩
  go_wp2_with fail
  go_loop [2, 9] (fun a i => ∃ j : Nat, j ≤ n ∧ i = .int .i64 j ∧ a = .int .i64 (x / 2 ^ j)) (fun _ i => n - (intOf i).toNat)
  case atStart => exact ⟨0, Nat.zero_le _, rfl, by rw [Int.pow_zero, Int.ediv_one]⟩
  case round =>
    obtain ⟨j, hj, rfl, rfl⟩ := hrel
    by_cases hlt : j < n
    · have hr := HX.out j
      have hs := halfS x j
      have hd := tdiv2 (x / 2 ^ j)
      have hm := tmod2 (x / 2 ^ j)
      obtain ⟨A, hA⟩ : ∃ A, x / 2 ^ j = A := ⟨_, rfl⟩
      rw [hA] at hr hs hd hm ⊢
      rcases Bool.eq_false_or_eq_true (decide (A < 0)) with h1 | h1
      · have h1' : A < 0 := by simpa using h1
        rcases Bool.eq_false_or_eq_true (A.tmod 2 != 0) with h2 | h2
        · have h2' : A.tmod 2 ≠ 0 := by simpa using h2
          have HV : Hid (wrap64 (wrap64 (A.tdiv 2) - 1) = x / 2 ^ (j + 1)) := Lib.hid (by
            rw [hs]; split at hd <;> (unfold wrap64; omega))
          clear h2' hr hs hd hm hA h1'
          go_wp2_with fail
          skip
          go_round
          case rel => exact ⟨j + 1, by omega, by go_num, by rw [← HV.out]⟩
          case measure => simp [intOf]; omega
        · have h2' : A.tmod 2 = 0 := by simpa using h2
          have HV : Hid (wrap64 (A.tdiv 2) = x / 2 ^ (j + 1)) := Lib.hid (by
            rw [hs]; split at hd <;> (unfold wrap64; omega))
          clear h2' hr hs hd hm hA h1'
          go_wp2_with fail
          go_round
          case rel => exact ⟨j + 1, by omega, by go_num, by rw [← HV.out]⟩
          case measure => simp [intOf]; omega
      · have h1' : 0 ≤ A := by simpa using h1
        have HV : Hid (wrap64 (A.tdiv 2) = x / 2 ^ (j + 1)) := Lib.hid (by
          rw [hs]; split at hd <;> (unfold wrap64; omega))
        clear hr hs hd hm hA h1'
        go_wp2_with fail
        go_round
        case rel => exact ⟨j + 1, by omega, by go_num, by rw [← HV.out]⟩
        case measure => simp [intOf]; omega
    · obtain rfl : j = n := by omega
      go_wp2_with fail
      go_ret
      exact ⟨rfl, rfl⟩
set_option maxRecDepth 100000 in
theorem refShift3_8_out (x b : Int) (hb : b < 0 ∨ 64 ≤ b) (w : World) : Calls Tryz.prog 36 #[.int .i64 3, .int .i64 8, .int .i64 x, .int .i64 b] w fun e w' => e = .returned (.int .i64 (0)) ∧ w = w' := by
  all_goals
    have HR := Lib.hid (rfl : (0 : Int) = 0)
    rcases hb with hb | hb
    · go_enter Tryz.func36, Tryz.ntmps36
      go_wp2_with fail
      go_ret
      exact ⟨rfl, rfl⟩
    · have hb0 : 0 ≤ b := by omega
      go_enter Tryz.func36, Tryz.ntmps36
      go_wp2_with fail
      refine (refWidth3 _).mono ?_
      rintro e w1 ⟨rfl, rfl⟩
      go_wp2_with fail
      go_ret
      exact ⟨rfl, rfl⟩
set_option maxRecDepth 100000 in
theorem refShift3_9_out (x b : Int) (hb : b < 0 ∨ 64 ≤ b) (w : World) : Calls Tryz.prog 36 #[.int .i64 3, .int .i64 9, .int .i64 x, .int .i64 b] w fun e w' => e = .returned (.int .i64 (bif decide (x < 0) then -1 else 0)) ∧ w = w' := by
  rcases Bool.eq_false_or_eq_true (decide (x < 0)) with h1 | h1
  all_goals
    rw [h1]
    have HR := Lib.hid (rfl : (0 : Int) = 0)
    rcases hb with hb | hb
    · go_enter Tryz.func36, Tryz.ntmps36
      go_wp2_with fail
      go_ret
      exact ⟨rfl, rfl⟩
    · have hb0 : 0 ≤ b := by omega
      go_enter Tryz.func36, Tryz.ntmps36
      go_wp2_with fail
      refine (refWidth3 _).mono ?_
      rintro e w1 ⟨rfl, rfl⟩
      go_wp2_with fail
      go_ret
      exact ⟨rfl, rfl⟩
end Go.Proofs.YthbmdlihfocbmaaGreatDoor
