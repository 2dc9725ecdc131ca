/-
  lex: goesOn, numberLength, and digitValue at two digits.
-/
import Derived.Test.YtmielaonkkhmiaaGreatDoorWord
set_option linter.unusedVariables false
namespace Go.Proofs.YtmielaonkkhmiaaGreatDoor
open Go.RowKit

set_option maxRecDepth 100000 in
theorem goesOn_yes (R : ByteArray) (p : Nat) (hlt : p < R.size) (h : isNa ((R[p]'hlt).toNat : Int) = true) (w : World) :
    Calls Tryz.prog 110 #[.string R, .int .i64 (p : Int)] w fun e w' => e = .returned (.bool true) ∧ w = w' := by
  have hix := fun w => run_index_at R p hlt w
  have hb : (R[p]'hlt).toNat < 256 := (R[p]'hlt).toNat_lt
  generalize (R[p]'hlt).toNat = c at *
  have HN := Lib.hid (fun w => h ▸ isNamePart_any (c : Int) w)
  clear h
  have hc0 : (0 : Int) ≤ (c : Int) := by omega
  have hc1 : (c : Int) < 256 := by omega
  generalize (c : Int) = z at *
  go_enter Tryz.func110, Tryz.ntmps110
  go_wp2_with fail
  refine (HN.out _).mono ?_
  rintro e w1 ⟨rfl, rfl⟩
  go_wp2_with fail
  go_ret
  exact ⟨rfl, rfl⟩
set_option maxRecDepth 100000 in
theorem goesOn_no (R : ByteArray) (p : Nat) (hlt : p < R.size) (hlt2 : p + 1 < R.size) (hR : R.size < 1000000) (h : (R[p]'hlt).toNat = 59) (h2 : isDi ((R[p + 1]'hlt2).toNat : Int) = false) (w : World) :
    Calls Tryz.prog 110 #[.string R, .int .i64 (p : Int)] w fun e w' => e = .returned (.bool false) ∧ w = w' := by
  have hix := fun w => run_index_at R p hlt w
  have hix2 := fun w => run_index_at R (p + 1) hlt2 w
  rw [h] at hix
  have hb : (R[p + 1]'hlt2).toNat < 256 := (R[p + 1]'hlt2).toNat_lt
  generalize (R[p + 1]'hlt2).toNat = c at *
  have HN := Lib.hid (fun w => isNamePart_any 59 w)
  rw [show isNa 59 = false from by decide] at HN
  have HD := Lib.hid (fun w => h2 ▸ isDigit_any (c : Int) w)
  clear h h2
  have hne : ((p : Int) + 1 == (R.size : Int)) = false := by rw [beq_eq_false_iff_ne]; omega
  have hc0 : (0 : Int) ≤ (c : Int) := by omega
  have hc1 : (c : Int) < 256 := by omega
  rw [show ((p + 1 : Nat) : Int) = (p : Int) + 1 from by omega] at hix2
  generalize (c : Int) = z at *
  go_enter Tryz.func110, Tryz.ntmps110
  go_wp2_with fail
  refine (HN.out _).mono ?_
  rintro e w1 ⟨rfl, rfl⟩
  go_wp2_with fail
  refine (HD.out _).mono ?_
  rintro e w2 ⟨rfl, rfl⟩
  go_wp2_with fail
  go_ret
  exact ⟨rfl, rfl⟩
set_option maxRecDepth 100000 in
theorem numberLength_any (R : ByteArray) (n : Nat) (hR : R.size < 1000000) (hn0 : 1 ≤ n) (hlt : n < R.size) (hlt2 : n + 1 < R.size) (hy : ∀ i (h : i < R.size), 1 ≤ i → i < n → isNa ((R[i]'h).toNat : Int) = true)
    (h : (R[n]'hlt).toNat = 59) (h2 : isDi ((R[n + 1]'hlt2).toNat : Int) = false) (w : World) :
    Calls Tryz.prog 96 #[.string R] w fun e w' => e = .returned (.int .i64 (n : Int)) ∧ w = w' := by
  have HN := Lib.hid (fun w => goesOn_no R n hlt hlt2 hR h h2 w)
  have HY := Lib.hid (fun i (h : i < R.size) h1 h2 w => goesOn_yes R i h (hy i h h1 h2) w)
  clear hy h h2
  go_enter Tryz.func96, Tryz.ntmps96
  go_wp2
  go_loop [3] (fun i => ∃ k : Nat, 1 ≤ k ∧ k ≤ n ∧ i = .int .i64 k) (fun i => n - (intOf i).toNat)
  case atStart => exact ⟨1, Nat.le_refl _, hn0, rfl⟩
  case round =>
    obtain ⟨k, hk1, hk, rfl⟩ := hrel
    have hd : decide ((k : Int) < (R.size : Int)) = true := by simp; omega
    by_cases g : k < n
    · have HK := Lib.hid (HY.out k (by omega) hk1 g)
      go_wp2_with fail
      refine (HK.out _).mono ?_
      rintro e w1 ⟨rfl, rfl⟩
      go_wp2_with fail
      go_round
      case rel => exact ⟨k + 1, by omega, by omega, by go_num⟩
      case measure => simp [intOf]; omega
    · obtain rfl : k = n := by omega
      go_wp2_with fail
      refine (HN.out _).mono ?_
      rintro e w1 ⟨rfl, rfl⟩
      go_wp2_with fail
      go_ret
      exact ⟨rfl, rfl⟩
set_option maxRecDepth 100000 in
theorem digitValue_1 (w : World) : Calls Tryz.prog 142 #[.int .i32 49] w fun e w' => e = .returned (.int .i64 1) ∧ w = w' := by
  have HD := Lib.hid (fun w => isDigit_any 49 w)
  rw [show isDi 49 = true from by decide] at HD
  go_enter Tryz.func142, Tryz.ntmps142
  go_wp2_with fail
  refine (HD.out _).mono ?_
  rintro e w1 ⟨rfl, rfl⟩
  go_wp2_with fail
  go_ret
  exact ⟨rfl, rfl⟩
set_option maxRecDepth 100000 in
theorem digitValue_F (w : World) : Calls Tryz.prog 142 #[.int .i32 70] w fun e w' => e = .returned (.int .i64 15) ∧ w = w' := by
  have HD := Lib.hid (fun w => isDigit_any 70 w)
  rw [show isDi 70 = false from by decide] at HD
  go_enter Tryz.func142, Tryz.ntmps142
  go_wp2_with fail
  refine (HD.out _).mono ?_
  rintro e w1 ⟨rfl, rfl⟩
  go_wp2_with fail
  go_ret
  exact ⟨rfl, rfl⟩
end Go.Proofs.YtmielaonkkhmiaaGreatDoor
