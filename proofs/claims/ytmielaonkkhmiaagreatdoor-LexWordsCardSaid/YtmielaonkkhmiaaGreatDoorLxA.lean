/-
  lex: the tests of characters.
-/
import Derived.Test.YtmielaonkkhmiaaGreatDoorLexM
set_option linter.unusedVariables false
namespace Go.Proofs.YtmielaonkkhmiaaGreatDoor
open Go.RowKit

def isDi (c : Int) : Bool := decide (48 ≤ c ∧ c ≤ 57)
def isLe (c : Int) : Bool := decide ((97 ≤ c ∧ c ≤ 122) ∨ (65 ≤ c ∧ c ≤ 90))
def isNa (c : Int) : Bool := decide ((97 ≤ c ∧ c ≤ 122) ∨ (65 ≤ c ∧ c ≤ 90) ∨ (48 ≤ c ∧ c ≤ 57) ∨ c = 95)
def isBl (c : Int) : Bool := decide (c = 32 ∨ c = 9 ∨ c = 10 ∨ c = 13)
def isIl (c : Int) : Bool := decide (c ≠ 10)
theorem ret_bool {a b : Bool} (h : a = b) : Ending.returned (.bool a) = .returned (.bool b) := by rw [h]
set_option maxRecDepth 100000 in
theorem isDigit_any (c : Int) (w : World) : Calls Tryz.prog 25 #[.int .i32 c] w fun e w' => e = .returned (.bool (isDi c)) ∧ w = w' := by
  by_cases g0 : 48 ≤ c
  · have d0 : (decide (48 ≤ c)) = true := by simpa using g0
    go_enter Tryz.func25, Tryz.ntmps25
    go_wp2
    go_ret
    exact ⟨ret_bool (by unfold isDi; rw [Bool.eq_iff_iff]; simp; try omega), rfl⟩
  · have d0 : (decide (48 ≤ c)) = false := by simpa using g0
    go_enter Tryz.func25, Tryz.ntmps25
    go_wp2
    go_ret
    exact ⟨ret_bool (by unfold isDi; rw [Bool.eq_iff_iff]; simp; try omega), rfl⟩
set_option maxRecDepth 100000 in
theorem isLetter_any (c : Int) (w : World) : Calls Tryz.prog 42 #[.int .i32 c] w fun e w' => e = .returned (.bool (isLe c)) ∧ w = w' := by
  by_cases g0 : 97 ≤ c
  · have d0 : (decide (97 ≤ c)) = true := by simpa using g0
    by_cases g1 : c ≤ 122
    · have d1 : (decide (c ≤ 122)) = true := by simpa using g1
      by_cases g2 : 65 ≤ c
      · have d2 : (decide (65 ≤ c)) = true := by simpa using g2
        go_enter Tryz.func42, Tryz.ntmps42
        go_wp2
        go_ret
        exact ⟨ret_bool (by unfold isLe; rw [Bool.eq_iff_iff]; simp; try omega), rfl⟩
      · have d2 : (decide (65 ≤ c)) = false := by simpa using g2
        go_enter Tryz.func42, Tryz.ntmps42
        go_wp2
        go_ret
        exact ⟨ret_bool (by unfold isLe; rw [Bool.eq_iff_iff]; simp; try omega), rfl⟩
    · have d1 : (decide (c ≤ 122)) = false := by simpa using g1
      by_cases g2 : 65 ≤ c
      · have d2 : (decide (65 ≤ c)) = true := by simpa using g2
        go_enter Tryz.func42, Tryz.ntmps42
        go_wp2
        go_ret
        exact ⟨ret_bool (by unfold isLe; rw [Bool.eq_iff_iff]; simp; try omega), rfl⟩
      · have d2 : (decide (65 ≤ c)) = false := by simpa using g2
        go_enter Tryz.func42, Tryz.ntmps42
        go_wp2
        go_ret
        exact ⟨ret_bool (by unfold isLe; rw [Bool.eq_iff_iff]; simp; try omega), rfl⟩
  · have d0 : (decide (97 ≤ c)) = false := by simpa using g0
    by_cases g1 : c ≤ 122
    · have d1 : (decide (c ≤ 122)) = true := by simpa using g1
      by_cases g2 : 65 ≤ c
      · have d2 : (decide (65 ≤ c)) = true := by simpa using g2
        go_enter Tryz.func42, Tryz.ntmps42
        go_wp2
        go_ret
        exact ⟨ret_bool (by unfold isLe; rw [Bool.eq_iff_iff]; simp; try omega), rfl⟩
      · have d2 : (decide (65 ≤ c)) = false := by simpa using g2
        go_enter Tryz.func42, Tryz.ntmps42
        go_wp2
        go_ret
        exact ⟨ret_bool (by unfold isLe; rw [Bool.eq_iff_iff]; simp; try omega), rfl⟩
    · have d1 : (decide (c ≤ 122)) = false := by simpa using g1
      by_cases g2 : 65 ≤ c
      · have d2 : (decide (65 ≤ c)) = true := by simpa using g2
        go_enter Tryz.func42, Tryz.ntmps42
        go_wp2
        go_ret
        exact ⟨ret_bool (by unfold isLe; rw [Bool.eq_iff_iff]; simp; try omega), rfl⟩
      · have d2 : (decide (65 ≤ c)) = false := by simpa using g2
        go_enter Tryz.func42, Tryz.ntmps42
        go_wp2
        go_ret
        exact ⟨ret_bool (by unfold isLe; rw [Bool.eq_iff_iff]; simp; try omega), rfl⟩
set_option maxRecDepth 100000 in
theorem isBlank_any (c : Int) (w : World) : Calls Tryz.prog 75 #[.int .i32 c] w fun e w' => e = .returned (.bool (isBl c)) ∧ w = w' := by
  by_cases g0 : c = 32
  · have d0 : (c == 32) = true := by simpa using g0
    by_cases g1 : c = 9
    · have d1 : (c == 9) = true := by simpa using g1
      by_cases g2 : c = 10
      · have d2 : (c == 10) = true := by simpa using g2
        go_enter Tryz.func75, Tryz.ntmps75
        go_wp2
        go_ret
        exact ⟨ret_bool (by unfold isBl; rw [Bool.eq_iff_iff]; simp; try omega), rfl⟩
      · have d2 : (c == 10) = false := by simpa using g2
        go_enter Tryz.func75, Tryz.ntmps75
        go_wp2
        go_ret
        exact ⟨ret_bool (by unfold isBl; rw [Bool.eq_iff_iff]; simp; try omega), rfl⟩
    · have d1 : (c == 9) = false := by simpa using g1
      by_cases g2 : c = 10
      · have d2 : (c == 10) = true := by simpa using g2
        go_enter Tryz.func75, Tryz.ntmps75
        go_wp2
        go_ret
        exact ⟨ret_bool (by unfold isBl; rw [Bool.eq_iff_iff]; simp; try omega), rfl⟩
      · have d2 : (c == 10) = false := by simpa using g2
        go_enter Tryz.func75, Tryz.ntmps75
        go_wp2
        go_ret
        exact ⟨ret_bool (by unfold isBl; rw [Bool.eq_iff_iff]; simp; try omega), rfl⟩
  · have d0 : (c == 32) = false := by simpa using g0
    by_cases g1 : c = 9
    · have d1 : (c == 9) = true := by simpa using g1
      by_cases g2 : c = 10
      · have d2 : (c == 10) = true := by simpa using g2
        go_enter Tryz.func75, Tryz.ntmps75
        go_wp2
        go_ret
        exact ⟨ret_bool (by unfold isBl; rw [Bool.eq_iff_iff]; simp; try omega), rfl⟩
      · have d2 : (c == 10) = false := by simpa using g2
        go_enter Tryz.func75, Tryz.ntmps75
        go_wp2
        go_ret
        exact ⟨ret_bool (by unfold isBl; rw [Bool.eq_iff_iff]; simp; try omega), rfl⟩
    · have d1 : (c == 9) = false := by simpa using g1
      by_cases g2 : c = 10
      · have d2 : (c == 10) = true := by simpa using g2
        go_enter Tryz.func75, Tryz.ntmps75
        go_wp2
        go_ret
        exact ⟨ret_bool (by unfold isBl; rw [Bool.eq_iff_iff]; simp; try omega), rfl⟩
      · have d2 : (c == 10) = false := by simpa using g2
        go_enter Tryz.func75, Tryz.ntmps75
        go_wp2
        go_ret
        exact ⟨ret_bool (by unfold isBl; rw [Bool.eq_iff_iff]; simp; try omega), rfl⟩
set_option maxRecDepth 100000 in
theorem isInLine_any (c : Int) (w : World) : Calls Tryz.prog 76 #[.int .i32 c] w fun e w' => e = .returned (.bool (isIl c)) ∧ w = w' := by
  go_enter Tryz.func76, Tryz.ntmps76
  go_wp2
  go_ret
  exact ⟨ret_bool (by unfold isIl; rw [Bool.eq_iff_iff]; simp; try omega), rfl⟩
set_option maxRecDepth 100000 in
theorem isNamePart_any (c : Int) (w : World) : Calls Tryz.prog 26 #[.int .i32 c] w fun e w' => e = .returned (.bool (isNa c)) ∧ w = w' := by
  have HL := Lib.hid (fun w => isLetter_any c w)
  have HD := Lib.hid (fun w => isDigit_any c w)
  rcases Bool.eq_false_or_eq_true (isLe c) with g0 | g0
  all_goals rcases Bool.eq_false_or_eq_true (isDi c) with g1 | g1
  all_goals
    rw [g0] at HL
    rw [g1] at HD
    have HF : Hid (isNa c = (isLe c || isDi c || decide (c = 95))) := Lib.hid (by unfold isNa isLe isDi; rw [Bool.eq_iff_iff]; simp; omega)
    rw [g0, g1] at HF
    clear g0 g1
    go_enter Tryz.func26, Tryz.ntmps26
    go_wp2_with fail
    refine (HL.out _).mono ?_
    rintro e w1 ⟨rfl, rfl⟩
    go_wp2_with fail
    try (refine (HD.out _).mono ?_; rintro e w2 ⟨rfl, rfl⟩; go_wp2_with fail)
    go_ret
    exact ⟨ret_bool (by rw [HF.out]; first | rfl | simp), rfl⟩
end Go.Proofs.YtmielaonkkhmiaaGreatDoor
