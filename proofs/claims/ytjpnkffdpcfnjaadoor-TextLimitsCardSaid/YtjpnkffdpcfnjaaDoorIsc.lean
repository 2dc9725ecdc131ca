/-
  text.isChar.
-/
import Derived.Test.YtjpnkffdpcfnjaaDoorRef
set_option linter.unusedVariables false
namespace Go.Proofs.YtjpnkffdpcfnjaaDoor
open Go.RowKit

set_option maxRecDepth 100000 in
set_option maxHeartbeats 400000 in
theorem isChar_any (c : Int) (w : World) :
    Calls Tryd.prog 40 #[.int .i64 c] w fun e w' => e = .returned (.bool (okc c)) ∧ w = w' := by
  have hfin : ∀ b : Bool, (b = true ↔ (0 ≤ c ∧ c ≤ 1114111 ∧ (c < 55296 ∨ 57343 < c))) → b = okc c := by
    intro b hb
    unfold okc
    cases b
    · symm; rw [decide_eq_false_iff_not]; intro h; have := hb.2 h; cases this
    · symm; rw [decide_eq_true_eq]; exact hb.1 rfl
  have HF := Lib.hid hfin
  clear hfin
  by_cases h0 : 0 ≤ c
  · by_cases h1 : c ≤ 1114111
    · by_cases h2 : c < 55296
      · have hd : decide (c < 55296) = true := by simpa using h2
        go_enter Tryd.func40, Tryd.ntmps40
        go_wp2
        go_ret
        exact ⟨congrArg (fun b => Ending.returned (.bool b)) (HF.out true (by simp; omega)), rfl⟩
      · have hd : decide (c < 55296) = false := by simpa using h2
        go_enter Tryd.func40, Tryd.ntmps40
        go_wp2
        go_ret
        exact ⟨congrArg (fun b => Ending.returned (.bool b)) (HF.out (decide (57343 < c)) (by simp; omega)), rfl⟩
    · have hd : decide (c ≤ 1114111) = false := by simpa using h1
      go_enter Tryd.func40, Tryd.ntmps40
      go_wp2
      go_ret
      exact ⟨congrArg (fun b => Ending.returned (.bool b)) (HF.out false (by simp; omega)), rfl⟩
  · have hd : decide (0 ≤ c) = false := by simpa using h0
    go_enter Tryd.func40, Tryd.ntmps40
    go_wp2
    go_ret
    exact ⟨congrArg (fun b => Ending.returned (.bool b)) (HF.out false (by simp; omega)), rfl⟩

theorem isChar_yes (c : Int) (h : okc c = true) (w : World) :
    Calls Tryd.prog 40 #[.int .i64 c] w fun e w' => e = .returned (.bool true) ∧ w = w' :=
  (isChar_any c w).mono fun e w' ⟨he, hw⟩ => ⟨by rw [he, h], hw⟩

theorem isChar_no (c : Int) (h : okc c = false) (w : World) :
    Calls Tryd.prog 40 #[.int .i64 c] w fun e w' => e = .returned (.bool false) ∧ w = w' :=
  (isChar_any c w).mono fun e w' ⟨he, hw⟩ => ⟨by rw [he, h], hw⟩
end Go.Proofs.YtjpnkffdpcfnjaaDoor
