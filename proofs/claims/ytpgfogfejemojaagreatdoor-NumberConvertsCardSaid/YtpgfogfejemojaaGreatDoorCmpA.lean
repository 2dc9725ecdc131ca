/-
  number.holds by operator: of integers and of reals.
-/
import Derived.Test.YtpgfogfejemojaaGreatDoorOps4
set_option linter.unusedVariables false
namespace Go.Proofs.YtpgfogfejemojaaGreatDoor
open Go.RowKit

def ordN (x y : Nat) : Option Ordering := FloatKind.f64.format.order x y
/-- The comparisons of integers. -/
def cmpI (op : Nat) (x y : Int) : Bool :=
  match op with
  | 10 => x == y
  | 11 => x != y
  | 12 => decide (x < y)
  | 13 => decide (x ≤ y)
  | 14 => decide (x > y)
  | _ => decide (x ≥ y)
/-- The comparisons of reals. -/
def cmpR (op : Nat) (x y : Nat) : Bool :=
  match op with
  | 10 => ordN x y == some .eq
  | 11 => ordN x y != some .eq
  | 12 => ordN x y == some .lt
  | 13 => ordN x y == some .lt || ordN x y == some .eq
  | 14 => ordN x y == some .gt
  | _ => ordN x y == some .gt || ordN x y == some .eq

theorem holdsI10 (x y : Int) (w : World) : Calls Tryz.prog 72 #[.int .i64 10, .int .i64 x, .int .i64 y] w fun e w' => e = .returned (.bool (cmpI 10 x y)) ∧ w = w' := by
  have H : Hid (∀ w, Calls Tryz.prog 95 #[.int .i64 10, .int .i64 x, .int .i64 y] w fun e w' => e = .returned (.bool (cmpI 10 x y)) ∧ w = w') := Lib.hid (fun w => by
    go_enter Tryz.func95, Tryz.ntmps95
    go_wp2
    go_ret
    exact ⟨rfl, rfl⟩)
  go_enter Tryz.func72, Tryz.ntmps72
  go_wp2_with fail
  refine (H.out _).mono ?_
  rintro e w1 ⟨rfl, rfl⟩
  go_wp2_with fail
  go_ret
  exact ⟨rfl, rfl⟩
set_option maxRecDepth 100000 in
theorem holdsR10 (x y : Int) (w : World) : Calls Tryz.prog 87 #[.int .i64 10, .int .i64 x, .int .i64 y] w fun e w' => e = .returned (.bool (cmpR 10 (bitsN x) (bitsN y))) ∧ w = w' := by
  have H : Hid (∀ (x y : Nat) w, Calls Tryz.prog 88 #[.int .i64 10, .float .f64 x, .float .f64 y] w fun e w' => e = .returned (.bool (cmpR 10 x y)) ∧ w = w') := Lib.hid (fun x y w => by
    go_enter Tryz.func88, Tryz.ntmps88
    go_wp2
    go_ret
    exact ⟨rfl, rfl⟩)
  go_enter Tryz.func87, Tryz.ntmps87
  go_wp2_with (first
    | (go_at_call 81; refine (realOf_any _ _).mono ?_; rintro e w' ⟨rfl, rfl⟩)
    | (go_at_call 88; refine (H.out _ _ _).mono ?_; rintro e w' ⟨rfl, rfl⟩))
  go_ret
  exact ⟨rfl, rfl⟩
theorem holdsI11 (x y : Int) (w : World) : Calls Tryz.prog 72 #[.int .i64 11, .int .i64 x, .int .i64 y] w fun e w' => e = .returned (.bool (cmpI 11 x y)) ∧ w = w' := by
  have H : Hid (∀ w, Calls Tryz.prog 95 #[.int .i64 11, .int .i64 x, .int .i64 y] w fun e w' => e = .returned (.bool (cmpI 11 x y)) ∧ w = w') := Lib.hid (fun w => by
    go_enter Tryz.func95, Tryz.ntmps95
    go_wp2
    go_ret
    exact ⟨rfl, rfl⟩)
  go_enter Tryz.func72, Tryz.ntmps72
  go_wp2_with fail
  refine (H.out _).mono ?_
  rintro e w1 ⟨rfl, rfl⟩
  go_wp2_with fail
  go_ret
  exact ⟨rfl, rfl⟩
set_option maxRecDepth 100000 in
theorem holdsR11 (x y : Int) (w : World) : Calls Tryz.prog 87 #[.int .i64 11, .int .i64 x, .int .i64 y] w fun e w' => e = .returned (.bool (cmpR 11 (bitsN x) (bitsN y))) ∧ w = w' := by
  have H : Hid (∀ (x y : Nat) w, Calls Tryz.prog 88 #[.int .i64 11, .float .f64 x, .float .f64 y] w fun e w' => e = .returned (.bool (cmpR 11 x y)) ∧ w = w') := Lib.hid (fun x y w => by
    go_enter Tryz.func88, Tryz.ntmps88
    go_wp2
    go_ret
    exact ⟨rfl, rfl⟩)
  go_enter Tryz.func87, Tryz.ntmps87
  go_wp2_with (first
    | (go_at_call 81; refine (realOf_any _ _).mono ?_; rintro e w' ⟨rfl, rfl⟩)
    | (go_at_call 88; refine (H.out _ _ _).mono ?_; rintro e w' ⟨rfl, rfl⟩))
  go_ret
  exact ⟨rfl, rfl⟩
theorem holdsI12 (x y : Int) (w : World) : Calls Tryz.prog 72 #[.int .i64 12, .int .i64 x, .int .i64 y] w fun e w' => e = .returned (.bool (cmpI 12 x y)) ∧ w = w' := by
  have H : Hid (∀ w, Calls Tryz.prog 95 #[.int .i64 12, .int .i64 x, .int .i64 y] w fun e w' => e = .returned (.bool (cmpI 12 x y)) ∧ w = w') := Lib.hid (fun w => by
    go_enter Tryz.func95, Tryz.ntmps95
    go_wp2
    go_ret
    exact ⟨rfl, rfl⟩)
  go_enter Tryz.func72, Tryz.ntmps72
  go_wp2_with fail
  refine (H.out _).mono ?_
  rintro e w1 ⟨rfl, rfl⟩
  go_wp2_with fail
  go_ret
  exact ⟨rfl, rfl⟩
set_option maxRecDepth 100000 in
theorem holdsR12 (x y : Int) (w : World) : Calls Tryz.prog 87 #[.int .i64 12, .int .i64 x, .int .i64 y] w fun e w' => e = .returned (.bool (cmpR 12 (bitsN x) (bitsN y))) ∧ w = w' := by
  have H : Hid (∀ (x y : Nat) w, Calls Tryz.prog 88 #[.int .i64 12, .float .f64 x, .float .f64 y] w fun e w' => e = .returned (.bool (cmpR 12 x y)) ∧ w = w') := Lib.hid (fun x y w => by
    go_enter Tryz.func88, Tryz.ntmps88
    go_wp2
    go_ret
    exact ⟨rfl, rfl⟩)
  go_enter Tryz.func87, Tryz.ntmps87
  go_wp2_with (first
    | (go_at_call 81; refine (realOf_any _ _).mono ?_; rintro e w' ⟨rfl, rfl⟩)
    | (go_at_call 88; refine (H.out _ _ _).mono ?_; rintro e w' ⟨rfl, rfl⟩))
  go_ret
  exact ⟨rfl, rfl⟩
theorem holdsI13 (x y : Int) (w : World) : Calls Tryz.prog 72 #[.int .i64 13, .int .i64 x, .int .i64 y] w fun e w' => e = .returned (.bool (cmpI 13 x y)) ∧ w = w' := by
  have H : Hid (∀ w, Calls Tryz.prog 95 #[.int .i64 13, .int .i64 x, .int .i64 y] w fun e w' => e = .returned (.bool (cmpI 13 x y)) ∧ w = w') := Lib.hid (fun w => by
    go_enter Tryz.func95, Tryz.ntmps95
    go_wp2
    go_ret
    exact ⟨rfl, rfl⟩)
  go_enter Tryz.func72, Tryz.ntmps72
  go_wp2_with fail
  refine (H.out _).mono ?_
  rintro e w1 ⟨rfl, rfl⟩
  go_wp2_with fail
  go_ret
  exact ⟨rfl, rfl⟩
set_option maxRecDepth 100000 in
theorem holdsR13 (x y : Int) (w : World) : Calls Tryz.prog 87 #[.int .i64 13, .int .i64 x, .int .i64 y] w fun e w' => e = .returned (.bool (cmpR 13 (bitsN x) (bitsN y))) ∧ w = w' := by
  have H : Hid (∀ (x y : Nat) w, Calls Tryz.prog 88 #[.int .i64 13, .float .f64 x, .float .f64 y] w fun e w' => e = .returned (.bool (cmpR 13 x y)) ∧ w = w') := Lib.hid (fun x y w => by
    go_enter Tryz.func88, Tryz.ntmps88
    go_wp2
    go_ret
    exact ⟨rfl, rfl⟩)
  go_enter Tryz.func87, Tryz.ntmps87
  go_wp2_with (first
    | (go_at_call 81; refine (realOf_any _ _).mono ?_; rintro e w' ⟨rfl, rfl⟩)
    | (go_at_call 88; refine (H.out _ _ _).mono ?_; rintro e w' ⟨rfl, rfl⟩))
  go_ret
  exact ⟨rfl, rfl⟩
theorem holdsI14 (x y : Int) (w : World) : Calls Tryz.prog 72 #[.int .i64 14, .int .i64 x, .int .i64 y] w fun e w' => e = .returned (.bool (cmpI 14 x y)) ∧ w = w' := by
  have H : Hid (∀ w, Calls Tryz.prog 95 #[.int .i64 14, .int .i64 x, .int .i64 y] w fun e w' => e = .returned (.bool (cmpI 14 x y)) ∧ w = w') := Lib.hid (fun w => by
    go_enter Tryz.func95, Tryz.ntmps95
    go_wp2
    go_ret
    exact ⟨rfl, rfl⟩)
  go_enter Tryz.func72, Tryz.ntmps72
  go_wp2_with fail
  refine (H.out _).mono ?_
  rintro e w1 ⟨rfl, rfl⟩
  go_wp2_with fail
  go_ret
  exact ⟨rfl, rfl⟩
set_option maxRecDepth 100000 in
theorem holdsR14 (x y : Int) (w : World) : Calls Tryz.prog 87 #[.int .i64 14, .int .i64 x, .int .i64 y] w fun e w' => e = .returned (.bool (cmpR 14 (bitsN x) (bitsN y))) ∧ w = w' := by
  have H : Hid (∀ (x y : Nat) w, Calls Tryz.prog 88 #[.int .i64 14, .float .f64 x, .float .f64 y] w fun e w' => e = .returned (.bool (cmpR 14 x y)) ∧ w = w') := Lib.hid (fun x y w => by
    go_enter Tryz.func88, Tryz.ntmps88
    go_wp2
    go_ret
    exact ⟨rfl, rfl⟩)
  go_enter Tryz.func87, Tryz.ntmps87
  go_wp2_with (first
    | (go_at_call 81; refine (realOf_any _ _).mono ?_; rintro e w' ⟨rfl, rfl⟩)
    | (go_at_call 88; refine (H.out _ _ _).mono ?_; rintro e w' ⟨rfl, rfl⟩))
  go_ret
  exact ⟨rfl, rfl⟩
theorem holdsI15 (x y : Int) (w : World) : Calls Tryz.prog 72 #[.int .i64 15, .int .i64 x, .int .i64 y] w fun e w' => e = .returned (.bool (cmpI 15 x y)) ∧ w = w' := by
  have H : Hid (∀ w, Calls Tryz.prog 95 #[.int .i64 15, .int .i64 x, .int .i64 y] w fun e w' => e = .returned (.bool (cmpI 15 x y)) ∧ w = w') := Lib.hid (fun w => by
    go_enter Tryz.func95, Tryz.ntmps95
    go_wp2
    go_ret
    exact ⟨rfl, rfl⟩)
  go_enter Tryz.func72, Tryz.ntmps72
  go_wp2_with fail
  refine (H.out _).mono ?_
  rintro e w1 ⟨rfl, rfl⟩
  go_wp2_with fail
  go_ret
  exact ⟨rfl, rfl⟩
set_option maxRecDepth 100000 in
theorem holdsR15 (x y : Int) (w : World) : Calls Tryz.prog 87 #[.int .i64 15, .int .i64 x, .int .i64 y] w fun e w' => e = .returned (.bool (cmpR 15 (bitsN x) (bitsN y))) ∧ w = w' := by
  have H : Hid (∀ (x y : Nat) w, Calls Tryz.prog 88 #[.int .i64 15, .float .f64 x, .float .f64 y] w fun e w' => e = .returned (.bool (cmpR 15 x y)) ∧ w = w') := Lib.hid (fun x y w => by
    go_enter Tryz.func88, Tryz.ntmps88
    go_wp2
    go_ret
    exact ⟨rfl, rfl⟩)
  go_enter Tryz.func87, Tryz.ntmps87
  go_wp2_with (first
    | (go_at_call 81; refine (realOf_any _ _).mono ?_; rintro e w' ⟨rfl, rfl⟩)
    | (go_at_call 88; refine (H.out _ _ _).mono ?_; rintro e w' ⟨rfl, rfl⟩))
  go_ret
  exact ⟨rfl, rfl⟩
end Go.Proofs.YtpgfogfejemojaaGreatDoor
