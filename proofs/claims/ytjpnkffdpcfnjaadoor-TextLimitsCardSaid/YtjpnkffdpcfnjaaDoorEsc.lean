/-
  Escapes: hexadecimal digits and simple escapes as plain functions; text.digitValue, acheronref01.Digit, acheronref01.escape.
-/
import Derived.Test.YtjpnkffdpcfnjaaDoorRef2
import Derived.Test.YtjpnkffdpcfnjaaDoorIsc
import Derived.Test.YtjpnkffdpcfnjaaDoorShelf
set_option linter.unusedVariables false
namespace Go.Proofs.YtjpnkffdpcfnjaaDoor
open Go.RowKit

def hexL : List UInt8 := [48, 49, 50, 51, 52, 53, 54, 55, 56, 57, 97, 98, 99, 100, 101, 102]
def hexv (b : Nat) : Int := if 48 ≤ b ∧ b ≤ 57 then (b : Int) - 48 else if 97 ≤ b ∧ b ≤ 102 then (b : Int) - 87 else if 65 ≤ b ∧ b ≤ 70 then (b : Int) - 55 else -1
def escv (b : Nat) : Int := if b = 110 then 10 else if b = 116 then 9 else if b = 114 then 13 else if b = 98 then 8 else if b = 97 then 7 else if b = 118 then 11 else if b = 102 then 12 else if b = 48 then 0 else if b = 34 then 34 else if b = 39 then 39 else if b = 92 then 92 else -1

theorem hexv_range (b : Nat) : -1 ≤ hexv b ∧ hexv b < 16 := by
  unfold hexv
  repeat' split
  all_goals omega
theorem escv_range (b : Nat) : -1 ≤ escv b ∧ escv b < 93 := by
  unfold escv
  repeat' split
  all_goals omega
theorem hexv_up (z : Int) (h0 : 65 ≤ z) (h1 : z ≤ 70) : Lib.indexByte hexL (z + 32).toNat.toUInt8 = hexv z.toNat := by
  obtain ⟨n, rfl⟩ := Int.eq_ofNat_of_zero_le (show 0 ≤ z by omega)
  have key : ∀ k : Fin 256, 65 ≤ k.val → k.val ≤ 70 → Lib.indexByte hexL ((k.val : Int) + 32).toNat.toUInt8 = hexv k.val := by decide +kernel
  exact key ⟨n, by omega⟩ (by show 65 ≤ n; omega) (by show n ≤ 70; omega)
theorem hexv_other (z : Int) (h0 : 0 ≤ z) (h1 : z < 256) (h : z < 65 ∨ 70 < z) : Lib.indexByte hexL z.toNat.toUInt8 = hexv z.toNat := by
  obtain ⟨n, rfl⟩ := Int.eq_ofNat_of_zero_le h0
  have key : ∀ k : Fin 256, (k.val < 65 ∨ 70 < k.val) → Lib.indexByte hexL k.val.toUInt8 = hexv k.val := by decide +kernel
  exact key ⟨n, by omega⟩ (by show n < 65 ∨ 70 < n; omega)

theorem hexIdx (z : Int) (w : World) : Calls Tryd.prog 61 #[.string ⟨#[48, 49, 50, 51, 52, 53, 54, 55, 56, 57, 97, 98, 99, 100, 101, 102]⟩, .int .u8 z] w fun e w' => e = .returned (.int .i64 (Lib.indexByte hexL z.toNat.toUInt8)) ∧ w = w' :=
  (Tryd.strings_IndexByte ⟨#[48, 49, 50, 51, 52, 53, 54, 55, 56, 57, 97, 98, 99, 100, 101, 102]⟩ z w).mono fun e w' h => ⟨h.1, h.2.symm⟩

theorem digitValue_any (z : Int) (h0 : 0 ≤ z) (h1 : z < 256) (w : World) :
    Calls Tryd.prog 72 #[.int .u8 z] w fun e w' => e = .returned (.int .i64 (hexv z.toNat)) ∧ w = w' := by
  by_cases g0 : 65 ≤ z
  · by_cases g1 : z ≤ 70
    · have hw : IntKind.u8.wrap (z + 32) = z + 32 := by rw [IntKind.wrap_u8]; omega
      have hI := fun w => hexIdx (z + 32) w
      rw [hexv_up z g0 g1] at hI
      have HI := Lib.hid hI
      clear hI
      go_enter Tryd.func72, Tryd.ntmps72
      go_wp2_with fail
      refine (HI.out _).mono ?_
      rintro e w1 ⟨rfl, rfl⟩
      go_wp2
      go_ret
      exact ⟨rfl, rfl⟩
    · have hI := fun w => hexIdx z w
      rw [hexv_other z h0 h1 (by omega)] at hI
      have HI := Lib.hid hI
      clear hI
      go_enter Tryd.func72, Tryd.ntmps72
      go_wp2_with fail
      refine (HI.out _).mono ?_
      rintro e w1 ⟨rfl, rfl⟩
      go_wp2
      go_ret
      exact ⟨rfl, rfl⟩
  · have hI := fun w => hexIdx z w
    rw [hexv_other z h0 h1 (by omega)] at hI
    have HI := Lib.hid hI
    clear hI
    go_enter Tryd.func72, Tryd.ntmps72
    go_wp2_with fail
    refine (HI.out _).mono ?_
    rintro e w1 ⟨rfl, rfl⟩
    go_wp2
    go_ret
    exact ⟨rfl, rfl⟩

theorem hexv_eq (z : Int) (h0 : 0 ≤ z) (v : Int) (h : (48 ≤ z ∧ z ≤ 57 ∧ v = z - 48) ∨ (97 ≤ z ∧ z ≤ 102 ∧ v = z - 87) ∨ (65 ≤ z ∧ z ≤ 70 ∧ v = z - 55) ∨ ((z < 48 ∨ (57 < z ∧ z < 65) ∨ (70 < z ∧ z < 97) ∨ 102 < z) ∧ v = -1)) : v = hexv z.toNat := by
  unfold hexv
  repeat' split
  all_goals omega

theorem digit_any (z : Int) (h0 : 0 ≤ z) (h1 : z < 256) (w : World) :
    Calls Tryd.prog 37 #[.int .u8 z] w fun e w' => e = .returned (.int .i64 (hexv z.toNat)) ∧ w = w' := by
  have HE := Lib.hid (hexv_eq z h0)
  rcases (by omega : z < 48 ∨ (48 ≤ z ∧ z ≤ 57) ∨ (57 < z ∧ z < 65) ∨ (65 ≤ z ∧ z ≤ 70) ∨ (70 < z ∧ z < 97) ∨ (97 ≤ z ∧ z ≤ 102) ∨ 102 < z) with g | ⟨g, k⟩ | ⟨g, k⟩ | ⟨g, k⟩ | ⟨g, k⟩ | ⟨g, k⟩ | g
  all_goals
    have hw1 : 48 ≤ z → IntKind.u8.wrap (z - 48) = z - 48 := fun h => by rw [IntKind.wrap_u8]; omega
    have hw2 : 97 ≤ z → IntKind.u8.wrap (z - 97) = z - 97 := fun h => by rw [IntKind.wrap_u8]; omega
    have hw3 : 65 ≤ z → IntKind.u8.wrap (z - 65) = z - 65 := fun h => by rw [IntKind.wrap_u8]; omega
    try replace hw1 := hw1 (by omega)
    try replace hw2 := hw2 (by omega)
    try replace hw3 := hw3 (by omega)
    have d0 : decide (48 ≤ z) = decide (48 ≤ z) := rfl
    go_enter Tryd.func37, Tryd.ntmps37
    go_wp2
    go_ret
    exact ⟨ret_int (HE.out _ (by omega)), rfl⟩
end Go.Proofs.YtjpnkffdpcfnjaaDoor
