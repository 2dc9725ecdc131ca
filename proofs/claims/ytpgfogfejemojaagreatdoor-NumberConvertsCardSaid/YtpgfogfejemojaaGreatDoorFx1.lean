/-
  internal/strconv: bool2, log2Pow10, unmin, round, div, uscale.
-/
import Derived.Test.YtpgfogfejemojaaGreatDoorOps4
import Derived.Test.YtpgfogfejemojaaGreatDoorShelf
set_option linter.unusedVariables false
namespace Go.Proofs.YtpgfogfejemojaaGreatDoor
open Go.RowKit

theorem ret_u64 {k : IntKind} {a b : Int} (h : a = b) : Ending.returned (.int k a) = .returned (.int k b) := by rw [h]
def b2u (b : Bool) : Int := if b = true then 1 else 0
theorem b2u_le (b : Bool) : 0 ≤ b2u b ∧ b2u b ≤ 1 := by cases b <;> decide
theorem bool2_any (b : Bool) (w : World) : Calls Tryz.prog 187 #[.bool b] w fun e w' => e = .returned (.int .u64 (b2u b)) ∧ w = w' := by
  cases b <;> (go_enter Tryz.func187, Tryz.ntmps187; go_wp2; go_ret; exact ⟨rfl, rfl⟩)
theorem bool2i_any (b : Bool) (w : World) : Calls Tryz.prog 169 #[.bool b] w fun e w' => e = .returned (.int .i64 (b2u b)) ∧ w = w' := by
  cases b <;> (go_enter Tryz.func169, Tryz.ntmps169; go_wp2; go_ret; exact ⟨rfl, rfl⟩)
theorem bool2r_any (b : Bool) (w : World) : Calls Tryz.prog 211 #[.bool b] w fun e w' => e = .returned (.int .u64 (b2u b)) ∧ w = w' := by
  cases b <;> (go_enter Tryz.func211, Tryz.ntmps211; go_wp2; go_ret; exact ⟨rfl, rfl⟩)
theorem log2_any (x : Int) (h0 : -10000 ≤ x) (h1 : x ≤ 10000) (w : World) : Calls Tryz.prog 163 #[.int .i64 x] w fun e w' => e = .returned (.int .i64 (x * 108853 / 32768)) ∧ w = w' := by
  go_enter Tryz.func163, Tryz.ntmps163
  go_wp2
  go_ret
  exact ⟨rfl, rfl⟩
theorem log10_any (x : Int) (h0 : -10000 ≤ x) (h1 : x ≤ 10000) (w : World) : Calls Tryz.prog 133 #[.int .i64 x] w fun e w' => e = .returned (.int .i64 (x * 78913 / 262144)) ∧ w = w' := by
  go_enter Tryz.func133, Tryz.ntmps133
  go_wp2
  go_ret
  exact ⟨rfl, rfl⟩
def unminV (x : Int) : Int := IntKind.u64.wrap (IntKind.u64.wrap (x * 4) - 2)
def roundV (x : Int) : Int := IntKind.u64.wrap (IntKind.u64.wrap (x + 1) + bits .and .u64 (x / 4) 1) / 4
def divV (x : Int) : Int := bits .or .u64 (bits .or .u64 (x / 10) (bits .and .u64 x 1)) (b2u (x % 10 != 0))
set_option maxRecDepth 100000 in
theorem unmin_any (x : Int) (h0 : 0 ≤ x) (h1 : x < 18446744073709551616) (w : World) : Calls Tryz.prog 170 #[.int .u64 x] w fun e w' => e = .returned (.int .u64 (unminV x)) ∧ w = w' := by
  go_enter Tryz.func170, Tryz.ntmps170
  go_wp2
  go_ret
  exact ⟨rfl, rfl⟩
set_option maxRecDepth 100000 in
theorem round_any (x : Int) (h0 : 0 ≤ x) (h1 : x < 18446744073709551616) (w : World) : Calls Tryz.prog 168 #[.int .u64 x] w fun e w' => e = .returned (.int .u64 (roundV x)) ∧ w = w' := by
  go_enter Tryz.func168, Tryz.ntmps168
  go_wp2
  go_ret
  exact ⟨rfl, rfl⟩
set_option maxRecDepth 100000 in
theorem div_any (x : Int) (h0 : 0 ≤ x) (h1 : x < 18446744073709551616) (w : World) : Calls Tryz.prog 171 #[.int .u64 x, .int .u64 10] w fun e w' => e = .returned (.int .u64 (divV x)) ∧ Below w.heap.size w w' := by
  go_enter Tryz.func171, Tryz.ntmps171
  go_wp2_with fail
  go_quiet ((go_at_call 211; exact Calls.quiet_of_same ((bool2r_any _ _).mono fun _ _ h => ⟨h.1, h.2.symm⟩)))
  go_wp2
  go_ret
  exact ⟨rfl, below_drewN (Below.refl _ _) _⟩

/-- The scaled product, as the program reckons it. -/
def uscG (h mid mid2 s : Int) : Int :=
  if (IntKind.u64.wrap (h / 2 ^ s.toNat * 2 ^ s.toNat) != h) = true then bits .or .u64 (h / 2 ^ s.toNat) 1
  else bits .or .u64 (IntKind.u64.wrap (h - b2u (decide (mid < mid2))) / 2 ^ s.toNat) (b2u (decide (1 < IntKind.u64.wrap (mid - mid2))))
def uscV (x hi lo : Nat) (s : Int) : Int := uscG ((x * hi / 18446744073709551616 : Nat) : Int) ((x * hi % 18446744073709551616 : Nat) : Int) ((x * lo / 18446744073709551616 : Nat) : Int) s
theorem and63 (s : Int) (s0 : 0 ≤ s) (s1 : s ≤ 63) : bits BinOp.and IntKind.i64 s 63 = s := by
  obtain ⟨n, rfl⟩ := Int.eq_ofNat_of_zero_le s0
  have hn : n < 64 := by omega
  have all : ∀ k : Fin 64, bits BinOp.and IntKind.i64 ((k.val : Nat) : Int) 63 = ((k.val : Nat) : Int) := by decide +kernel
  exact all ⟨n, hn⟩
set_option maxRecDepth 100000 in
theorem uscale_any (x hi lo : Nat) (s : Int) (g : Nat) (hx : x < 18446744073709551616) (h1 : hi < 18446744073709551616) (h2 : lo < 18446744073709551616) (s0 : 0 ≤ s) (s1 : s ≤ 63) (w : World)
    (c0 : w.cell? ⟨g, 0, none⟩ = some (.int .u64 (hi : Int))) (c1 : w.cell? ⟨g, 1, none⟩ = some (.int .u64 (lo : Int))) (c2 : w.cell? ⟨g, 2, none⟩ = some (.int .i64 s)) :
    Calls Tryz.prog 164 #[.int .u64 (x : Int), .pointer (some ⟨g, 0, none⟩)] w fun e w' => e = .returned (.int .u64 (uscV x hi lo s)) ∧ Below w.heap.size w w' := by
  have hs := and63 s s0 s1
  unfold uscV
  have HM1 := Lib.hid (Tryz.bits_Mul64 x hi hx h1)
  have HM2 := Lib.hid (Tryz.bits_Mul64 x lo hx h2)
  obtain ⟨h, eh⟩ : ∃ h : Int, h = ((x * hi / 18446744073709551616 : Nat) : Int) := ⟨_, rfl⟩
  obtain ⟨mid, em⟩ : ∃ h : Int, h = ((x * hi % 18446744073709551616 : Nat) : Int) := ⟨_, rfl⟩
  obtain ⟨mid2, em2⟩ : ∃ h : Int, h = ((x * lo / 18446744073709551616 : Nat) : Int) := ⟨_, rfl⟩
  obtain ⟨low, el⟩ : ∃ h : Int, h = ((x * lo % 18446744073709551616 : Nat) : Int) := ⟨_, rfl⟩
  have i1 : 0 ≤ h ∧ h < 18446744073709551616 := by
    rw [eh]
    have : x * hi / 18446744073709551616 < 18446744073709551616 := by
      apply Nat.div_lt_of_lt_mul
      exact Nat.lt_of_le_of_lt (Nat.mul_le_mul_right _ (Nat.le_of_lt hx)) (Nat.mul_lt_mul_of_pos_left h1 (by decide))
    omega
  have i2 : 0 ≤ mid ∧ mid < 18446744073709551616 := by rw [em]; omega
  have i3 : 0 ≤ mid2 ∧ mid2 < 18446744073709551616 := by
    rw [em2]
    have : x * lo / 18446744073709551616 < 18446744073709551616 := by
      apply Nat.div_lt_of_lt_mul
      exact Nat.lt_of_le_of_lt (Nat.mul_le_mul_right _ (Nat.le_of_lt hx)) (Nat.mul_lt_mul_of_pos_left h2 (by decide))
    omega
  obtain ⟨i1, i1'⟩ := i1
  obtain ⟨i2, i2'⟩ := i2
  obtain ⟨i3, i3'⟩ := i3
  rw [← eh, ← em] at HM1
  rw [← em2, ← el] at HM2
  rw [← eh, ← em, ← em2]
  clear eh em em2 el
  rcases Bool.eq_false_or_eq_true (IntKind.u64.wrap (h / 2 ^ s.toNat * 2 ^ s.toNat) != h) with hb | hb
  · have HR : Hid (uscG h mid mid2 s = bits .or .u64 (h / 2 ^ s.toNat) 1) := Lib.hid (by unfold uscG; rw [if_pos hb])
    go_enter Tryz.func164, Tryz.ntmps164
    go_wp2_with fail
    refine (HM1.out _).mono ?_
    rintro e w1 ⟨rfl, rfl⟩
    go_wp2_with fail
    go_ret
    exact ⟨ret_u64 HR.out.symm, Below.refl _ _⟩
  · have HR : Hid (uscG h mid mid2 s = bits .or .u64 (IntKind.u64.wrap (h - b2u (decide (mid < mid2))) / 2 ^ s.toNat) (b2u (decide (1 < IntKind.u64.wrap (mid - mid2))))) := Lib.hid (by unfold uscG; rw [if_neg (by rw [hb]; decide)])
    go_enter Tryz.func164, Tryz.ntmps164
    go_wp2_with fail
    refine (HM1.out _).mono ?_
    rintro e w1 ⟨rfl, rfl⟩
    go_wp2_with fail
    refine (HM2.out _).mono ?_
    rintro e w1 ⟨rfl, rfl⟩
    go_wp2_with fail
    refine (bool2_any _ _).mono ?_
    rintro e w1 ⟨rfl, rfl⟩
    go_wp2_with fail
    go_quiet ((go_at_call 187; exact Calls.quiet_of_same ((bool2_any _ _).mono fun _ _ h => ⟨h.1, h.2.symm⟩)))
    go_wp2
    go_ret
    exact ⟨ret_u64 HR.out.symm, below_drewN (Below.refl _ _) _⟩
end Go.Proofs.YtpgfogfejemojaaGreatDoor
