/-
  digest.isUnit, isSecret, Valid, inverse.
-/
import Derived.Test.YthhaofdnbemogaaDoorPow
import Derived.Test.YthhaofdnbemogaaDoorCrc
set_option linter.unusedVariables false
namespace Go.Proofs.YthhaofdnbemogaaDoor
open Go.RowKit

def unitB (a : Int) : Bool := decide (1 ≤ a ∧ a < 2305843009213691579)
def secretB (a : Int) : Bool := decide (1 ≤ a ∧ a < 1152921504606845789)
noncomputable def validB (k : Int) : Bool := unitB k && !(k == 1) && (powP k.toNat 1152921504606845789 == 1)
theorem unitB_yes {a : Int} (h0 : 1 ≤ a) (h1 : a < 2305843009213691579) : unitB a = true := decide_eq_true ⟨h0, h1⟩
theorem unitB_no {a : Int} (h : ¬ (1 ≤ a ∧ a < 2305843009213691579)) : unitB a = false := decide_eq_false h

theorem unit_any (a : Int) (w : World) : Calls Tryd.prog 61 #[.int .i64 a] w fun e w' => e = .returned (.bool (unitB a)) ∧ w = w' := by
  by_cases h0 : 1 ≤ a
  · by_cases h1 : a < 2305843009213691579
    · have e := Lib.hid (unitB_yes h0 h1)
      go_enter Tryd.func61, Tryd.ntmps61
      go_wp2
      go_ret
      exact ⟨ret_bool e.out.symm, rfl⟩
    · have e := Lib.hid (unitB_no (a := a) (fun h => h1 h.2))
      go_enter Tryd.func61, Tryd.ntmps61
      go_wp2
      go_ret
      exact ⟨ret_bool e.out.symm, rfl⟩
  · have e := Lib.hid (unitB_no (a := a) (fun h => h0 h.1))
    go_enter Tryd.func61, Tryd.ntmps61
    go_wp2
    go_ret
    exact ⟨ret_bool e.out.symm, rfl⟩

theorem nat_beq (a b : Nat) : (true && !false && (a == b)) = ((a : Int) == (b : Int)) := by
  rw [Bool.eq_iff_iff]
  simp
  omega
set_option maxHeartbeats 2000000 in
theorem valid_any (k : Int) (w : World) : Calls Tryd.prog 36 #[.int .i64 k] w fun e w' => e = .returned (.bool (validB k)) ∧ Below w.heap.size w w' := by
  have HU := Lib.hid (unit_any k w)
  cases hu : unitB k
  · have hv : Hid (validB k = false) := Lib.hid (by unfold validB; rw [hu]; rfl)
    rw [hu] at HU
    clear hu
    go_enter Tryd.func36, Tryd.ntmps36
    go_wp2_with fail
    refine HU.out.mono ?_
    rintro e w1 ⟨rfl, rfl⟩
    go_wp2_with fail
    go_ret
    exact ⟨ret_bool hv.out.symm, Below.refl _ _⟩
  · rw [hu] at HU
    have hb : 1 ≤ k ∧ k < 2305843009213691579 := by unfold unitB at hu; exact of_decide_eq_true hu
    by_cases h1 : k = 1
    · subst h1
      have hv : Hid (validB 1 = false) := Lib.hid (by unfold validB; rw [hu]; rfl)
      clear hu hb
      go_enter Tryd.func36, Tryd.ntmps36
      go_wp2_with fail
      refine HU.out.mono ?_
      rintro e w1 ⟨rfl, rfl⟩
      go_wp2_with fail
      go_ret
      exact ⟨ret_bool hv.out.symm, Below.refl _ _⟩
    · obtain ⟨n, rfl⟩ := Int.eq_ofNat_of_zero_le (show 0 ≤ k by omega)
      have hn : n < 9223372036854775808 := by omega
      have hbn : ((n : Int) == 1) = false := by simpa using h1
      obtain ⟨R, hR⟩ : ∃ R, R = powP n 1152921504606845789 := ⟨_, rfl⟩
      have hv : Hid (validB (n : Int) = ((R : Int) == 1)) := Lib.hid (by unfold validB; rw [hu, hbn, hR, Int.toNat_natCast]; exact nat_beq _ 1)
      have HP := Lib.hid (power_any n 1152921504606845789 hn (by decide) w)
      rw [← hR, show ((1152921504606845789 : Nat) : Int) = 1152921504606845789 from rfl] at HP
      have hbn2 : ((n : Int) != 1) = true := by simpa using h1
      have hbn3 : (n == 1) = false := by simp only [beq_eq_false_iff_ne]; omega
      clear hu hb hR h1
      go_enter Tryd.func36, Tryd.ntmps36
      go_wp2_with fail
      refine HU.out.mono ?_
      rintro e w1 ⟨rfl, rfl⟩
      go_wp2_with fail
      refine HP.out.mono ?_
      rintro e w2 ⟨rfl, hb⟩
      have HB := Lib.hid hb
      clear hb
      go_wp2_with fail
      go_ret
      exact ⟨ret_bool hv.out.symm, HB.out⟩
theorem valid_4 : validB 4 = true := by unfold validB; rw [show (4 : Int).toNat = 4 from rfl, powP_4]; rfl
theorem valid_2 : validB 2 = false := by unfold validB; rw [show (2 : Int).toNat = 2 from rfl, powP_2]; rfl
end Go.Proofs.YthhaofdnbemogaaDoor
