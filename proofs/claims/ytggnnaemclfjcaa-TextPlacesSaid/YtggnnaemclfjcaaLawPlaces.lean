/-
  For every text s and every number at the law TextPlaces returns true and leaves its arguments as they were. No condition.
-/
import Derived.Test.YtggnnaemclfjcaaRows
import Derived.Test.YtggnnaemclfjcaaAwake
import Derived.WalkKit
import Derived.ProofKit
import Derived.OpenShut
import Derived.ShutString
import Derived.ChangeOld
import Derived.Below
set_option linter.unusedVariables false
namespace Go.Proofs.Ytggnnaemclfjcaa.textPlaces
open Go.ChangeShapes Go.WideShapes Go.ChangeAt Go.RowKit
open Go.ChangeMaps (open_string shut_string)

theorem own : ownKnob Try.prog.godebug = none := by kernel_rfl
theorem laidOut : laidOutB Try.prog = true := by kernel_rfl

set_option maxHeartbeats 1000000 in
theorem walk (a0 : ByteArray) (a1 : Int) (w0 : a0.size ≤ maxLen) (w1 : (Lit.int .i64 a1).wf = true) (w : World) :
    Calls Try.prog 7 #[.string a0, .int .i64 a1] w fun e w' => e = .returned (.bool true) ∧ Below w.heap.size w w' := by
  have hm : a0.size ≤ 9223372036854775807 := w0
  have hm' : (a0.size : Int) ≤ 9223372036854775807 := by omega
  have HAW := Lib.hid awake_any
  by_cases hbig : 2000 < a0.size
  · have hb : (2000 : Int) < (a0.size : Int) := by omega
    clear w0 w1 hm hbig
    go_enter Try.func7, Try.ntmps7
    go_wp2_with fail
    refine (HAW.out _).mono ?_
    rintro e w2 ⟨rfl, hb1⟩
    go_wp2
    go_ret
    exact ⟨rfl, hb1⟩
  have hle : (a0.size : Int) ≤ 2000 := by omega
  have hl9 : a0.size ≤ 1000000000 := by omega
  by_cases hno : a1 < 0 ∨ (a0.size : Int) < a1
  · have hp := Lib.hid (place_no a0 hl9 a1 hno)
    clear w0 w1 hm hbig hm' hl9
    rcases hno with hno | hno
    · go_enter Try.func7, Try.ntmps7
      go_wp2_with fail
      refine (HAW.out _).mono ?_
      rintro e w2 ⟨rfl, hb1⟩
      go_wp2_with fail
      refine (hp.out _).mono ?_
      rintro e w3 ⟨rfl, hb2⟩
      have hb3 := below_from hb1 hb2 (Nat.le_refl _)
      clear hb1 hb2
      go_wp2
      go_ret
      exact ⟨rfl, hb3⟩
    · have hd : decide (a1 < 0) = false := by simp; omega
      go_enter Try.func7, Try.ntmps7
      go_wp2_with fail
      refine (HAW.out _).mono ?_
      rintro e w2 ⟨rfl, hb1⟩
      go_wp2_with fail
      refine (hp.out _).mono ?_
      rintro e w3 ⟨rfl, hb2⟩
      have hb3 := below_from hb1 hb2 (Nat.le_refl _)
      clear hb1 hb2
      go_wp2
      go_ret
      exact ⟨rfl, hb3⟩
  · obtain ⟨k, rfl⟩ := Int.eq_ofNat_of_zero_le (show 0 ≤ a1 by omega)
    have hk : k ≤ a0.size := by omega
    have hp := Lib.hid (place_ok a0 hl9 k hk)
    have hr := Lib.hid (refPlace_ok a0 hl9 k hk)
    have hkI : (k : Int) ≤ (a0.size : Int) := by omega
    clear w0 w1 hm hbig hm' hl9 hno hk
    go_enter Try.func7, Try.ntmps7
    go_wp2_with fail
    refine (HAW.out _).mono ?_
    rintro e w2 ⟨rfl, hb1⟩
    go_wp2_with fail
    refine (hp.out _).mono ?_
    rintro e w3 ⟨rfl, hb2⟩
    have hb3 := below_from hb1 hb2 (Nat.le_refl _)
    clear hb1 hb2
    go_wp2_with fail
    refine (hr.out _).mono ?_
    rintro e w4 ⟨rfl, hb4⟩
    have hb5 := below_from hb3 hb4 (Nat.le_refl _)
    clear hb3 hb4
    go_wp2
    go_ret
    exact ⟨rfl, hb5⟩

set_option maxRecDepth 100000 in
theorem lifted (os : Os) (started : os.Started) (H : Type) (enc : TypeId × Value → H) :
    ReturnsInHanded {} Try.checked os 7 .any (Rows.textPlacesSpec.pre6 enc Try.prog Try.f7 Rows.textPlacesRow.domain false) (Rows.textPlacesSpec.post enc Try.prog Try.f7 false true false false) := by
  refine returnsInHanded_of_change (C := Try.checked) own started (by kernel_rfl) Try.func7
    (ChangeSpec.witness6 (enc := enc) (C := Try.checked) false ⟨#[], #[.string ByteArray.empty, .int .i64 0], []⟩ 8 (by kernel_rfl) (by kernel_rfl) (by kernel_rfl) (by kernel_rfl)) ?_
  intro W base args ds gs before hval0 hW hcnd _
  have hval : ∀ (j : Nat) t v, Try.f7.params[j]? = some t → args[j]? = some v → Value.okWide Try.prog W .any base t v := hval0
  have hW' := hW
  obtain ⟨p, q, hA0, hV, rfl, hfz, hnd⟩ := hW
  have hA : DataW.TrodAll enc Try.prog W 0 (fun _ => true) true Try.f7.params.toList args.toList ds p := hA0
  rw [Try.params7] at hA hval
  obtain ⟨v0, vs0, d0, ds0, p0, q0, hargs, rfl, rfl, h0, r0⟩ := trodAll_cons hA
  obtain ⟨v1, vs1, d1, ds1, p1, q1, rfl, rfl, rfl, h1, r1⟩ := trodAll_cons r0
  obtain ⟨rfl, rfl, rfl⟩ := trodAll_nil r1
  obtain rfl : args = #[v0, v1] := by cases args; simp_all
  obtain ⟨rfl, rfl⟩ := trodVars_none hV
  obtain ⟨a0, rfl, rfl, rfl, w0⟩ := open_string Try.underlying9 (hval 0 9 v0 rfl rfl) h0
  obtain ⟨a1, rfl, rfl, rfl, w1⟩ := open_int Try.underlying3 (hval 1 3 v1 rfl rfl) h1
  clear hA0 hval0
  refine (walk a0 a1 w0 w1 W).mono fun e W' ⟨he, bel⟩ => ?_
  subst he
  exact ⟨_, rfl, _, _, _, [], _, [], hW', (trodAll_cons_mk (shut_bool Try.underlying4 _) trodAll_mk0), (trodAll_cons_mk (shut_string Try.underlying9 w0) (trodAll_cons_mk (shut_int Try.underlying3 w1) trodAll_mk0)), rfl, bel.frame _, fun h => by cases h⟩

theorem over : Rows.textPlacesRow.holds Try.pinned (OpenSpec.ofChange Rows.textPlacesSpec) :=
  OpenClaim.holds_of_wide 7 Try.f7 rfl rfl rfl rfl rfl rfl rfl ⟨rfl, rfl, rfl, rfl, rfl⟩ rfl rfl rfl rfl rfl (by kernel_rfl) Try.func7 (by kernel_rfl)
    (of_decide_eq_true (by kernel_rfl)) (by unfold Func.isWrapper; first | (rw [if_pos (by decide +kernel)]; kernel_rfl) | (rw [if_neg (by decide +kernel)]; exact ⟨rfl, rfl⟩))
    (fun os started H enc _ => lifted os started H enc)

theorem proved : Rows.TextPlacesSaid :=
  over
end Go.Proofs.Ytggnnaemclfjcaa.textPlaces

