/-
  For every text s the law TextDecodes returns true and leaves its argument as it was. No condition.
-/
import Derived.Test.YtggnnaemclfjcaaRows
import Derived.Test.YtggnnaemclfjcaaRef2
import Derived.WalkKit
import Derived.ProofKit
import Derived.OpenShut
import Derived.ShutString
import Derived.ChangeOld
import Derived.Below
set_option linter.unusedVariables false
namespace Go.Proofs.Ytggnnaemclfjcaa.textDecodes
open Go.ChangeShapes Go.WideShapes Go.ChangeAt Go.RowKit
open Go.ChangeMaps (open_string shut_string)

theorem own : ownKnob Try.prog.godebug = none := by kernel_rfl
theorem laidOut : laidOutB Try.prog = true := by kernel_rfl

set_option maxHeartbeats 1000000 in
theorem walk (a0 : ByteArray) (w0 : a0.size ≤ maxLen) (w : World) :
    Calls Try.prog 3 #[.string a0] w fun e w' => e = .returned (.bool true) ∧ Below w.heap.size w w' := by
  have hm : a0.size ≤ 9223372036854775807 := w0
  have hm' : (a0.size : Int) ≤ 9223372036854775807 := by omega
  have HAW := Lib.hid awake_any
  by_cases hbig : 2000 < a0.size
  · have hb : (2000 : Int) < (a0.size : Int) := by omega
    clear w0 hm hbig
    go_enter Try.func3, Try.ntmps3
    go_wp2_with fail
    refine (HAW.out _).mono ?_
    rintro e w2 ⟨rfl, hb1⟩
    go_wp2
    go_ret
    exact ⟨rfl, hb1⟩
  have hle : (a0.size : Int) ≤ 2000 := by omega
  have hdl := decs_len a0
  have hOf := fun w' => Of_ok a0 w' (by omega) (by omega)
  have hDec := decode_any a0 (by omega)
  have hIs := is_same (decs a0) (by omega) (chars_decs a0)
  have hAt := fun i hi => at_ok (decs a0) i hi (by omega) (chars_decs a0)
  have hNo := fun i hi => at_no (decs a0) i hi (by omega)
  unfold DecPost at hDec
  unfold strV at hOf hIs hAt hNo
  generalize decs a0 = l at *
  generalize wideL l = wl at *
  generalize pk l = d at *
  have HOF := Lib.hid hOf
  have HDEC := Lib.hid hDec
  have HIS := Lib.hid hIs
  have HAT := Lib.hid hAt
  have HNO := Lib.hid hNo
  clear hOf hDec hIs hAt hNo w0 hm hbig hm'
  have hl : l.length ≤ 2000 := by omega
  clear hdl
  go_enter Try.func3, Try.ntmps3
  go_wp2_with fail
  refine (HAW.out _).mono ?_
  rintro e w2 ⟨rfl, hb1⟩
  go_wp2_with fail
  refine (HOF.out _).mono ?_
  rintro e w3 ⟨rfl, hb2⟩
  have B3 := below_from hb1 hb2 (Nat.le_refl _)
  clear hb1 hb2
  go_wp2_with fail
  refine (HDEC.out _).mono ?_
  rintro e w4 ⟨v, rfl, hown, hb4⟩
  have T4 := (two_alloc w3 (.string d) (.bool wl) 24).below hb4
  have B4 := below_alloc B3 hb4
  have HI4 := Lib.hid hown.at
  have H4 := Lib.hid T4
  obtain ⟨_, c0, c1⟩ := T4
  clear hb4 B3 hown
  go_wp2_with fail
  refine (HIS.out _ _ HI4.out).mono ?_
  rintro e w5 ⟨rfl, hb5⟩
  clear c0 c1
  have T5 := H4.out.below hb5
  have B5 := below_from B4 hb5 (Nat.le_refl _)
  have I5 := HI4.out.below hb5
  clear hb5 H4 B4 HI4
  generalize hb0 : w3.heap.size = b0 at T5 ⊢
  clear hb0
  have HI5 := Lib.hid I5
  have HT5 := Lib.hid T5
  obtain ⟨av, cp, rfl, hcells⟩ := I5
  clear hcells T5
  go_wp2
  go_loopw [6, 7, 8, 33] (fun _ _ _ i wr => ∃ k : Nat, k ≤ l.length ∧ i = .int .i64 k ∧ Two wr b0 (.string d) (.bool wl) ∧ IntsAt wr (.slice av l.length cp) l ∧ Below w.heap.size w wr) (fun _ _ _ i _ => l.length - (intOf i).toNat)
  case atStart => exact ⟨0, Nat.zero_le _, rfl, HT5.out, HI5.out, B5⟩
  case round =>
    obtain ⟨k, hk, rfl, T, I, B⟩ := hrel
    have HT := Lib.hid T
    have HI := Lib.hid I
    obtain ⟨_, c0, c1⟩ := T
    by_cases hlt : k < l.length
    · obtain ⟨a, cap, hv, hin⟩ := I
      obtain ⟨rfl, rfl⟩ : a = av ∧ cap = cp := by
        injection hv with h1 _ h3
        exact ⟨h1.symm, h3.symm⟩
      rcases hin with hnil | ⟨b, o, rfl, hbl, hc⟩
      · rw [hnil] at hlt; exact absurd hlt (Nat.not_lt_zero _)
      have hx := hc k hlt
      have HX := Lib.hid hx
      clear hc hv hx
      go_wp2_with fail
      refine (HAT.out k hlt _).mono ?_
      rintro e w6 ⟨rfl, hb6⟩
      have hx6 := (hb6.cell (p := ⟨b, o + k, none⟩) hbl).trans HX.out
      have T6 := HT.out.below hb6
      have I6 := HI.out.below hb6
      have B6 := below_from B hb6 (Nat.le_refl _)
      have HT6 := Lib.hid T6
      have HI6 := Lib.hid I6
      clear c0 c1 T6 I6 hb6 B
      go_wp2
      go_roundw
      case rel => exact ⟨k + 1, by omega, by go_num, HT6.out, HI6.out, B6⟩
      case measure => simp [intOf]; omega
    · obtain rfl : k = l.length := by omega
      clear I
      go_wp2_with fail
      refine (HNO.out _ (.inr (Int.le_refl _)) _).mono ?_
      rintro e w6 ⟨rfl, hb6⟩
      have T6 := HT.out.below hb6
      have B6 := below_from B hb6 (Nat.le_refl _)
      clear c0 c1 hb6 B
      obtain ⟨_, c0, c1⟩ := T6
      go_wp2_with fail
      refine (HNO.out _ (.inl (by decide)) _).mono ?_
      rintro e w7 ⟨rfl, hb7⟩
      have B7 := below_from B6 hb7 (Nat.le_refl _)
      clear c0 c1 hb7 B6
      go_wp2
      go_ret
      exact ⟨rfl, B7⟩

set_option maxRecDepth 100000 in
theorem lifted (os : Os) (started : os.Started) (H : Type) (enc : TypeId × Value → H) :
    ReturnsInHanded {} Try.checked os 3 .any (Rows.textDecodesSpec.pre6 enc Try.prog Try.f3 Rows.textDecodesRow.domain false) (Rows.textDecodesSpec.post enc Try.prog Try.f3 false true false false) := by
  refine returnsInHanded_of_change (C := Try.checked) own started (by kernel_rfl) Try.func3
    (ChangeSpec.witness6 (enc := enc) (C := Try.checked) false ⟨#[], #[.string ByteArray.empty], []⟩ 8 (by kernel_rfl) (by kernel_rfl) (by kernel_rfl) (by kernel_rfl)) ?_
  intro W base args ds gs before hval0 hW hcnd _
  have hval : ∀ (j : Nat) t v, Try.f3.params[j]? = some t → args[j]? = some v → Value.okWide Try.prog W .any base t v := hval0
  have hW' := hW
  obtain ⟨p, q, hA0, hV, rfl, hfz, hnd⟩ := hW
  have hA : DataW.TrodAll enc Try.prog W 0 (fun _ => true) true Try.f3.params.toList args.toList ds p := hA0
  rw [Try.params3] at hA hval
  obtain ⟨v0, vs0, d0, ds0, p0, q0, hargs, rfl, rfl, h0, r0⟩ := trodAll_cons hA
  obtain ⟨rfl, rfl, rfl⟩ := trodAll_nil r0
  obtain rfl : args = #[v0] := by cases args; simp_all
  obtain ⟨rfl, rfl⟩ := trodVars_none hV
  obtain ⟨a0, rfl, rfl, rfl, w0⟩ := open_string Try.underlying9 (hval 0 9 v0 rfl rfl) h0
  clear hA0 hval0
  refine (walk a0 w0 W).mono fun e W' ⟨he, bel⟩ => ?_
  subst he
  exact ⟨_, rfl, _, _, _, [], _, [], hW', (trodAll_cons_mk (shut_bool Try.underlying4 _) trodAll_mk0), (trodAll_cons_mk (shut_string Try.underlying9 w0) trodAll_mk0), rfl, bel.frame _, fun h => by cases h⟩

theorem over : Rows.textDecodesRow.holds Try.pinned (OpenSpec.ofChange Rows.textDecodesSpec) :=
  OpenClaim.holds_of_wide 3 Try.f3 rfl rfl rfl rfl rfl rfl rfl ⟨rfl, rfl, rfl, rfl, rfl⟩ rfl rfl rfl rfl rfl (by kernel_rfl) Try.func3 (by kernel_rfl)
    (of_decide_eq_true (by kernel_rfl)) (by unfold Func.isWrapper; first | (rw [if_pos (by decide +kernel)]; kernel_rfl) | (rw [if_neg (by decide +kernel)]; exact ⟨rfl, rfl⟩))
    (fun os started H enc _ => lifted os started H enc)

theorem proved : Rows.TextDecodesSaid :=
  over
end Go.Proofs.Ytggnnaemclfjcaa.textDecodes

