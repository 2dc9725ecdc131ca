/-
  For every text s the law TextUnquotes returns true and leaves its argument as it was. Condition: the two tables of package utf8 are as the program's text lays them (the card ties them).
-/
import Derived.Test.YtjpnkffdpcfnjaaDoorRows
import Derived.Test.YtjpnkffdpcfnjaaDoorCards
import Derived.Test.YtjpnkffdpcfnjaaDoorTie
import Derived.Test.YtjpnkffdpcfnjaaDoorLaidT
import Derived.Test.YtjpnkffdpcfnjaaDoorUnq
import Derived.Test.YtjpnkffdpcfnjaaDoorRefUnq
import Derived.Test.YtjpnkffdpcfnjaaDoorAwake
import Derived.WalkKit
import Derived.ProofKit
import Derived.OpenShut
import Derived.ShutString
import Derived.ChangeOld
import Derived.Below
import Derived.SevenTiedAt
set_option linter.unusedVariables false
namespace Go.Proofs.YtjpnkffdpcfnjaaDoor.textUnquotes
open Go.ChangeShapes Go.WideShapes Go.ChangeAt Go.RowKit
open Go.ChangeMaps (open_string shut_string)

theorem own : ownKnob Tryd.prog.godebug = none := by kernel_rfl
theorem laidOut : laidOutB Tryd.prog = true := by kernel_rfl
theorem below_al {w W : World} {o : Obj} (h : Below w.heap.size w W) : Below w.heap.size w (W.alloc o) := h.alloc h.size o

set_option maxHeartbeats 4000000 in
set_option maxRecDepth 100000 in
theorem walk (a0 : ByteArray) (w0 : a0.size ≤ maxLen) (w : World) (ht : TabU w) :
    Calls Tryd.prog 4 #[.string a0] w fun e w' => e = .returned (.bool true) ∧ Below w.heap.size w w' := by
  have hm0 : (a0.size : Int) ≤ 9223372036854775807 := by unfold maxLen at w0; omega
  have HAW := Lib.hid awake_any
  clear w0
  by_cases hbig : 1000 < a0.size
  · have hb : (1000 : Int) < (a0.size : Int) := by omega
    clear hbig
    go_enter Tryd.func4, Tryd.ntmps4
    go_wp2_with fail
    refine (HAW.out _).mono ?_
    rintro e w2 ⟨rfl, hb1⟩
    go_wp2
    go_ret
    exact ⟨rfl, hb1⟩
  have hle : (a0.size : Int) ≤ 1000 := by omega
  clear hbig
  have hU := fun W (hB : TabU W) => unq_any a0 (by omega) W hB
  have hRU := refUnq_any a0 (by omega)
  obtain ⟨hch, hlen⟩ := unqL_chars a0
  unfold RUPost at hRU
  unfold ret3V at hU
  generalize unqL a0 = R at *
  obtain ⟨l, n, er⟩ := R
  dsimp only at hU hRU hch hlen
  have HIS := Lib.hid (fun v W hv => is_same l (by omega) hch v W hv)
  unfold strV at hU HIS
  generalize pk l = dl at *
  generalize wideL l = wl at *
  have HU := Lib.hid hU
  have HRU := Lib.hid hRU
  have HT := Lib.hid ht
  clear hU hRU ht hch hlen
  go_enter Tryd.func4, Tryd.ntmps4
  go_wp2_with fail
  refine (HAW.out _).mono ?_
  rintro e w1 ⟨rfl, hb1⟩
  have HT1 := Lib.hid (HT.out.below hb1)
  have HB1 := Lib.hid hb1
  clear hb1
  go_wp2_with fail
  refine (HU.out _ HT1.out).mono ?_
  rintro e w2 ⟨rfl, hb2⟩
  have HB2 := Lib.hid (below_al (o := .cells #[.string dl, .bool wl] 24) (below_from HB1.out hb2 (Nat.le_refl _)))
  have HT2 := Lib.hid (two_alloc w2 (.string dl) (.bool wl) 24)
  clear hb2 HB1
  go_wp2_with fail
  refine (HRU.out _).mono ?_
  rintro e w3 ⟨v, rfl, hv, hb3⟩
  have HB3 := Lib.hid (below_from HB2.out hb3 (Nat.le_refl _))
  have HT3 := Lib.hid (HT2.out.below hb3)
  have HV := Lib.hid hv
  clear hb3 HB2 HT2 hv
  obtain ⟨_, x0, x1⟩ := HT3.out
  go_wp2_with fail
  refine (HIS.out _ _ HV.out).mono ?_
  rintro e w4 ⟨rfl, hb4⟩
  have HB4 := Lib.hid (below_from HB3.out hb4 (Nat.le_refl _))
  clear x0 x1 hb4
  go_wp2
  go_ret
  exact ⟨rfl, HB4.out⟩

set_option maxRecDepth 100000 in
theorem lifted (os : Os) (started : os.Started) (H : Type) (enc : TypeId × Value → H) :
    ReturnsInHanded {} Tryd.checked os 4 .any (fun w args => (Rows.textUnquotesSpec.pre enc Tryd.prog Tryd.f4 [] false w args ∧ laidMetH Tryd.prog laidN w) ∧ sizedMet enc Tryd.prog Tryd.f4 (OpenSpec.ofChange Rows.textUnquotesSpec) false w args)
      (Rows.textUnquotesSpec.post enc Tryd.prog Tryd.f4 false true false false) := by
  refine returnsInHanded_and_shaped (C := Tryd.checked) (X := fun w _ => laidMetH Tryd.prog laidN w) (fun _ _ _ hh h => h.of_heap hh) own started (by kernel_rfl) Tryd.func4
    (ChangeSpec.witness_shaped (enc := enc) (C := Tryd.checked) (os := os) (X := fun w _ => laidMetH Tryd.prog laidN w) false (World.laidAll Tryd.prog os laidN) #[.string ByteArray.empty] 8 (World.laidAll_os _ _ _) (shaped_all os _) (by kernel_rfl) (by kernel_rfl) (by kernel_rfl) (met_all os _)) ?_
  intro W base args ds gs before hval0 hW hL hSh
  have hval : ∀ (j : Nat) t v, Tryd.f4.params[j]? = some t → args[j]? = some v → Value.okWide Tryd.prog W .any base t v := hval0
  have hW' := hW
  obtain ⟨p, q, hA0, hV, rfl, hfz, hnd⟩ := hW
  have hA : DataW.TrodAll enc Tryd.prog W 0 (fun _ => true) true Tryd.f4.params.toList args.toList ds p := hA0
  rw [Tryd.params4] at hA hval
  obtain ⟨v0, d0, rfl, rfl, h0⟩ := trodAll_one hA
  obtain ⟨rfl, rfl⟩ := trodVars_none hV
  obtain ⟨a0, rfl, rfl, rfl, w0⟩ := open_string Tryd.underlying9 (hval 0 9 v0 rfl rfl) h0
  clear hA0 hval0
  have ht := of_laid hSh hL
  simp only [List.append_nil] at hW'
  refine (walk a0 w0 W ht).mono fun e W' ⟨he, bel⟩ => ?_
  subst he
  exact ⟨_, rfl, _, _, _, [], _, [], hW', trodAll_mk1 (shut_bool Tryd.underlying4 _), (trodAll_mk1 (shut_string Tryd.underlying9 w0)), rfl, bel.frame _, fun h => by cases h⟩

set_option maxHeartbeats 16000000 in
set_option maxRecDepth 100000 in
theorem joined : joinedFacts Tryd.prog 4 Tryd.f4 Rows.textUnquotesSpec Rows.textUnquotesRow = true := by
  unfold joinedFacts
  simp only [Bool.and_eq_true]
  repeat' apply And.intro
  all_goals as_aux_lemma => kernel_rfl
theorem over : Rows.textUnquotesRow.holds Tryd.pinned (OpenSpec.ofChange Rows.textUnquotesSpec) :=
  OpenClaim.holds_of_wide 4 Tryd.f4 rfl rfl rfl rfl rfl rfl rfl ⟨rfl, rfl, rfl, rfl, rfl⟩ rfl rfl rfl rfl rfl (by kernel_rfl) Tryd.func4 joined
    (of_decide_eq_true (by kernel_rfl)) (by unfold Func.isWrapper; first | (rw [if_pos (by decide +kernel)]; kernel_rfl) | (rw [if_neg (by decide +kernel)]; exact ⟨rfl, rfl⟩))
    (fun os started H enc _ => lifted os started H enc)

theorem card_holds : Rows.TextUnquotesCardSaid :=
  Claim7.holds_tied_plain_at .later [] [.data, .pinned] true (true, "e0d32f956efe4eedf389720fb974a17cf7b6010b9b6cb12dc063cf45e59b4206") false
    over (fun _ h => by cases h) (by kernel_rfl) (fun _ h => by cases h) textUnquotes_row_tie rfl ⟨rfl, rfl⟩ (by kernel_rfl) rfl
    (fun f fn hf hfn => by
      obtain rfl : f = 4 := Option.some.inj ((show Tryd.prog.funcNamed "acheron/acheronlaw01.TextUnquotes" = some 4 by kernel_rfl).symm.trans hf) |>.symm
      obtain rfl : fn = Tryd.f4 := (Option.some.inj (Tryd.func4.symm.trans hfn)).symm
      exact ⟨by kernel_rfl, fun j t ht => by
        rw [Tryd.params4] at ht
        have hm : t ∈ [9] := by have := Array.mem_of_getElem? ht; simp at this ⊢; omega
        have hall : ([9].all fun u => !Tryd.prog.wantsStandIn u) = true := by kernel_rfl
        exact (show Tryd.prog.wantsStandIn t = false by simpa using List.all_eq_true.1 hall t hm)⟩)
    (by kernel_rfl)
end Go.Proofs.YtjpnkffdpcfnjaaDoor.textUnquotes

