/-
  For all texts s and rest the law TextQuotes returns true and leaves its arguments as they were. Condition: the two tables of package utf8 are as the program's text lays them (the card ties them).
-/
import Derived.Test.YtjpnkffdpcfnjaaDoorRows
import Derived.Test.YtjpnkffdpcfnjaaDoorCards
import Derived.Test.YtjpnkffdpcfnjaaDoorTie
import Derived.Test.YtjpnkffdpcfnjaaDoorLaidT
import Derived.Test.YtjpnkffdpcfnjaaDoorUnq
import Derived.Test.YtjpnkffdpcfnjaaDoorQuote
import Derived.Test.YtjpnkffdpcfnjaaDoorRefQuo2
import Derived.Test.YtjpnkffdpcfnjaaDoorAwake
import Derived.Test.YtjpnkffdpcfnjaaDoorCmp2
import Derived.WalkKit
import Derived.ProofKit
import Derived.OpenShut
import Derived.ShutString
import Derived.ChangeOld
import Derived.Below
import Derived.SevenTiedAt
set_option linter.unusedVariables false
namespace Go.Proofs.YtjpnkffdpcfnjaaDoor.textQuotes
open Go.ChangeShapes Go.WideShapes Go.ChangeAt Go.RowKit
open Go.ChangeMaps (open_string shut_string)

theorem own : ownKnob Tryd.prog.godebug = none := by kernel_rfl
theorem laidOut : laidOutB Tryd.prog = true := by kernel_rfl
theorem below_al {w W : World} {o : Obj} (h : Below w.heap.size w W) : Below w.heap.size w (W.alloc o) := h.alloc h.size o
theorem cat_any (a : List UInt8) (s : ByteArray) : (⟨a.toArray⟩ : ByteArray) ++ s = ⟨(a ++ s.data.toList).toArray⟩ := by
  apply ByteArray.ext
  simp

set_option maxHeartbeats 4000000 in
set_option maxRecDepth 100000 in
theorem walk (a0 : ByteArray) (w0 : a0.size ≤ maxLen) (a1 : ByteArray) (w1 : a1.size ≤ maxLen) (w : World) (ht : TabU w) :
    Calls Tryd.prog 3 #[.string a0, .string a1] w fun e w' => e = .returned (.bool true) ∧ Below w.heap.size w w' := by
  have hm0 : (a0.size : Int) ≤ 9223372036854775807 := by unfold maxLen at w0; omega
  have hm1 : (a1.size : Int) ≤ 9223372036854775807 := by unfold maxLen at w1; omega
  have HAW := Lib.hid awake_any
  clear w0 w1
  by_cases hbig : 1000 < a0.size
  · have hb : (1000 : Int) < (a0.size : Int) := by omega
    clear hbig
    go_enter Tryd.func3, Tryd.ntmps3
    go_wp2_with fail
    refine (HAW.out _).mono ?_
    rintro e w2 ⟨rfl, hb1⟩
    go_wp2
    go_ret
    exact ⟨rfl, hb1⟩
  have hle : (a0.size : Int) ≤ 1000 := by omega
  have hle' : ¬ (1000 : Int) < (a0.size : Int) := by omega
  clear hbig
  by_cases hbig : 1000 < a1.size
  · have hb : (1000 : Int) < (a1.size : Int) := by omega
    clear hbig hle
    go_enter Tryd.func3, Tryd.ntmps3
    go_wp2_with fail
    refine (HAW.out _).mono ?_
    rintro e w2 ⟨rfl, hb1⟩
    go_wp2
    go_ret
    exact ⟨rfl, hb1⟩
  have hle1 : (a1.size : Int) ≤ 1000 := by omega
  have hle1' : ¬ (1000 : Int) < (a1.size : Int) := by omega
  clear hbig
  have hdl := decs_len a0
  have hcl := chars_decs a0
  have hOf := of_any a0 (by omega)
  have hDec := decode_any a0 (by omega)
  unfold DecPost at hDec
  generalize decs a0 = l at *
  have hll : l.length ≤ 1000 := by omega
  have hQ := quote_any l (by omega) hcl
  have hqL := quoteL_len l
  have hRQ := fun v w h => refQuote_any l (by omega) hcl v w h
  have hU := fun W (hB : TabU W) => unq_any ((⟨(quoteL l).toArray⟩ : ByteArray) ++ a1) (by rw [ByteArray.size_append]; show (List.toArray _).size + _ ≤ _; rw [List.size_toArray]; omega) W hB
  have hqs : (⟨(quoteL l).toArray⟩ : ByteArray).size = (quoteL l).length := by show (List.toArray _).size = _; rw [List.size_toArray]
  have hul : unqL ((⟨(quoteL l).toArray⟩ : ByteArray) ++ a1) = (l, (quoteL l).length, 0) := by rw [cat_any]; exact unqL_quote l _ hcl (by omega)
  rw [hul, ← hqs] at hU
  unfold ret3V at hU
  dsimp only at hU
  have hCm := compare_any l l hcl hcl (by omega) (by omega)
  unfold CmpPost at hCm
  rw [cmpL_self] at hCm
  generalize (⟨(quoteL l).toArray⟩ : ByteArray) = qb at *
  have hcat : ¬ 9223372036854775807 < qb.size + a1.size := by omega
  unfold strV at hOf hQ hU hCm
  generalize pk l = dl at *
  generalize wideL l = wl at *
  have HOF := Lib.hid hOf
  have HDEC := Lib.hid hDec
  have HQ := Lib.hid hQ
  have HRQ := Lib.hid hRQ
  have HU := Lib.hid hU
  have HCM := Lib.hid hCm
  have HT := Lib.hid ht
  clear hOf hDec hQ hRQ hU hCm ht hcl hdl hll hqL hqs hul hle hle1
  go_enter Tryd.func3, Tryd.ntmps3
  go_wp2_with fail
  refine (HAW.out _).mono ?_
  rintro e w1 ⟨rfl, hb1⟩
  have HB1 := Lib.hid hb1
  clear hb1
  go_wp2_with fail
  refine (HOF.out _).mono ?_
  rintro e w2 ⟨rfl, hb2⟩
  have HB2 := Lib.hid (below_al (o := .cells #[.string dl, .bool wl] 24) (below_from HB1.out hb2 (Nat.le_refl _)))
  have HX2 := Lib.hid (two_alloc w2 (.string dl) (.bool wl) 24)
  clear hb2 HB1
  obtain ⟨_, x0, x1⟩ := HX2.out
  go_wp2_with fail
  refine (HQ.out _).mono ?_
  rintro e w3 ⟨rfl, hb3⟩
  have HB3 := Lib.hid (below_from HB2.out hb3 (Nat.le_refl _))
  have HX3 := Lib.hid (HX2.out.below hb3)
  clear hb3 HB2 HX2 x0 x1
  go_wp2_with fail
  refine (HU.out _ (HT.out.below HB3.out)).mono ?_
  rintro e w4 ⟨rfl, hb4⟩
  have HB4 := Lib.hid (below_al (o := .cells #[.string dl, .bool wl] 24) (below_from HB3.out hb4 (Nat.le_refl _)))
  have HX4 := Lib.hid ((HX3.out.below hb4).below (below_al (o := .cells #[.string dl, .bool wl] 24) (Below.refl w4.heap.size w4)))
  have HY4 := Lib.hid (two_alloc w4 (.string dl) (.bool wl) 24)
  clear hb4 HB3 HX3
  go_wp2_with fail
  refine (HDEC.out _).mono ?_
  rintro e w6 ⟨v, rfl, hv, hb6⟩
  have HB6 := Lib.hid (below_from HB4.out hb6 (Nat.le_refl _))
  have HX6 := Lib.hid (HX4.out.below hb6)
  have HY6 := Lib.hid (HY4.out.below hb6)
  have HV := Lib.hid hv.at
  clear hb6 HB4 HX4 HY4 hv
  go_wp2_with fail
  refine (HRQ.out _ _ HV.out).mono ?_
  rintro e w7 ⟨rfl, hb7⟩
  have HB7 := Lib.hid (below_from HB6.out hb7 (Nat.le_refl _))
  have HX7 := Lib.hid (HX6.out.below hb7)
  have HY7 := Lib.hid (HY6.out.below hb7)
  clear hb7 HB6 HX6 HY6 HV
  obtain ⟨_, x0, x1⟩ := HX7.out
  obtain ⟨_, y0, y1⟩ := HY7.out
  go_wp2_with fail
  refine (HCM.out _).mono ?_
  rintro e w8 ⟨rfl, hb8⟩
  have HB8 := Lib.hid (below_from HB7.out hb8 (Nat.le_refl _))
  clear x0 x1 y0 y1 hb8
  go_wp2
  go_ret
  exact ⟨rfl, HB8.out⟩

set_option maxRecDepth 100000 in
theorem lifted (os : Os) (started : os.Started) (H : Type) (enc : TypeId × Value → H) :
    ReturnsInHanded {} Tryd.checked os 3 .any (fun w args => (Rows.textQuotesSpec.pre enc Tryd.prog Tryd.f3 [] false w args ∧ laidMetH Tryd.prog laidN w) ∧ sizedMet enc Tryd.prog Tryd.f3 (OpenSpec.ofChange Rows.textQuotesSpec) false w args)
      (Rows.textQuotesSpec.post enc Tryd.prog Tryd.f3 false true false false) := by
  refine returnsInHanded_and_shaped (C := Tryd.checked) (X := fun w _ => laidMetH Tryd.prog laidN w) (fun _ _ _ hh h => h.of_heap hh) own started (by kernel_rfl) Tryd.func3
    (ChangeSpec.witness_shaped (enc := enc) (C := Tryd.checked) (os := os) (X := fun w _ => laidMetH Tryd.prog laidN w) false (World.laidAll Tryd.prog os laidN) #[.string ByteArray.empty, .string ByteArray.empty] 8 (World.laidAll_os _ _ _) (shaped_all os _) (by kernel_rfl) (by kernel_rfl) (by kernel_rfl) (met_all os _)) ?_
  intro W base args ds gs before hval0 hW hL hSh
  have hval : ∀ (j : Nat) t v, Tryd.f3.params[j]? = some t → args[j]? = some v → Value.okWide Tryd.prog W .any base t v := hval0
  have hW' := hW
  obtain ⟨p, q, hA0, hV, rfl, hfz, hnd⟩ := hW
  have hA : DataW.TrodAll enc Tryd.prog W 0 (fun _ => true) true Tryd.f3.params.toList args.toList ds p := hA0
  rw [Tryd.params3] at hA hval
  obtain ⟨v0, vs0, d0, ds0, p0, q0, hargs, rfl, rfl, h0, r0⟩ := trodAll_cons hA
  obtain ⟨v1, vs1, d1, ds1, p1, q1, rfl, rfl, rfl, h1, r1⟩ := trodAll_cons r0
  obtain ⟨rfl, rfl, rfl⟩ := trodAll_nil r1
  obtain rfl : args = #[v0, v1] := by cases args; simp_all
  obtain ⟨rfl, rfl⟩ := trodVars_none hV
  obtain ⟨a0, rfl, rfl, rfl, w0⟩ := open_string Tryd.underlying9 (hval 0 9 v0 rfl rfl) h0
  obtain ⟨a1, rfl, rfl, rfl, w1⟩ := open_string Tryd.underlying9 (hval 1 9 v1 rfl rfl) h1
  clear hA0 hval0
  have ht := of_laid hSh hL
  refine (walk a0 w0 a1 w1 W ht).mono fun e W' ⟨he, bel⟩ => ?_
  subst he
  exact ⟨_, rfl, _, _, _, [], _, [], hW', trodAll_mk1 (shut_bool Tryd.underlying4 _), (trodAll_cons_mk (shut_string Tryd.underlying9 w0) (trodAll_cons_mk (shut_string Tryd.underlying9 w1) trodAll_mk0)), rfl, bel.frame _, fun h => by cases h⟩

set_option maxHeartbeats 16000000 in
set_option maxRecDepth 100000 in
theorem joined : joinedFacts Tryd.prog 3 Tryd.f3 Rows.textQuotesSpec Rows.textQuotesRow = true := by
  unfold joinedFacts
  simp only [Bool.and_eq_true]
  repeat' apply And.intro
  all_goals as_aux_lemma => kernel_rfl
theorem over : Rows.textQuotesRow.holds Tryd.pinned (OpenSpec.ofChange Rows.textQuotesSpec) :=
  OpenClaim.holds_of_wide 3 Tryd.f3 rfl rfl rfl rfl rfl rfl rfl ⟨rfl, rfl, rfl, rfl, rfl⟩ rfl rfl rfl rfl rfl (by kernel_rfl) Tryd.func3 joined
    (of_decide_eq_true (by kernel_rfl)) (by unfold Func.isWrapper; first | (rw [if_pos (by decide +kernel)]; kernel_rfl) | (rw [if_neg (by decide +kernel)]; exact ⟨rfl, rfl⟩))
    (fun os started H enc _ => lifted os started H enc)

theorem card_holds : Rows.TextQuotesCardSaid :=
  Claim7.holds_tied_plain_at .later [] [.data, .pinned] true (true, "e0d32f956efe4eedf389720fb974a17cf7b6010b9b6cb12dc063cf45e59b4206") false
    over (fun _ h => by cases h) (by kernel_rfl) (fun _ h => by cases h) textQuotes_row_tie rfl ⟨rfl, rfl⟩ (by kernel_rfl) rfl
    (fun f fn hf hfn => by
      obtain rfl : f = 3 := Option.some.inj ((show Tryd.prog.funcNamed "acheron/acheronlaw01.TextQuotes" = some 3 by kernel_rfl).symm.trans hf) |>.symm
      obtain rfl : fn = Tryd.f3 := (Option.some.inj (Tryd.func3.symm.trans hfn)).symm
      exact ⟨by kernel_rfl, fun j t ht => by
        rw [Tryd.params3] at ht
        have hm : t ∈ [9] := by have := Array.mem_of_getElem? ht; simp at this ⊢; omega
        have hall : ([9].all fun u => !Tryd.prog.wantsStandIn u) = true := by kernel_rfl
        exact (show Tryd.prog.wantsStandIn t = false by simpa using List.all_eq_true.1 hall t hm)⟩)
    (by kernel_rfl)
end Go.Proofs.YtjpnkffdpcfnjaaDoor.textQuotes

