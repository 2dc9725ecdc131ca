/-
  For all strings s and t the law DigestHexes returns true. No condition.
-/
import Derived.Test.YtoddihpknafnpaaDoorRows
import Derived.Test.YtoddihpknafnpaaDoorAwake
import Derived.Test.YtoddihpknafnpaaDoorRefUnhex
import Derived.Test.YtoddihpknafnpaaDoorLaidD
import Derived.WalkKit
import Derived.ProofKit
import Derived.OpenShut
import Derived.ShutString
import Derived.ChangeOld
import Derived.Carry
import Derived.SevenTiedAt
import Derived.Test.YtoddihpknafnpaaDoorCards
import Derived.Test.YtoddihpknafnpaaDoorTie
set_option linter.unusedVariables false
namespace Go.Proofs.YtoddihpknafnpaaDoor.digestHexes
open Go.ChangeShapes Go.WideShapes Go.ChangeAt Go.RowKit
open Go.ChangeMaps (open_string shut_string)

theorem own : ownKnob Tryd.prog.godebug = none := by kernel_rfl

set_option maxHeartbeats 4000000 in
set_option maxRecDepth 100000 in
theorem walk (s t : ByteArray) (w : World) (ht : TabD w) :
    Calls Tryd.prog 4 #[.string s, .string t] w fun e w' => e = .returned (.bool true) ∧ Below w.heap.size w w' := by
  have HT := Lib.hid ht
  have HAW := Lib.hid (awake_any w ht)
  clear ht
  by_cases hs : s.size ≤ 1000
  case neg =>
    have i1 : (1000 : Int) < (s.size : Int) := by omega
    go_enter Tryd.func4, Tryd.ntmps4
    go_wp2_with fail
    refine HAW.out.mono ?_
    rintro e w1 ⟨rfl, hb⟩
    have HB1 := Lib.hid hb
    clear hb
    go_wp2_with fail
    go_ret
    exact ⟨rfl, HB1.out⟩
  by_cases hT : t.size ≤ 1000
  case neg =>
    have i0 : ¬ (1000 : Int) < (s.size : Int) := by omega
    have i1 : (1000 : Int) < (t.size : Int) := by omega
    go_enter Tryd.func4, Tryd.ntmps4
    go_wp2_with fail
    refine HAW.out.mono ?_
    rintro e w1 ⟨rfl, hb⟩
    have HB1 := Lib.hid hb
    clear hb
    go_wp2_with fail
    go_ret
    exact ⟨rfl, HB1.out⟩
  have i0 : ¬ (1000 : Int) < (s.size : Int) := by omega
  have i1 : ¬ (1000 : Int) < (t.size : Int) := by omega
  obtain ⟨x, hx⟩ : ∃ x, x = strL (hexL s.data.toList) := ⟨_, rfl⟩
  have hxs : x.size ≤ 2000 := by rw [hx, strL_size, hexL_len]; simp; omega
  have HH := Lib.hid (fun w => hex_any s (by omega) w)
  have HRH := Lib.hid (fun w => refHex_any s (by omega) w)
  rw [← hx] at HH HRH
  have HU1 : Hid (∀ w, Calls Tryd.prog 17 #[.string x] w fun e w' => e = .returned (.tuple #[.string s, .int .i64 0]) ∧ Below w.heap.size w w') := Lib.hid (fun w => (unhex_any x (by omega) w).mono fun e w' ⟨y, n, he, hr, hb⟩ => by
    have hr' : unhexR (hexL s.data.toList) y n := by rw [hx, strL_data] at hr; exact hr
    obtain ⟨h1, h2⟩ := hex_back hr'
    refine ⟨?_, hb⟩
    rw [he, h1, h2, ← strL_of (t := s) rfl])
  have HU2 := Lib.hid (fun w => unhex_any t (by omega) w)
  have HU3 := Lib.hid (fun w => refUnhex_any t (by omega) w)
  clear hx
  go_enter Tryd.func4, Tryd.ntmps4
  go_wp2_with fail
  refine HAW.out.mono ?_
  rintro e w1 ⟨rfl, hb⟩
  have HB1 := Lib.hid hb
  clear hb
  go_wp2_with fail
  refine (HH.out _).mono ?_
  rintro e w2 ⟨rfl, hb⟩
  have HB2 := Lib.hid (HB1.out.trans (hb.mono HB1.out.size))
  clear hb
  go_wp2_with fail
  refine (HU1.out _).mono ?_
  rintro e w3 ⟨rfl, hb⟩
  have HB3 := Lib.hid (HB2.out.trans (hb.mono HB2.out.size))
  clear hb
  go_wp2_with fail
  refine (HU2.out _).mono ?_
  rintro e w4 ⟨y, n, rfl, hr, hb⟩
  have HB4 := Lib.hid (HB3.out.trans (hb.mono HB3.out.size))
  have HR := Lib.hid hr
  clear hb hr
  go_wp2_with fail
  refine (HU3.out _).mono ?_
  rintro e w5 ⟨y', n', rfl, hr, hb⟩
  have HB5 := Lib.hid (HB4.out.trans (hb.mono HB4.out.size))
  obtain ⟨rfl, rfl⟩ := unhexR_same hr HR.out
  have HR := Lib.hid hr
  clear hb hr
  have hys : y'.size ≤ 1000 := by
    rcases HR.out with ⟨_, h, _⟩ | ⟨_, _, h, _⟩ | ⟨_, _, h, _⟩
    · rw [h]; decide
    · rw [h]; decide
    · rw [h, strL_size, pairsL_len]; simp; omega
  have HH2 := Lib.hid (fun w => hex_any y' (by omega) w)
  go_wp2_with fail
  refine (HH.out _).mono ?_
  rintro e w6 ⟨rfl, hb⟩
  have HB6 := Lib.hid (HB5.out.trans (hb.mono HB5.out.size))
  clear hb
  go_wp2_with fail
  refine (HRH.out _).mono ?_
  rintro e w7 ⟨rfl, hb⟩
  have HB7 := Lib.hid (HB6.out.trans (hb.mono HB6.out.size))
  clear hb
  by_cases hn : n' = 0
  · have hback : Hid (strL (hexL y'.data.toList) = t) := Lib.hid (by rw [unhex_back HR.out hn]; exact (strL_of rfl).symm)
    rw [hback.out] at HH2
    subst hn
    go_wp2_with fail
    refine (HH2.out _).mono ?_
    rintro e w8 ⟨rfl, hb⟩
    have HB8 := Lib.hid (HB7.out.trans (hb.mono HB7.out.size))
    clear hb
    go_wp2_with fail
    go_ret
    exact ⟨rfl, HB8.out⟩
  · have hnb : (n' == 0) = false := by simpa using hn
    have hnb2 : (n' != 0) = true := by simpa using hn
    go_wp2_with fail
    go_ret
    exact ⟨rfl, HB7.out⟩

set_option maxRecDepth 100000 in
theorem lifted (os : Os) (started : os.Started) (H : Type) (enc : TypeId × Value → H) :
    ReturnsInHanded {} Tryd.checked os 4 .any (fun w args => (Rows.digestHexesSpec.pre enc Tryd.prog Tryd.f4 [] false w args ∧ laidMetH Tryd.prog laid2 w) ∧ sizedMet enc Tryd.prog Tryd.f4 (OpenSpec.ofChange Rows.digestHexesSpec) false w args)
      (Rows.digestHexesSpec.post enc Tryd.prog Tryd.f4 false true false false) := by
  refine returnsInHanded_of_change_and (C := Tryd.checked) (X := fun w _ => laidMetH Tryd.prog laid2 w) (fun _ _ _ hh h => h.of_heap hh) own started (by kernel_rfl) Tryd.func4
    (ChangeSpec.witness_shaped (enc := enc) (C := Tryd.checked) (os := os) (X := fun w _ => laidMetH Tryd.prog laid2 w) false (World.doorLaid Tryd.prog 400 os) #[.string ByteArray.empty, .string ByteArray.empty] 8 rfl (World.shaped_of_RefB (by kernel_rfl) (by kernel_rfl)) (by kernel_rfl) (by kernel_rfl) (by kernel_rfl) (door_met os _)) ?_
  intro W base args ds gs before hval0 hW _ _ hL _
  have hval : ∀ (j : Nat) t v, Tryd.f4.params[j]? = some t → args[j]? = some v → Value.okWide Tryd.prog W .any base t v := hval0
  have hW' := hW
  obtain ⟨p, q, hA0, hV, rfl, hfz, hnd⟩ := hW
  have hA : DataW.TrodAll enc Tryd.prog W 0 (fun _ => true) true Tryd.f4.params.toList args.toList ds p := hA0
  rw [Tryd.params4] at hA hval
  obtain ⟨v0, vs0, d0, ds0, p0, q0, hargs, rfl, rfl, h0, r0⟩ := trodAll_cons hA
  obtain ⟨v1, vs1, d1, ds1, p1, q1, rfl, rfl, rfl, h1, r1⟩ := trodAll_cons r0
  obtain ⟨rfl, rfl, rfl⟩ := trodAll_nil r1
  obtain rfl : args = #[v0, v1] := by cases args; simp_all
  obtain ⟨rfl, rfl⟩ := trodVars_none hV
  obtain ⟨a0, rfl, rfl, rfl, w0⟩ := open_string Tryd.underlying9 (hval 0 9 v0 rfl rfl) h0
  obtain ⟨a1, rfl, rfl, rfl, w1⟩ := open_string Tryd.underlying9 (hval 1 9 v1 rfl rfl) h1
  clear hA0 hval0
  have ht := of_laid hL
  refine (walk a0 a1 W ht).mono fun e W' ⟨he, bel⟩ => ?_
  subst he
  exact ⟨_, rfl, _, _, _, [], _, [], hW', trodAll_mk1 (shut_bool Tryd.underlying4 _), (trodAll_cons_mk (shut_string Tryd.underlying9 w0) (trodAll_cons_mk (shut_string Tryd.underlying9 w1) trodAll_mk0)), rfl, bel.frame _, fun h => by cases h⟩

theorem over : Rows.digestHexesRow.holds Tryd.pinned (OpenSpec.ofChange Rows.digestHexesSpec) :=
  OpenClaim.holds_of_wide 4 Tryd.f4 rfl rfl rfl rfl rfl rfl rfl ⟨rfl, rfl, rfl, rfl, rfl⟩ rfl rfl rfl rfl rfl (by kernel_rfl) Tryd.func4 (by kernel_rfl)
    (of_decide_eq_true (by kernel_rfl)) (by unfold Func.isWrapper; first | (rw [if_pos (by decide +kernel)]; kernel_rfl) | (rw [if_neg (by decide +kernel)]; exact ⟨rfl, rfl⟩))
    (fun os started H enc _ => lifted os started H enc)

theorem card_holds : Rows.DigestHexesCardSaid :=
  Claim7.holds_tied_plain_at .later [] [.data, .data] true (true, "8c260326cb8ce36d986a9977b984088357d89190d852a59f516cd170735cb484") false
    over (fun _ h => by cases h) (by kernel_rfl) (fun _ h => by cases h) digestHexes_row_tie rfl ⟨rfl, rfl⟩ (by kernel_rfl) rfl
    (fun f fn hf hfn => by
      obtain rfl : f = 4 := Option.some.inj ((show Tryd.prog.funcNamed "acheron/acheronlaw03.DigestHexes" = some 4 by kernel_rfl).symm.trans hf) |>.symm
      obtain rfl : fn = Tryd.f4 := (Option.some.inj (Tryd.func4.symm.trans hfn)).symm
      exact ⟨by kernel_rfl, fun j t ht => by
        rw [Tryd.params4] at ht
        have hm : t ∈ [9] := by have := Array.mem_of_getElem? ht; simp at this ⊢; omega
        have hall : ([9].all fun u => !Tryd.prog.wantsStandIn u) = true := by kernel_rfl
        exact (show Tryd.prog.wantsStandIn t = false by simpa using List.all_eq_true.1 hall t hm)⟩)
    (by kernel_rfl)
end Go.Proofs.YtoddihpknafnpaaDoor.digestHexes

