/-
  For all numbers n and m the law WireNumbers returns true. No condition.
-/
import Derived.Test.YticegfbipdjpfaaDoorRows
import Derived.Test.YticegfbipdjpfaaDoorAwakeW
import Derived.Test.YticegfbipdjpfaaDoorWMath3
import Derived.Test.YticegfbipdjpfaaDoorLaid
import Derived.WalkKit
import Derived.ProofKit
import Derived.OpenShut
import Derived.ShutString
import Derived.ChangeOld
import Derived.SevenTiedAt
import Derived.Test.YticegfbipdjpfaaDoorCards
import Derived.Test.YticegfbipdjpfaaDoorTie
set_option linter.unusedVariables false
namespace Go.Proofs.YticegfbipdjpfaaDoor.wireNumbers
open Go.ChangeShapes Go.WideShapes Go.ChangeAt Go.RowKit

theorem own : ownKnob Tryd.prog.godebug = none := by kernel_rfl

theorem other {w w' : World} {wb wb' B : Nat} {v u u' : Value} {bs : List UInt8} (h : WAt w wb B v bs) (st : WStep w w' wb' u u') (h1 : wb ≠ wb') (h2 : u.ownBlock ≠ some wb) (h3 : v.ownBlock ≠ some wb') (h4 : ∀ k, v.ownBlock = some k → u.ownBlock ≠ some k) : WAt w' wb B v bs := by
  refine ⟨h.hB, (st.block _ h.lt h1 (fun e => h2 e.symm)).trans h.blk, ?_, h.ne⟩
  obtain ⟨hl, hr⟩ := h.own
  refine ⟨hl, ?_⟩
  rcases hr with hn | ⟨g, cap, cur, hv, hg, hc, r⟩
  · exact .inl hn
  · have hlt : g < w.heap.size := lt_of_block hc
    exact .inr ⟨g, cap, cur, hv, hg, (st.block g hlt (fun e => h3 (by rw [hv, e]; rfl)) (fun e => h4 g (by rw [hv]; rfl) e.symm)).trans hc, r⟩

set_option maxHeartbeats 400000 in
theorem refSize_any (n : Int) (w : World) :
    Calls Tryd.prog 29 #[.int .i64 n] w fun e w' => e = .returned (.int .i64 (szN n)) ∧ w = w' := by
  unfold szN
  by_cases h1 : -64 ≤ n ∧ n ≤ 63
  · rw [if_pos h1]
    obtain ⟨h1, h2⟩ := h1
    have d1 : decide (-64 ≤ n) = true := decide_eq_true h1
    go_enter Tryd.func29, Tryd.ntmps29
    go_wp2
    go_ret
    exact ⟨rfl, rfl⟩
  rw [if_neg h1]
  by_cases h2 : -8192 ≤ n ∧ n ≤ 8191
  · rw [if_pos h2]
    go_enter Tryd.func29, Tryd.ntmps29
    go_wp2
    all_goals first | (exfalso; omega) | (go_ret; exact ⟨rfl, rfl⟩)
  rw [if_neg h2]
  by_cases h3 : -268435456 ≤ n ∧ n ≤ 268435455
  · rw [if_pos h3]
    go_enter Tryd.func29, Tryd.ntmps29
    go_wp2
    all_goals first | (exfalso; omega) | (go_ret; exact ⟨rfl, rfl⟩)
  · rw [if_neg h3]
    go_enter Tryd.func29, Tryd.ntmps29
    go_wp2
    all_goals first | (exfalso; omega) | (go_ret; exact ⟨rfl, rfl⟩)


theorem toList_inj (s t : ByteArray) : s.toList = t.toList ↔ s = t := by
  rw [ByteArray.toList_eq, ByteArray.toList_eq]
  constructor
  · intro h
    apply ByteArray.ext
    exact Array.toList_inj.1 h
  · intro h; rw [h]

theorem size_mk (l : List UInt8) : (⟨l.toArray⟩ : ByteArray).size = l.length := by show l.toArray.size = _; simp

set_option maxHeartbeats 4000000 in
set_option maxRecDepth 100000 in
theorem walk (a0 : Int) (a1 : Int) (w0 : (Lit.int .i64 a0).wf = true) (w1 : (Lit.int .i64 a1).wf = true) (w : World) (ht : Tab w) :
    Calls Tryd.prog 8 #[.int .i64 a0, .int .i64 a1] w fun e w' => e = .returned (.bool true) ∧ Below w.heap.size w w' := by
  have hi0 : I64 a0 := by simp [Lit.wf, IntKind.min, IntKind.max, IntKind.signed, IntKind.bits] at w0; unfold I64; omega
  have hi1 : I64 a1 := by simp [Lit.wf, IntKind.min, IntKind.max, IntKind.signed, IntKind.bits] at w1; unfold I64; omega
  have hpos := ht.pos
  have HAW := Lib.hid (awake_any w ht)
  have HT := Lib.hid ht
  have hl0 := encNum_len a0
  have hl1 := encNum_len a1
  have hb0 := szN_bd a0
  have hb1 := szN_bd a1
  clear ht w0 w1
  go_enter Tryd.func8, Tryd.ntmps8
  go_wp2_with fail
  refine HAW.out.mono ?_
  rintro e w1 ⟨rfl, B1⟩
  have HN1 := Lib.hid (newWriter_any w1)
  go_wp2_with fail
  refine HN1.out.mono ?_
  rintro e w2 ⟨rfl, B2, ha⟩
  have HN2 := Lib.hid (newWriter_any w2)
  have ha2 := ha _ B1.size
  have BB2 := B1.trans (B2.mono B1.size)
  have hlt2 := ha2.lt
  clear ha
  go_wp2_with fail
  refine HN2.out.mono ?_
  rintro e w3 ⟨rfl, B3, hb⟩
  have hb3 := hb _ BB2.size
  have ha3 := ha2.below B3
  have BB3 := BB2.trans (B3.mono BB2.size)
  have hlt3 := hb3.lt
  have HNA := Lib.hid (number_any _ _ _ [] a0 (by decide) w3 ha3 (HT.out.below BB3 hpos))
  have HA3 := Lib.hid ha3
  have HB3 := Lib.hid hb3
  have HBB3 := Lib.hid BB3
  have HLT2 := Lib.hid hlt2
  clear hb ha2 ha3 hb3 BB3 B3 BB2 B2 B1 hlt2
  generalize hwa : w1.heap.size = wa at *
  generalize hwb : w2.heap.size = wb at *
  have HWA := Lib.hid hwa
  have HWB := Lib.hid hwb
  clear hwa hwb
  go_wp2_with fail
  refine HNA.out.mono ?_
  rintro e w4 ⟨rfl, vA, ha4, st4⟩
  have hab : wb ≠ wa := by have := HLT2.out; omega
  have hb4 := other HB3.out st4 hab (by simp [Value.ownBlock]) (by simp [Value.ownBlock]) (by simp [Value.ownBlock])
  have BB4 := HBB3.out.trans (st4.toBelow HA3.out)
  have hvb : vA.ownBlock ≠ some wb := by
    rcases st4.lies with e | ⟨g, e, hg⟩
    · rw [e]; simp [Value.ownBlock]
    · rw [e]; intro e'; injection e' with e'; omega
  have HNB := Lib.hid (number_any _ _ _ [] a1 (by decide) w4 hb4 (HT.out.below BB4 hpos))
  have HA4 := Lib.hid ha4
  have HB4 := Lib.hid hb4
  have HBB4 := Lib.hid BB4
  have HVB := Lib.hid hvb
  have HAB := Lib.hid hab
  clear ha4 hb4 BB4 hvb hab st4 hlt3
  go_wp2_with fail
  refine HNB.out.mono ?_
  rintro e w5 ⟨rfl, vB, hb5, st5⟩
  have ha5 := other HA4.out st5 (fun e => HAB.out e.symm) (by simp [Value.ownBlock]) HVB.out (by simp [Value.ownBlock])
  have BB5 := HBB4.out.trans (st5.toBelow HB4.out)
  have HTA := Lib.hid (text_any _ _ _ _ w5 ha5)
  have HTB := Lib.hid (text_any _ _ _ _ w5 hb5)
  have HT5 := HT.out.below BB5 hpos
  have HS0 := Lib.hid (fun w ht => size_any a0 w ht)
  have HS1 := Lib.hid (fun w ht => size_any a1 w ht)
  have HR0 := Lib.hid (fun w => refSize_any a0 w)
  have HBB5 := Lib.hid BB5
  have HTT := Lib.hid HT5
  clear HT5 BB5 hb5 st5 ha5 HA4 HB4 HVB HAB HNB HBB4 HNA HA3 HB3 HBB3 HWA HWB HLT2 HN1 HN2
  simp only [List.nil_append] at HTA HTB
  have hsS := size_mk (encNum a0)
  have hsT := size_mk (encNum a1)
  rw [← hsS] at hl0
  rw [← hsT] at hl1
  have hSe : (⟨(encNum a0).toArray⟩ : ByteArray) = ⟨(encNum a1).toArray⟩ ↔ a0 = a1 := ⟨fun h => encNum_inj hi0 hi1 (by injection h with h; simpa using h), fun h => by rw [h]⟩
  have hPr : (⟨(encNum a1).toArray⟩ : ByteArray).extract 0 (⟨(encNum a0).toArray⟩ : ByteArray).size = ⟨(encNum a0).toArray⟩ → a0 = a1 := fun h => encNum_prefix hi0 hi1 (by
    have := congrArg (fun b : ByteArray => b.data.toList) h
    rw [hsS] at this
    simpa [ByteArray.data_extract] using this)
  have HNE := Lib.hid (szN_near (n := a0) (m := a1))
  generalize (⟨(encNum a0).toArray⟩ : ByteArray) = S at *
  generalize (⟨(encNum a1).toArray⟩ : ByteArray) = T at *
  clear hsS hsT
  have HSE := Lib.hid hSe
  have HPR := Lib.hid hPr
  have HL0 := Lib.hid hl0
  have HL1 := Lib.hid hl1
  clear hSe hPr hl0 hl1 hi0 hi1
  generalize szN a0 = z0 at *
  generalize szN a1 = z1 at *
  go_wp2_with fail
  refine HTA.out.mono ?_
  rintro e w5' ⟨rfl, rfl⟩
  go_wp2_with fail
  refine HTB.out.mono ?_
  rintro e w5' ⟨rfl, rfl⟩
  go_wp2_with fail
  refine (HS0.out _ HTT.out).mono ?_
  rintro e w6 ⟨rfl, B6⟩
  have HB6 := Lib.hid (HBB5.out.trans (B6.mono HBB5.out.size))
  have HT6 := Lib.hid (HT.out.below HB6.out hpos)
  have l0 : (S.size : Int) = z0 := HL0.out
  have l1 : (T.size : Int) = z1 := HL1.out
  clear B6
  go_wp2_with fail
  refine (HS1.out _ HT6.out).mono ?_
  rintro e w7 ⟨rfl, B7⟩
  have HB7 := Lib.hid (HB6.out.trans (B7.mono HB6.out.size))
  have HT7 := Lib.hid (HT.out.below HB7.out hpos)
  clear B7
  go_wp2_with fail
  refine (HS0.out _ HT7.out).mono ?_
  rintro e w8 ⟨rfl, B8⟩
  have HB8 := Lib.hid (HB7.out.trans (B8.mono HB7.out.size))
  clear B8
  go_wp2_with fail
  refine (HR0.out _).mono ?_
  rintro e w9 ⟨rfl, rfl⟩
  have hst : (S.toList == T.toList) = (a0 == a1) := by
    rw [Bool.eq_iff_iff, beq_iff_eq, beq_iff_eq, toList_inj]
    exact HSE.out
  have hpx : a0 = a1 ∨ ((T.extract 0 z0.toNat).toList == S.toList) = false := by
    by_cases hq : a0 = a1
    · exact .inl hq
    · right
      rw [beq_eq_false_iff_ne]
      intro h
      rw [toList_inj] at h
      exact hq (HPR.out (by rw [show S.size = z0.toNat by omega]; exact h))
  have HN2 : Hid (z0 < z1 → (a0 < 0 ↔ a1 < 0) → (0 ≤ a0 → a0 < a1) ∧ (a0 < 0 → a1 < a0)) := fun h hs => HNE.out h (propext hs)
  rcases hpx with rfl | hpx
  · go_wp2
    all_goals
      go_ret
      first
        | exact ⟨rfl, HB8.out⟩
        | (exfalso; have := HN2.out (by omega) (by first | trivial | omega); omega)
  · go_wp2
    all_goals
      go_ret
      first
        | exact ⟨rfl, HB8.out⟩
        | (exfalso; have := HN2.out (by omega) (by omega); omega)
        | (refine ⟨ret_bool (decide_eq_true ?_), HB8.out⟩; have := HN2.out (by omega) (by omega); omega)

set_option maxRecDepth 100000 in
theorem lifted (os : Os) (started : os.Started) (H : Type) (enc : TypeId × Value → H) :
    ReturnsInHanded {} Tryd.checked os 8 .any (fun w args => (Rows.wireNumbersSpec.pre enc Tryd.prog Tryd.f8 [] false w args ∧ laidMetH Tryd.prog laid1 w) ∧ sizedMet enc Tryd.prog Tryd.f8 (OpenSpec.ofChange Rows.wireNumbersSpec) false w args)
      (Rows.wireNumbersSpec.post enc Tryd.prog Tryd.f8 false true false false) := by
  refine returnsInHanded_of_change_and (C := Tryd.checked) (X := fun w _ => laidMetH Tryd.prog laid1 w) (fun _ _ _ hh h => h.of_heap hh) own started (by kernel_rfl) Tryd.func8
    (ChangeSpec.witness_shaped (enc := enc) (C := Tryd.checked) (os := os) (X := fun w _ => laidMetH Tryd.prog laid1 w) false (World.doorLaid Tryd.prog 400 os) #[.int .i64 0, .int .i64 0] 8 rfl (World.shaped_of_RefB (by kernel_rfl) (by kernel_rfl)) (by kernel_rfl) (by kernel_rfl) (by kernel_rfl) (door_met os _)) ?_
  intro W base args ds gs before hval0 hW _ _ hL _
  have hval : ∀ (j : Nat) t v, Tryd.f8.params[j]? = some t → args[j]? = some v → Value.okWide Tryd.prog W .any base t v := hval0
  have hW' := hW
  obtain ⟨p, q, hA0, hV, rfl, hfz, hnd⟩ := hW
  have hA : DataW.TrodAll enc Tryd.prog W 0 (fun _ => true) true Tryd.f8.params.toList args.toList ds p := hA0
  rw [Tryd.params8] at hA hval
  obtain ⟨v0, vs0, d0, ds0, p0, q0, hargs, rfl, rfl, h0, r0⟩ := trodAll_cons hA
  obtain ⟨v1, vs1, d1, ds1, p1, q1, rfl, rfl, rfl, h1, r1⟩ := trodAll_cons r0
  obtain ⟨rfl, rfl, rfl⟩ := trodAll_nil r1
  obtain rfl : args = #[v0, v1] := by cases args; simp_all
  obtain ⟨rfl, rfl⟩ := trodVars_none hV
  obtain ⟨a0, rfl, rfl, rfl, w0⟩ := open_int Tryd.underlying2 (hval 0 2 v0 rfl rfl) h0
  obtain ⟨a1, rfl, rfl, rfl, w1⟩ := open_int Tryd.underlying2 (hval 1 2 v1 rfl rfl) h1
  clear hA0 hval0
  refine (walk a0 a1 w0 w1 W (of_laid hL)).mono fun e W' ⟨he, bel⟩ => ?_
  subst he
  exact ⟨_, rfl, _, _, _, [], _, [], hW', (trodAll_cons_mk (shut_bool Tryd.underlying4 _) trodAll_mk0), (trodAll_cons_mk (shut_int Tryd.underlying2 w0) (trodAll_cons_mk (shut_int Tryd.underlying2 w1) trodAll_mk0)), rfl, bel.frame _, fun h => by cases h⟩

theorem over : Rows.wireNumbersRow.holds Tryd.pinned (OpenSpec.ofChange Rows.wireNumbersSpec) :=
  OpenClaim.holds_of_wide 8 Tryd.f8 rfl rfl rfl rfl rfl rfl rfl ⟨rfl, rfl, rfl, rfl, rfl⟩ rfl rfl rfl rfl rfl (by kernel_rfl) Tryd.func8 (by kernel_rfl)
    (of_decide_eq_true (by kernel_rfl)) (by unfold Func.isWrapper; first | (rw [if_pos (by decide +kernel)]; kernel_rfl) | (rw [if_neg (by decide +kernel)]; exact ⟨rfl, rfl⟩))
    (fun os started H enc _ => lifted os started H enc)

theorem card_holds : Rows.WireNumbersCardSaid :=
  Claim7.holds_tied_plain_at .later [] [.data] true (true, "1e96a78fc00194934d42a12a0dbef2585bede4f87d841dcadeaee66c04a8f023") false
    over (fun _ h => by cases h) (by kernel_rfl) (fun _ h => by cases h) wireNumbers_row_tie rfl ⟨rfl, rfl⟩ (by kernel_rfl) rfl
    (fun f fn hf hfn => by
      obtain rfl : f = 8 := Option.some.inj ((show Tryd.prog.funcNamed "acheron/acheronlaw02.WireNumbers" = some 8 by kernel_rfl).symm.trans hf) |>.symm
      obtain rfl : fn = Tryd.f8 := (Option.some.inj (Tryd.func8.symm.trans hfn)).symm
      exact ⟨by kernel_rfl, fun j t ht => by
        rw [Tryd.params8] at ht
        have hm : t ∈ [2] := by have := Array.mem_of_getElem? ht; simp at this ⊢; omega
        have hall : ([2].all fun u => !Tryd.prog.wantsStandIn u) = true := by kernel_rfl
        exact (show Tryd.prog.wantsStandIn t = false by simpa using List.all_eq_true.1 hall t hm)⟩)
    (by kernel_rfl)
end Go.Proofs.YticegfbipdjpfaaDoor.wireNumbers

