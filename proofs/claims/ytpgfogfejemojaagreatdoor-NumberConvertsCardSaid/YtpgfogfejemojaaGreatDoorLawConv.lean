/-
  For all kinds and all numbers the law NumberConverts returns true. No condition.
-/
import Derived.Test.YtpgfogfejemojaaGreatDoorRows
import Derived.Test.YtpgfogfejemojaaGreatDoorAwakeN
import Derived.Test.YtpgfogfejemojaaGreatDoorWrapA
import Derived.Test.YtpgfogfejemojaaGreatDoorRef1
import Derived.Test.YtpgfogfejemojaaGreatDoorLaidN
import Derived.Test.YtpgfogfejemojaaGreatDoorCv
import Derived.Test.YtpgfogfejemojaaGreatDoorCvR
import Derived.Test.YtpgfogfejemojaaGreatDoorRefCv
import Derived.Test.YtpgfogfejemojaaGreatDoorRefCvR
import Derived.WalkKit
import Derived.ProofKit
import Derived.OpenShut
import Derived.ShutString
import Derived.ChangeOld
import Derived.Carry
import Derived.SevenTiedAt
import Derived.Test.YtpgfogfejemojaaGreatDoorCards
import Derived.Test.YtpgfogfejemojaaGreatDoorTie
set_option linter.unusedVariables false
namespace Go.Proofs.YtpgfogfejemojaaGreatDoor.numberConverts
open Go.ChangeShapes Go.WideShapes Go.ChangeAt Go.RowKit

theorem own : ownKnob Tryz.prog.godebug = none := by kernel_rfl

set_option maxRecDepth 100000 in
theorem good_walk (f t n v : Int)
    (hC : ∀ w, Calls Tryz.prog 28 #[.int .i64 f, .int .i64 t, .int .i64 n] w fun e w' => e = .returned (.tuple #[.int .i64 v, .int .i64 0]) ∧ Below w.heap.size w w')
    (hR : ∀ w, Calls Tryz.prog 29 #[.int .i64 f, .int .i64 t, .int .i64 n] w fun e w' => e = .returned (.int .i64 v) ∧ w = w')
    (hf : kindB f = true) (hk : kindB t = true) (w : World) (ht : TabN w) :
    Calls Tryz.prog 6 #[.int .i64 f, .int .i64 t, .int .i64 n] w fun e w' => e = .returned (.bool true) ∧ Below w.heap.size w w' := by
  have HT := Lib.hid ht
  have HC := Lib.hid hC
  have HR := Lib.hid hR
  have HK1 := Lib.hid (fun w => refKind_yes f hf w)
  have HK2 := Lib.hid (fun w => refKind_yes t hk w)
  clear ht hC hR hf hk
  go_enter Tryz.func6, Tryz.ntmps6
  go_wp2_with fail
  refine (HC.out _).mono ?_
  rintro e w1 ⟨rfl, hb⟩
  have HB1 := Lib.hid hb
  clear hb
  go_wp2_with fail
  refine (HK1.out _).mono ?_
  rintro e w2 ⟨rfl, rfl⟩
  go_wp2_with fail
  refine (HK2.out _).mono ?_
  rintro e w3 ⟨rfl, rfl⟩
  go_wp2_with fail
  refine (awake_any _ (HT.out.below HB1.out)).mono ?_
  rintro e w4 ⟨rfl, hb⟩
  have HB4 := Lib.hid (HB1.out.trans (hb.mono HB1.out.size))
  clear hb
  go_wp2_with fail
  refine (HR.out _).mono ?_
  rintro e w5 ⟨rfl, rfl⟩
  go_wp2_with fail
  go_ret
  exact ⟨rfl, HB4.out⟩
set_option maxRecDepth 100000 in
theorem bad_walk1 (f t n : Int) (hf : kindB f = false) (w : World) (ht : TabN w) :
    Calls Tryz.prog 6 #[.int .i64 f, .int .i64 t, .int .i64 n] w fun e w' => e = .returned (.bool true) ∧ Below w.heap.size w w' := by
  have HT := Lib.hid ht
  have HC := Lib.hid (fun w => Convert_no f t n hf w)
  have HK1 := Lib.hid (fun w => refKind_no f hf w)
  clear ht hf
  go_enter Tryz.func6, Tryz.ntmps6
  go_wp2_with fail
  refine (HC.out _).mono ?_
  rintro e w1 ⟨rfl, hb⟩
  have HB1 := Lib.hid hb
  clear hb
  go_wp2_with fail
  refine (HK1.out _).mono ?_
  rintro e w2 ⟨rfl, rfl⟩
  go_wp2_with fail
  refine (awake_any _ (HT.out.below HB1.out)).mono ?_
  rintro e w4 ⟨rfl, hb⟩
  have HB4 := Lib.hid (HB1.out.trans (hb.mono HB1.out.size))
  clear hb
  go_wp2_with fail
  go_ret
  exact ⟨rfl, HB4.out⟩
set_option maxRecDepth 100000 in
theorem bad_walk2 (f t n : Int)
    (hC : ∀ w, Calls Tryz.prog 28 #[.int .i64 f, .int .i64 t, .int .i64 n] w fun e w' => e = .returned (.tuple #[.int .i64 0, .int .i64 13]) ∧ Below w.heap.size w w')
    (hf : kindB f = true) (hk : kindB t = false) (w : World) (ht : TabN w) :
    Calls Tryz.prog 6 #[.int .i64 f, .int .i64 t, .int .i64 n] w fun e w' => e = .returned (.bool true) ∧ Below w.heap.size w w' := by
  have HT := Lib.hid ht
  have HC := Lib.hid hC
  have HK1 := Lib.hid (fun w => refKind_yes f hf w)
  have HK2 := Lib.hid (fun w => refKind_no t hk w)
  clear ht hf hk hC
  go_enter Tryz.func6, Tryz.ntmps6
  go_wp2_with fail
  refine (HC.out _).mono ?_
  rintro e w1 ⟨rfl, hb⟩
  have HB1 := Lib.hid hb
  clear hb
  go_wp2_with fail
  refine (HK1.out _).mono ?_
  rintro e w2 ⟨rfl, rfl⟩
  go_wp2_with fail
  refine (HK2.out _).mono ?_
  rintro e w3 ⟨rfl, rfl⟩
  go_wp2_with fail
  refine (awake_any _ (HT.out.below HB1.out)).mono ?_
  rintro e w4 ⟨rfl, hb⟩
  have HB4 := Lib.hid (HB1.out.trans (hb.mono HB1.out.size))
  clear hb
  go_wp2_with fail
  go_ret
  exact ⟨rfl, HB4.out⟩
theorem i64_of {n : Int} (h : (Lit.int .i64 n).wf = true) : -9223372036854775808 ≤ n ∧ n ≤ 9223372036854775807 := by
  simp [Lit.wf, IntKind.min, IntKind.max, IntKind.signed, IntKind.bits] at h; omega
theorem walk (f : Int) (w0 : (Lit.int .i64 f).wf = true) (t : Int) (w1 : (Lit.int .i64 t).wf = true) (n : Int) (w2 : (Lit.int .i64 n).wf = true) (w : World) (ht : TabN w) :
    Calls Tryz.prog 6 #[.int .i64 f, .int .i64 t, .int .i64 n] w fun e w' => e = .returned (.bool true) ∧ Below w.heap.size w w' := by
  obtain ⟨h0, h1⟩ := i64_of w2
  rcases Bool.eq_false_or_eq_true (kindB f) with hf | hf
  · rcases Bool.eq_false_or_eq_true (kindB t) with hk | hk
    · have hf' := hf
      have hk' := hk
      simp only [kindB, decide_eq_true_eq] at hf' hk'
      rcases (by omega : f = 1 ∨ f = 2 ∨ f = 3 ∨ f = 4) with rfl | rfl | rfl | rfl <;> rcases (by omega : t = 1 ∨ t = 2 ∨ t = 3 ∨ t = 4) with rfl | rfl | rfl | rfl
      · exact good_walk 1 1 n _ (fun w => cv1_1 n w) (fun w => refCv_ints 1 1 n _ _ rfl rfl (fun w => refWrap1 n w) (fun w => refWrap1 _ w) w) hf hk w ht
      · exact good_walk 1 2 n _ (fun w => cv1_2 n w) (fun w => refCv_ints 1 2 n _ _ rfl rfl (fun w => refWrap1 n w) (fun w => refWrap2 _ w) w) hf hk w ht
      · exact good_walk 1 3 n _ (fun w => cv1_3 n w) (fun w => refCv_ints 1 3 n _ _ rfl rfl (fun w => refWrap1 n w) (fun w => refWrap3 _ w) w) hf hk w ht
      · exact good_walk 1 4 n _ (fun w => by have h := cv1_4 n w; rw [cvReal_eq] at h; exact h) (fun w => refCv_real 1 n _ rfl (fun w => refWrap1 n w) w) hf hk w ht
      · exact good_walk 2 1 n _ (fun w => cv2_1 n w) (fun w => refCv_ints 2 1 n _ _ rfl rfl (fun w => refWrap2 n w) (fun w => refWrap1 _ w) w) hf hk w ht
      · exact good_walk 2 2 n _ (fun w => cv2_2 n w) (fun w => refCv_ints 2 2 n _ _ rfl rfl (fun w => refWrap2 n w) (fun w => refWrap2 _ w) w) hf hk w ht
      · exact good_walk 2 3 n _ (fun w => cv2_3 n w) (fun w => refCv_ints 2 3 n _ _ rfl rfl (fun w => refWrap2 n w) (fun w => refWrap3 _ w) w) hf hk w ht
      · exact good_walk 2 4 n _ (fun w => by have h := cv2_4 n w; rw [cvReal_eq] at h; exact h) (fun w => refCv_real 2 n _ rfl (fun w => refWrap2 n w) w) hf hk w ht
      · exact good_walk 3 1 n _ (fun w => cv3_1 n w) (fun w => refCv_ints 3 1 n _ _ rfl rfl (fun w => refWrap3 n w) (fun w => refWrap1 _ w) w) hf hk w ht
      · exact good_walk 3 2 n _ (fun w => cv3_2 n w) (fun w => refCv_ints 3 2 n _ _ rfl rfl (fun w => refWrap3 n w) (fun w => refWrap2 _ w) w) hf hk w ht
      · exact good_walk 3 3 n _ (fun w => cv3_3 n w) (fun w => refCv_ints 3 3 n _ _ rfl rfl (fun w => refWrap3 n w) (fun w => refWrap3 _ w) w) hf hk w ht
      · exact good_walk 3 4 n _ (fun w => by have h := cv3_4 n w; rw [cvReal_eq] at h; exact h) (fun w => refCv_real 3 n _ rfl (fun w => refWrap3 n w) w) hf hk w ht
      · exact good_walk 4 1 n _ (fun w => cv4_1 n w) (fun w => refCvR1 n h0 h1 w) hf hk w ht
      · exact good_walk 4 2 n _ (fun w => by have h := cv4_2 n w; rw [wrap32_near] at h; exact h) (fun w => refCvR2 n h0 h1 w) hf hk w ht
      · exact good_walk 4 3 n _ (fun w => cv4_3 n w) (fun w => refCvR3 n h0 h1 w) hf hk w ht
      · exact good_walk 4 4 n _ (fun w => by have h := cv4_4 n w; rw [cvReals_eq] at h; exact h) (fun w => refCv_reals n h0 h1 w) hf hk w ht
    · have hf' := hf
      simp only [kindB, decide_eq_true_eq] at hf'
      rcases (by omega : f = 1 ∨ f = 2 ∨ f = 3 ∨ f = 4) with rfl | rfl | rfl | rfl
      · exact bad_walk2 1 t n (fun w => cv1_no t n hk w) hf hk w ht
      · exact bad_walk2 2 t n (fun w => cv2_no t n hk w) hf hk w ht
      · exact bad_walk2 3 t n (fun w => cv3_no t n hk w) hf hk w ht
      · exact bad_walk2 4 t n (fun w => cv4_no t n hk w) hf hk w ht
  · exact bad_walk1 f t n hf w ht

set_option maxRecDepth 100000 in
theorem lifted (os : Os) (started : os.Started) (H : Type) (enc : TypeId × Value → H) :
    ReturnsInHanded {} Tryz.checked os 6 .any (fun w args => (Rows.numberConvertsSpec.pre enc Tryz.prog Tryz.f6 [] false w args ∧ laidMetH Tryz.prog laidN w) ∧ sizedMet enc Tryz.prog Tryz.f6 (OpenSpec.ofChange Rows.numberConvertsSpec) false w args)
      (Rows.numberConvertsSpec.post enc Tryz.prog Tryz.f6 false true false false) := by
  refine returnsInHanded_and_shaped (C := Tryz.checked) (X := fun w _ => laidMetH Tryz.prog laidN w) (fun _ _ _ hh h => h.of_heap hh) own started (by kernel_rfl) Tryz.func6
    (ChangeSpec.witness_shaped (enc := enc) (C := Tryz.checked) (os := os) (X := fun w _ => laidMetH Tryz.prog laidN w) false (World.laidAll Tryz.prog os laidN) #[.int .i64 0, .int .i64 0, .int .i64 0] 8 (World.laidAll_os _ _ _) (shaped_all os _) (by kernel_rfl) (by kernel_rfl) (by kernel_rfl) (met_all os _)) ?_
  intro W base args ds gs before hval0 hW hL hSh
  have hval : ∀ (j : Nat) t v, Tryz.f6.params[j]? = some t → args[j]? = some v → Value.okWide Tryz.prog W .any base t v := hval0
  have hW' := hW
  obtain ⟨p, q, hA0, hV, rfl, hfz, hnd⟩ := hW
  have hA : DataW.TrodAll enc Tryz.prog W 0 (fun _ => true) true Tryz.f6.params.toList args.toList ds p := hA0
  rw [Tryz.params6] at hA hval
  obtain ⟨v0, vs0, d0, ds0, p0, q0, hargs, rfl, rfl, h0, r0⟩ := trodAll_cons hA
  obtain ⟨v1, vs1, d1, ds1, p1, q1, rfl, rfl, rfl, h1, r1⟩ := trodAll_cons r0
  obtain ⟨v2, vs2, d2, ds2, p2, q2, rfl, rfl, rfl, h2, r2⟩ := trodAll_cons r1
  obtain ⟨rfl, rfl, rfl⟩ := trodAll_nil r2
  obtain rfl : args = #[v0, v1, v2] := by cases args; simp_all
  obtain ⟨rfl, rfl⟩ := trodVars_none hV
  obtain ⟨a0, rfl, rfl, rfl, w0⟩ := open_int Tryz.underlying3 (hval 0 3 v0 rfl rfl) h0
  obtain ⟨a1, rfl, rfl, rfl, w1⟩ := open_int Tryz.underlying3 (hval 1 3 v1 rfl rfl) h1
  obtain ⟨a2, rfl, rfl, rfl, w2⟩ := open_int Tryz.underlying2 (hval 2 2 v2 rfl rfl) h2
  clear hA0 hval0
  have ht := of_laid hSh hL
  refine (walk a0 w0 a1 w1 a2 w2 W ht).mono fun e W' ⟨he, bel⟩ => ?_
  subst he
  exact ⟨_, rfl, _, _, _, [], _, [], hW', trodAll_mk1 (shut_bool Tryz.underlying4 _), (trodAll_cons_mk (shut_int Tryz.underlying3 w0) (trodAll_cons_mk (shut_int Tryz.underlying3 w1) (trodAll_cons_mk (shut_int Tryz.underlying2 w2) trodAll_mk0))), rfl, bel.frame _, fun h => by cases h⟩

set_option maxHeartbeats 16000000 in
set_option maxRecDepth 100000 in
theorem joined : joinedFacts Tryz.prog 6 Tryz.f6 Rows.numberConvertsSpec Rows.numberConvertsRow = true := by
  unfold joinedFacts
  simp only [Bool.and_eq_true]
  repeat' apply And.intro
  all_goals as_aux_lemma => kernel_rfl
theorem over : Rows.numberConvertsRow.holds Tryz.pinned (OpenSpec.ofChange Rows.numberConvertsSpec) :=
  OpenClaim.holds_of_wide 6 Tryz.f6 rfl rfl rfl rfl rfl rfl rfl ⟨rfl, rfl, rfl, rfl, rfl⟩ rfl rfl rfl rfl rfl (by kernel_rfl) Tryz.func6 joined
    (of_decide_eq_true (by kernel_rfl)) (by unfold Func.isWrapper; first | (rw [if_pos (by decide +kernel)]; kernel_rfl) | (rw [if_neg (by decide +kernel)]; exact ⟨rfl, rfl⟩))
    (fun os started H enc _ => lifted os started H enc)

theorem card_holds : Rows.NumberConvertsCardSaid :=
  Claim7.holds_tied_plain_at .later [] [.data, .data, .widerDeep, .widerDeep, .data, .data, .data, .data, .data, .data, .sentinel, .sentinel, .pinned, .pinned, .pinned] true (true, "64b06c7202077d118462950218fe2974fddba9497f2cf52520b628f8eed59e5b") true
    over (fun _ h => by cases h) (by kernel_rfl) (fun _ h => by cases h) numberConverts_row_tie rfl ⟨rfl, rfl⟩ (by kernel_rfl) rfl
    (fun f fn hf hfn => by
      obtain rfl : f = 6 := Option.some.inj ((show Tryz.prog.funcNamed "acheron/acheronlaw04.NumberConverts" = some 6 by kernel_rfl).symm.trans hf) |>.symm
      obtain rfl : fn = Tryz.f6 := (Option.some.inj (Tryz.func6.symm.trans hfn)).symm
      exact ⟨by kernel_rfl, fun j t ht => by
        rw [Tryz.params6] at ht
        have hm : t ∈ [3, 2] := by have := Array.mem_of_getElem? ht; simp at this ⊢; omega
        have hall : ([3, 2].all fun u => !Tryz.prog.wantsStandIn u) = true := by kernel_rfl
        exact (show Tryz.prog.wantsStandIn t = false by simpa using List.all_eq_true.1 hall t hm)⟩)
    (by kernel_rfl)
end Go.Proofs.YtpgfogfejemojaaGreatDoor.numberConverts

