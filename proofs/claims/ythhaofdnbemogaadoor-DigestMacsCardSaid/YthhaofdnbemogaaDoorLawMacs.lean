/-
  For all strings key and s the law DigestMacs returns true. No condition.
-/
import Derived.Test.YthhaofdnbemogaaDoorRows
import Derived.Test.YthhaofdnbemogaaDoorAwake
import Derived.Test.YthhaofdnbemogaaDoorRsK
import Derived.Test.YthhaofdnbemogaaDoorLaidD
import Derived.WalkKit
import Derived.ProofKit
import Derived.OpenShut
import Derived.ShutString
import Derived.ChangeOld
import Derived.Carry
import Derived.SevenTiedAt
import Derived.Test.YthhaofdnbemogaaDoorCards
import Derived.Test.YthhaofdnbemogaaDoorTie
set_option linter.unusedVariables false
namespace Go.Proofs.YthhaofdnbemogaaDoor.digestMacs
open Go.ChangeShapes Go.WideShapes Go.ChangeAt Go.RowKit
open Go.ChangeMaps (open_string shut_string)

theorem own : ownKnob Tryd.prog.godebug = none := by kernel_rfl

theorem key_long (k : List UInt8) (h : 64 < k.length) : keyL (shaL k) = keyL k := by
  unfold keyL
  have h1 : ¬ 64 < (shaL k).length := by rw [shaL_len]; omega
  rw [if_pos h, if_neg h1]
theorem key_short (k : List UInt8) (h : k.length < 64) : keyL (k ++ [0]) = keyL k := by
  unfold keyL
  have h1 : ¬ 64 < k.length := by omega
  have h2 : ¬ 64 < (k ++ [0]).length := by rw [List.length_append]; simp; omega
  rw [if_neg h1, if_neg h2, List.append_assoc, List.length_append]
  congr 1
  have e : 64 - k.length = (64 - (k.length + 1)) + 1 := by omega
  rw [e, List.replicate_succ]
  rfl
theorem mac_key (k k' s : List UInt8) (h : keyL k' = keyL k) : macL k' s = macL k s := by
  unfold macL padK
  rw [h]

set_option maxHeartbeats 4000000 in
set_option maxRecDepth 100000 in
theorem walk0 (key s : ByteArray) (h : 300 < key.size) (w : World) (ht : TabD w) :
    Calls Tryd.prog 5 #[.string key, .string s] w fun e w' => e = .returned (.bool true) ∧ Below w.heap.size w w' := by
  have HAW := Lib.hid (awake_any w ht)
  have i0 : (300 : Int) < (key.size : Int) := by omega
  clear h
  clear ht
  go_enter Tryd.func5, Tryd.ntmps5
  go_wp2_with fail
  refine (HAW.out).mono ?_
  rintro e w1 ⟨rfl, hb⟩
  have HB1 := Lib.hid hb
  clear hb
  go_wp2_with fail
  go_ret
  exact ⟨rfl, HB1.out⟩

set_option maxHeartbeats 4000000 in
set_option maxRecDepth 100000 in
theorem walk1 (key s : ByteArray) (hk : key.size ≤ 300) (h : 500 < s.size) (w : World) (ht : TabD w) :
    Calls Tryd.prog 5 #[.string key, .string s] w fun e w' => e = .returned (.bool true) ∧ Below w.heap.size w w' := by
  have HAW := Lib.hid (awake_any w ht)
  have i0 : ¬ (300 : Int) < (key.size : Int) := by omega
  have i1 : (500 : Int) < (s.size : Int) := by omega
  clear hk h
  clear ht
  go_enter Tryd.func5, Tryd.ntmps5
  go_wp2_with fail
  refine (HAW.out).mono ?_
  rintro e w1 ⟨rfl, hb⟩
  have HB1 := Lib.hid hb
  clear hb
  go_wp2_with fail
  go_ret
  exact ⟨rfl, HB1.out⟩

set_option maxHeartbeats 4000000 in
set_option maxRecDepth 100000 in
theorem walk2 (key s : ByteArray) (hk : key.size ≤ 300) (hs : s.size ≤ 500) (h : 64 < key.size) (w : World) (ht : TabD w) :
    Calls Tryd.prog 5 #[.string key, .string s] w fun e w' => e = .returned (.bool true) ∧ Below w.heap.size w w' := by
  have HAW := Lib.hid (awake_any w ht)
  have H1 := Lib.hid (fun w ht => Mac_any key s (by omega) (by omega) w ht)
  have H2 := Lib.hid (fun w => refMac_any key s (by omega) (by omega) w)
  obtain ⟨M, hM⟩ : ∃ M, M = strL (macL key.data.toList s.data.toList) := ⟨_, rfl⟩
  rw [← hM] at H1 H2
  have hMs : M.size = 32 := by rw [hM, strL_size]; unfold macL; rw [shaL_len]
  have HT := Lib.hid ht
  have i0 : ¬ (300 : Int) < (key.size : Int) := by omega
  have i1 : ¬ (500 : Int) < (s.size : Int) := by omega
  have i2 : (64 : Int) < (key.size : Int) := by omega
  have H3 := Lib.hid (fun w ht => sum_any key (by omega) w ht)
  have H4 := Lib.hid (fun w ht => Mac_any (strL (shaL key.data.toList)) s (by rw [strL_size, shaL_len]; omega) (by omega) w ht)
  rw [strL_data, mac_key key.data.toList _ _ (key_long _ (by simpa using h)), ← hM] at H4
  obtain ⟨X, hX⟩ : ∃ X, X = strL (shaL key.data.toList) := ⟨_, rfl⟩
  rw [← hX] at H3 H4
  clear hk hs h hM hX
  clear ht
  go_enter Tryd.func5, Tryd.ntmps5
  go_wp2_with fail
  refine (HAW.out).mono ?_
  rintro e w1 ⟨rfl, hb⟩
  have HB1 := Lib.hid hb
  clear hb
  go_wp2_with fail
  refine (H1.out _ (HT.out.below HB1.out HT.out.pos)).mono ?_
  rintro e w2 ⟨rfl, hb⟩
  have HB2 := Lib.hid (HB1.out.trans (hb.mono HB1.out.size))
  clear hb
  go_wp2_with fail
  refine (H2.out _).mono ?_
  rintro e w3 ⟨rfl, hb⟩
  have HB3 := Lib.hid (HB2.out.trans (hb.mono HB2.out.size))
  clear hb
  go_wp2_with fail
  refine (H3.out _ (HT.out.below HB3.out HT.out.pos)).mono ?_
  rintro e w4 ⟨rfl, hb⟩
  have HB4 := Lib.hid (HB3.out.trans (hb.mono HB3.out.size))
  clear hb
  go_wp2_with fail
  refine (H4.out _ (HT.out.below HB4.out HT.out.pos)).mono ?_
  rintro e w5 ⟨rfl, hb⟩
  have HB5 := Lib.hid (HB4.out.trans (hb.mono HB4.out.size))
  clear hb
  go_wp2_with fail
  go_ret
  exact ⟨rfl, HB5.out⟩

set_option maxHeartbeats 4000000 in
set_option maxRecDepth 100000 in
theorem walk3 (key s : ByteArray) (hk : key.size ≤ 300) (hs : s.size ≤ 500) (h : key.size = 64) (w : World) (ht : TabD w) :
    Calls Tryd.prog 5 #[.string key, .string s] w fun e w' => e = .returned (.bool true) ∧ Below w.heap.size w w' := by
  have HAW := Lib.hid (awake_any w ht)
  have H1 := Lib.hid (fun w ht => Mac_any key s (by omega) (by omega) w ht)
  have H2 := Lib.hid (fun w => refMac_any key s (by omega) (by omega) w)
  obtain ⟨M, hM⟩ : ∃ M, M = strL (macL key.data.toList s.data.toList) := ⟨_, rfl⟩
  rw [← hM] at H1 H2
  have hMs : M.size = 32 := by rw [hM, strL_size]; unfold macL; rw [shaL_len]
  have HT := Lib.hid ht
  have i0 : ¬ (300 : Int) < (key.size : Int) := by omega
  have i1 : ¬ (500 : Int) < (s.size : Int) := by omega
  have i2 : ¬ (64 : Int) < (key.size : Int) := by omega
  have i3 : ((key.size : Int) == 64) = true := by rw [h]; rfl
  have i4 : (key.size : Int) = 64 := by omega
  clear hk hs h hM
  clear ht
  go_enter Tryd.func5, Tryd.ntmps5
  go_wp2_with fail
  refine (HAW.out).mono ?_
  rintro e w1 ⟨rfl, hb⟩
  have HB1 := Lib.hid hb
  clear hb
  go_wp2_with fail
  refine (H1.out _ (HT.out.below HB1.out HT.out.pos)).mono ?_
  rintro e w2 ⟨rfl, hb⟩
  have HB2 := Lib.hid (HB1.out.trans (hb.mono HB1.out.size))
  clear hb
  go_wp2_with fail
  refine (H2.out _).mono ?_
  rintro e w3 ⟨rfl, hb⟩
  have HB3 := Lib.hid (HB2.out.trans (hb.mono HB2.out.size))
  clear hb
  go_wp2_with fail
  go_ret
  exact ⟨rfl, HB3.out⟩

set_option maxHeartbeats 4000000 in
set_option maxRecDepth 100000 in
theorem walk4 (key s : ByteArray) (hk : key.size ≤ 300) (hs : s.size ≤ 500) (h : key.size < 64) (w : World) (ht : TabD w) :
    Calls Tryd.prog 5 #[.string key, .string s] w fun e w' => e = .returned (.bool true) ∧ Below w.heap.size w w' := by
  have HAW := Lib.hid (awake_any w ht)
  have H1 := Lib.hid (fun w ht => Mac_any key s (by omega) (by omega) w ht)
  have H2 := Lib.hid (fun w => refMac_any key s (by omega) (by omega) w)
  obtain ⟨M, hM⟩ : ∃ M, M = strL (macL key.data.toList s.data.toList) := ⟨_, rfl⟩
  rw [← hM] at H1 H2
  have hMs : M.size = 32 := by rw [hM, strL_size]; unfold macL; rw [shaL_len]
  have HT := Lib.hid ht
  have i0 : ¬ (300 : Int) < (key.size : Int) := by omega
  have i1 : ¬ (500 : Int) < (s.size : Int) := by omega
  have i2 : ¬ (64 : Int) < (key.size : Int) := by omega
  have i3 : ¬ (key.size : Int) = 64 := by omega
  have hcat : ¬ (9223372036854775807 < key.data.toList.length + 1) := by simp; omega
  have hz : (key ++ ⟨#[0]⟩ : ByteArray).size ≤ 1000 := by rw [ByteArray.size_append]; show _ + 1 ≤ _; omega
  have H4 := Lib.hid (fun w ht => Mac_any (key ++ ⟨#[0]⟩) s (by omega) (by omega) w ht)
  have hd : (key ++ ⟨#[0]⟩ : ByteArray).data.toList = key.data.toList ++ [0] := by simp
  rw [hd, mac_key key.data.toList _ _ (key_short _ (by simpa using h)), ← hM] at H4
  clear hk hs h hM hz hd
  clear ht
  go_enter Tryd.func5, Tryd.ntmps5
  go_wp2_with fail
  refine (HAW.out).mono ?_
  rintro e w1 ⟨rfl, hb⟩
  have HB1 := Lib.hid hb
  clear hb
  go_wp2_with fail
  refine (H1.out _ (HT.out.below HB1.out HT.out.pos)).mono ?_
  rintro e w2 ⟨rfl, hb⟩
  have HB2 := Lib.hid (HB1.out.trans (hb.mono HB1.out.size))
  clear hb
  go_wp2_with fail
  refine (H2.out _).mono ?_
  rintro e w3 ⟨rfl, hb⟩
  have HB3 := Lib.hid (HB2.out.trans (hb.mono HB2.out.size))
  clear hb
  go_wp2_with fail
  refine (H4.out _ (HT.out.below HB3.out HT.out.pos)).mono ?_
  rintro e w4 ⟨rfl, hb⟩
  have HB4 := Lib.hid (HB3.out.trans (hb.mono HB3.out.size))
  clear hb
  go_wp2_with fail
  go_ret
  exact ⟨rfl, HB4.out⟩

theorem walk (key s : ByteArray) (w : World) (ht : TabD w) :
    Calls Tryd.prog 5 #[.string key, .string s] w fun e w' => e = .returned (.bool true) ∧ Below w.heap.size w w' := by
  by_cases h0 : 300 < key.size
  · exact walk0 key s h0 w ht
  by_cases h1 : 500 < s.size
  · exact walk1 key s (by omega) h1 w ht
  by_cases h2 : 64 < key.size
  · exact walk2 key s (by omega) (by omega) h2 w ht
  by_cases h3 : key.size = 64
  · exact walk3 key s (by omega) (by omega) h3 w ht
  · exact walk4 key s (by omega) (by omega) (by omega) w ht

set_option maxRecDepth 100000 in
theorem lifted (os : Os) (started : os.Started) (H : Type) (enc : TypeId × Value → H) :
    ReturnsInHanded {} Tryd.checked os 5 .any (fun w args => (Rows.digestMacsSpec.pre enc Tryd.prog Tryd.f5 [] false w args ∧ laidMetH Tryd.prog laid2 w) ∧ sizedMet enc Tryd.prog Tryd.f5 (OpenSpec.ofChange Rows.digestMacsSpec) false w args)
      (Rows.digestMacsSpec.post enc Tryd.prog Tryd.f5 false true false false) := by
  refine returnsInHanded_of_change_and (C := Tryd.checked) (X := fun w _ => laidMetH Tryd.prog laid2 w) (fun _ _ _ hh h => h.of_heap hh) own started (by kernel_rfl) Tryd.func5
    (ChangeSpec.witness_shaped (enc := enc) (C := Tryd.checked) (os := os) (X := fun w _ => laidMetH Tryd.prog laid2 w) false (World.doorLaid Tryd.prog 400 os) #[.string ByteArray.empty, .string ByteArray.empty] 8 rfl (World.shaped_of_RefB (by kernel_rfl) (by kernel_rfl)) (by kernel_rfl) (by kernel_rfl) (by kernel_rfl) (door_met os _)) ?_
  intro W base args ds gs before hval0 hW _ _ hL _
  have hval : ∀ (j : Nat) t v, Tryd.f5.params[j]? = some t → args[j]? = some v → Value.okWide Tryd.prog W .any base t v := hval0
  have hW' := hW
  obtain ⟨p, q, hA0, hV, rfl, hfz, hnd⟩ := hW
  have hA : DataW.TrodAll enc Tryd.prog W 0 (fun _ => true) true Tryd.f5.params.toList args.toList ds p := hA0
  rw [Tryd.params5] at hA hval
  obtain ⟨v0, vs0, d0, ds0, p0, q0, hargs, rfl, rfl, h0, r0⟩ := trodAll_cons hA
  obtain ⟨v1, vs1, d1, ds1, p1, q1, rfl, rfl, rfl, h1, r1⟩ := trodAll_cons r0
  obtain ⟨rfl, rfl, rfl⟩ := trodAll_nil r1
  obtain rfl : args = #[v0, v1] := by cases args; simp_all
  obtain ⟨rfl, rfl⟩ := trodVars_none hV
  obtain ⟨a0, rfl, rfl, rfl, w0⟩ := open_string Tryd.underlying9 (hval 0 9 v0 rfl rfl) h0
  obtain ⟨a1, rfl, rfl, rfl, w1⟩ := open_string Tryd.underlying9 (hval 1 9 v1 rfl rfl) h1
  clear hA0 hval0
  have ht := of_laid hL
  refine (walk a0 a1 W ht).mono fun e W' ⟨he, bel⟩ => ?_
  subst he
  exact ⟨_, rfl, _, _, _, [], _, [], hW', trodAll_mk1 (shut_bool Tryd.underlying4 _), (trodAll_cons_mk (shut_string Tryd.underlying9 w0) (trodAll_cons_mk (shut_string Tryd.underlying9 w1) trodAll_mk0)), rfl, bel.frame _, fun h => by cases h⟩

theorem over : Rows.digestMacsRow.holds Tryd.pinned (OpenSpec.ofChange Rows.digestMacsSpec) :=
  OpenClaim.holds_of_wide 5 Tryd.f5 rfl rfl rfl rfl rfl rfl rfl ⟨rfl, rfl, rfl, rfl, rfl⟩ rfl rfl rfl rfl rfl (by kernel_rfl) Tryd.func5 (by kernel_rfl)
    (of_decide_eq_true (by kernel_rfl)) (by unfold Func.isWrapper; first | (rw [if_pos (by decide +kernel)]; kernel_rfl) | (rw [if_neg (by decide +kernel)]; exact ⟨rfl, rfl⟩))
    (fun os started H enc _ => lifted os started H enc)

theorem card_holds : Rows.DigestMacsCardSaid :=
  Claim7.holds_tied_plain_at .later [] [.data, .data] true (true, "8c260326cb8ce36d986a9977b984088357d89190d852a59f516cd170735cb484") false
    over (fun _ h => by cases h) (by kernel_rfl) (fun _ h => by cases h) digestMacs_row_tie rfl ⟨rfl, rfl⟩ (by kernel_rfl) rfl
    (fun f fn hf hfn => by
      obtain rfl : f = 5 := Option.some.inj ((show Tryd.prog.funcNamed "acheron/acheronlaw03.DigestMacs" = some 5 by kernel_rfl).symm.trans hf) |>.symm
      obtain rfl : fn = Tryd.f5 := (Option.some.inj (Tryd.func5.symm.trans hfn)).symm
      exact ⟨by kernel_rfl, fun j t ht => by
        rw [Tryd.params5] at ht
        have hm : t ∈ [9] := by have := Array.mem_of_getElem? ht; simp at this ⊢; omega
        have hall : ([9].all fun u => !Tryd.prog.wantsStandIn u) = true := by kernel_rfl
        exact (show Tryd.prog.wantsStandIn t = false by simpa using List.all_eq_true.1 hall t hm)⟩)
    (by kernel_rfl)
end Go.Proofs.YthhaofdnbemogaaDoor.digestMacs

