/-
  For every text s and all questions l the law WireOne returns true and leaves its arguments as they were. No condition.
-/
import Derived.Test.YticegfbipdjpfaaDoorRows
import Derived.Test.YticegfbipdjpfaaDoorAwakeW
import Derived.Test.YticegfbipdjpfaaDoorMathB2
import Derived.RegionTactic
import Derived.WalkKit
import Derived.ProofKit
import Derived.OpenShut
import Derived.ShutString
import Derived.ChangeOld
import Derived.Carry
import Derived.SevenTiedAt
import Derived.Test.YticegfbipdjpfaaDoorCards
import Derived.Test.YticegfbipdjpfaaDoorTie
set_option linter.unusedVariables false
namespace Go.Proofs.YticegfbipdjpfaaDoor.wireOne
open Go.ChangeShapes Go.WideShapes Go.ChangeAt Go.RowKit
open Go.ChangeMaps (open_string shut_string)

theorem own : ownKnob Tryd.prog.godebug = none := by kernel_rfl
theorem laidOut : laidOutB Tryd.prog = true := by kernel_rfl


theorem pre_rest (s : ByteArray) (j m : Nat) (h : j ≤ s.size) : pre s j ++ pre (rest s j) m = pre s (j + m) := by
  unfold pre rest
  rw [ByteArray.data_extract, Array.toList_extract, List.extract_eq_take_drop, List.take_add]
  congr 1
  rw [List.take_take]
  by_cases hm : m ≤ s.size - j
  · rw [Nat.min_eq_left hm]
  · rw [Nat.min_eq_right (by omega)]
    have hl : (s.data.toList.drop j).length = s.size - j := by rw [List.length_drop, Array.length_toList]; rfl
    rw [List.take_of_length_le (by omega), List.take_of_length_le (by omega)]
theorem pre_ext (s : ByteArray) (j : Nat) : (⟨(pre s j).toArray⟩ : ByteArray) = s.extract 0 j := by
  apply ByteArray.ext
  apply Array.toList_inj.1
  rw [ByteArray.data_extract, Array.toList_extract, List.extract_eq_take_drop]
  simp [pre]

theorem oneTail {w : World} {rb wb B j : Nat} {er : Int} {s : ByteArray} {v : Value} (hr : RAt w rb s j er) (hw : WAt w wb B v (pre s j)) :
    (Calls Tryd.prog 21 #[.pointer (some ⟨rb, 0, none⟩)] w fun e w' => e = .returned (.int .i64 (j : Int)) ∧ w = w') ∧
    (Calls Tryd.prog 14 #[.pointer (some ⟨wb, 0, none⟩)] w fun e w' => e = .returned (.int .i64 (j : Int)) ∧ w = w') ∧
    (Calls Tryd.prog 13 #[.pointer (some ⟨wb, 0, none⟩)] w fun e w' => e = .returned (.string (s.extract 0 j)) ∧ w = w') := by
  refine ⟨at_any rb s j er w hr, ?_, ?_⟩
  · have := len_any wb B v _ w hw
    rw [pre_len s j hr.le] at this
    exact this
  · have := text_any wb B v _ w hw
    rw [pre_ext] at this
    exact this

def OneRel (w : World) (rb wb : Nat) (s : ByteArray) (len : Nat) (i : Value) (wr : World) : Prop :=
  ∃ (k j : Nat) (v : Value), k ≤ len ∧ i = .int .i64 k ∧ RAt wr rb s j 0 ∧ WAt wr wb w.heap.size v (pre s j) ∧ Below w.heap.size w wr ∧ v.ownBlock ≠ some rb

theorem WAt.rstep' {w w' : World} {wb B rb : Nat} {v : Value} {bs : List UInt8} (h : WAt w wb B v bs) (hs : RStep rb w w') (h1 : wb ≠ rb) (h2 : v.ownBlock ≠ some rb) : WAt w' wb B v bs := h.rstep hs h1 h2

set_option maxHeartbeats 8000000 in
set_option maxRecDepth 100000 in
theorem walk (s : ByteArray) (v1 : Value) (xs : List (Int × Int)) (w : World) (hx : AsksAt w v1 xs) (ht : Tab w) :
    Calls Tryd.prog 6 #[.string s, v1] w fun e w' => e = .returned (.bool true) ∧ Below w.heap.size w w' := by
  have hpos := ht.pos
  have HAW := Lib.hid (awake_any w ht)
  obtain ⟨a1, cap1, rfl, hx⟩ := hx
  by_cases hbig : (5000 : Int) < (s.size : Int)
  · clear hx
    go_enter Tryd.func6, Tryd.ntmps6
    go_wp2_with fail
    refine HAW.out.mono ?_
    rintro e w1 ⟨rfl, B1⟩
    go_wp2
    go_ret
    exact ⟨rfl, B1⟩
  by_cases hbx : (40 : Int) < (xs.length : Int)
  · clear hx
    go_enter Tryd.func6, Tryd.ntmps6
    go_wp2_with fail
    refine HAW.out.mono ?_
    rintro e w1 ⟨rfl, B1⟩
    go_wp2
    go_ret
    exact ⟨rfl, B1⟩
  have hs5 : s.size ≤ 5000 := by omega
  have hs9 : s.size ≤ 1000000000 := by omega
  have HT := Lib.hid ht
  have HX := Lib.hid hx
  have HS9 := Lib.hid hs9
  have HS5 := Lib.hid hs5
  clear ht hx hs9 hs5
  go_enter Tryd.func6, Tryd.ntmps6
  go_wp2_with fail
  refine HAW.out.mono ?_
  rintro e w1 ⟨rfl, B1⟩
  have HNR := Lib.hid (newReader_any s w1)
  go_wp2_with fail
  refine HNR.out.mono ?_
  rintro e w2 ⟨rfl, B2, hr2⟩
  have HNW := Lib.hid (newWriter_any w2)
  have BB2 := B1.trans (B2.mono B1.size)
  have hrb := B1.size
  have hrb2 := hr2.lt
  go_wp2_with fail
  refine HNW.out.mono ?_
  rintro e w3 ⟨rfl, B3, hw3⟩
  have HW3 := Lib.hid (hw3 _ BB2.size)
  have HR3 := Lib.hid (hr2.below B3)
  have HB3 := Lib.hid (BB2.trans (B3.mono BB2.size))
  have hne : w2.heap.size ≠ w1.heap.size := by omega
  have hwb := BB2.size
  clear hw3 hr2 B3 B2 B1 BB2 HNR HNW hrb2
  generalize w1.heap.size = rb at *
  generalize w2.heap.size = wb at *
  go_wp2
  go_loopw [32] (fun i wr => OneRel w rb wb s xs.length i wr) (fun i _ => xs.length - (intOf i).toNat)
  case atStart => exact ⟨0, 0, _, Nat.zero_le _, rfl, HR3.out, by simpa [pre] using HW3.out, HB3.out, by simp [Value.ownBlock]⟩
  case round =>
    obtain ⟨k, j, v, hk, rfl, hr, hw, hbel, hvr⟩ := hrel
    have HR := Lib.hid hr
    have HBEL := Lib.hid hbel
    have HWA := Lib.hid hw
    have HVR := Lib.hid hvr
    have hjs := hr.le
    clear hw hvr
    by_cases hlt : k < xs.length
    · have hltI : (k : Int) < (xs.length : Int) := by omega
      rcases HX.out with hnil | ⟨b, o, rfl, hbl, hc⟩
      · rw [hnil] at hlt; exact absurd hlt (Nat.not_lt_zero _)
      obtain ⟨c0, c1⟩ := hc k hlt
      simp only [← fun i => hbel.cell (p := ⟨b, i, none⟩) hbl] at c0 c1
      clear hc
      generalize xs[k] = q at c0 c1
      obtain ⟨qk, qn⟩ := q
      simp only at c0 c1
      have hbelA := below_al (o := .cells #[.int .i64 qk, .int .i64 qn] 42) hbel
      have hrA := hr.below ((Below.refl _ _).alloc (Nat.le_refl _) (.cells #[.int .i64 qk, .int .i64 qn] 42))
      have hwA := HWA.out.below ((Below.refl _ _).alloc (Nat.le_refl _) (.cells #[.int .i64 qk, .int .i64 qn] 42))
      have htA := HT.out.below hbelA hpos
      have HBA := Lib.hid hbelA
      have HWAA := Lib.hid hwA
      have k0 : (wr.alloc (.cells #[.int .i64 qk, .int .i64 qn] 42)).cell? ⟨wr.heap.size, 0, none⟩ = some (.int .i64 qk) := by rw [World.cell?_alloc_at _ _ _ _ rfl]; rfl
      have k1 : (wr.alloc (.cells #[.int .i64 qk, .int .i64 qn] 42)).cell? ⟨wr.heap.size, 1, none⟩ = some (.int .i64 qn) := by rw [World.cell?_alloc_at _ _ _ _ rfl]; rfl
      have hszA : (wr.alloc (.cells #[.int .i64 qk, .int .i64 qn] 42)).heap.size = wr.heap.size + 1 := by simp
      have K0 := Lib.hid k0
      have K1 := Lib.hid k1
      have HSZA := Lib.hid hszA
      have hrlt := HR.out.lt
      clear k0 k1 hszA hwA
      by_cases hxx : (rdv qk qn (rest s j)).x = 0
      · have HRD := Lib.hid (rd_ok rb s j qk qn HS9.out _ hrA htA hxx)
        have hbk := fun la ll lc => rdv_back qk qn (rest s j) la ll lc hxx
        obtain ⟨hS, hL⟩ := rdv_small qk qn (rest s j) (by rw [rest_size]; have := HS5.out; omega) hxx
        obtain ⟨hn0, hn1⟩ := rdv_bd qk qn (rest s j) hxx
        rw [rest_size] at hn1
        have HPR := Lib.hid (pre_rest s j (rdv qk qn (rest s j)).n.toNat hjs)
        have HBK := Lib.hid hbk
        clear hbk hxx hr hbel hbelA hrA htA
        generalize rdv qk qn (rest s j) = d at *
        obtain ⟨dN, dS, dL, dn, dx⟩ := d
        simp only at *
        go_wp2_with fail
        refine HRD.out.mono ?_
        rintro e w4 ⟨a, ll, lc, rfl, hr4, hs4, hv4⟩
        have d0 := (World.cell?_of_block (w' := w4) (a := ⟨wr.heap.size, 0, none⟩) (hs4.block wr.heap.size (by rw [HSZA.out]; omega) (by omega))).trans K0.out
        have d1 := (World.cell?_of_block (w' := w4) (a := ⟨wr.heap.size, 1, none⟩) (hs4.block wr.heap.size (by rw [HSZA.out]; omega) (by omega))).trans K1.out
        have hlt4 : wr.heap.size < w4.heap.size := by have := hs4.size; rw [HSZA.out] at this; omega
        have HB4 := Lib.hid (below_rstep HBA.out hs4 hrb HBA.out.size)
        have HW4 := Lib.hid (HWAA.out.rstep hs4 hne HVR.out)
        have HR4 := Lib.hid hr4
        have HV4 := Lib.hid hv4
        clear hr4 hs4 hv4 c0 c1
        go_wp2_with fail
        go_region
        all_goals
          have hb5 : Below w4.heap.size w4 (w4.alloc (.cells #[.int .i64 qk, .int .i64 qn, .int .i64 dN, .string dS, .slice a ll lc] 31)).drew := (below_al (Below.refl _ _)).drew
          have HB5 := Lib.hid (HB4.out.trans (hb5.mono HB4.out.size))
          have hwr := write_any wb w.heap.size v (pre s j) ⟨qk, qn, dN, dS, a, ll, lc⟩ dL (by rw [pre_len s j hjs]; have := HS5.out; omega) hS hL _ (HW4.out.below hb5) (HT.out.below HB5.out hpos) hpos
            ((HV4.out.below hb5).mono (fun b hb => by
              have hb : (wr.alloc (.cells #[.int .i64 qk, .int .i64 qn] 42)).heap.size ≤ b := hb
              rw [HSZA.out] at hb
              have h1 := HWA.out.lt
              exact ⟨by omega, fun e => by have := (HWA.out.row_lt _ e).2; omega⟩))
          rw [HBK.out a ll lc] at hwr
          unfold It.val at hwr
          have HWR := Lib.hid hwr
          have HW5 := Lib.hid (HW4.out.below hb5)
          have HR5 := Lib.hid (HR4.out.below hb5)
          clear hwr hb5 d0 d1
          go_wp2_with fail
          refine HWR.out.mono ?_
          rintro e w6 ⟨rfl, v', ha6, st6⟩
          have HA6 := Lib.hid ha6
          have HB6 := Lib.hid (HB5.out.trans (st6.toBelow HW5.out))
          have HR6 := Lib.hid (HR5.out.of_block (st6.block rb HR5.out.lt (fun e => hne e.symm) (fun e => HVR.out e.symm)))
          have HV6 : Hid (v'.ownBlock ≠ some rb) := by
            show _ ≠ _
            rcases st6.lies with e | ⟨g, e, hg⟩
            · rw [e]; exact HVR.out
            · rw [e]; intro e'; injection e' with e'; have := HR5.out.lt; omega
          clear ha6 st6
          go_wp2
          go_roundw
          case rel => exact ⟨k + 1, _, v', by omega, by go_num, HR6.out, by rw [← HPR.out]; exact HA6.out, HB6.out, HV6.out⟩
          case measure => simp [intOf]; omega
      · obtain ⟨er, her⟩ : ∃ er, er = (rdv qk qn (rest s j)).x := ⟨_, rfl⟩
        have heb : (er != 0) = true := by rw [bne_iff_ne, her]; exact hxx
        have HRD := Lib.hid (rd_stop rb s j 0 qk qn er HS9.out _ hrA htA (.inr ⟨rfl, hxx, her⟩))
        clear hr hbel hbelA hrA htA hxx her
        go_wp2_with fail
        refine HRD.out.mono ?_
        rintro e w4 ⟨a, ll, lc, rfl, hr4, hs4, hv4⟩
        have hb5 : Below w4.heap.size w4 (w4.alloc (.cells #[.int .i64 0, .int .i64 0, .int .i64 0, .string ⟨#[]⟩, .slice a ll lc] 31)) := below_al (Below.refl _ _)
        have HB4 := Lib.hid (below_al (o := .cells #[.int .i64 0, .int .i64 0, .int .i64 0, .string ⟨#[]⟩, .slice a ll lc] 31) (below_rstep HBA.out hs4 hrb HBA.out.size))
        have HW4 := Lib.hid ((HWAA.out.rstep hs4 hne HVR.out).below hb5)
        have HR4 := Lib.hid (hr4.below hb5)
        clear hr4 hs4 hv4 c0 c1 hb5
        obtain ⟨hat, hlen, htxt⟩ := oneTail HR4.out HW4.out
        go_wp2_with fail
        refine hat.mono ?_
        rintro e w8 ⟨rfl, rfl⟩
        go_wp2_with fail
        refine hlen.mono ?_
        rintro e w8 ⟨rfl, rfl⟩
        go_wp2_with fail
        refine htxt.mono ?_
        rintro e w8 ⟨rfl, rfl⟩
        go_wp2_with fail
        refine hat.mono ?_
        rintro e w8 ⟨rfl, rfl⟩
        clear hat hlen htxt
        go_wp2
        go_ret
        exact ⟨rfl, HB4.out⟩
    · obtain rfl : k = xs.length := by omega
      clear hr hbel
      obtain ⟨hat, hlen, htxt⟩ := oneTail HR.out HWA.out
      go_wp2_with fail
      refine hat.mono ?_
      rintro e w8 ⟨rfl, rfl⟩
      go_wp2_with fail
      refine hlen.mono ?_
      rintro e w8 ⟨rfl, rfl⟩
      go_wp2_with fail
      refine htxt.mono ?_
      rintro e w8 ⟨rfl, rfl⟩
      go_wp2_with fail
      refine hat.mono ?_
      rintro e w8 ⟨rfl, rfl⟩
      clear hat hlen htxt
      go_wp2
      go_ret
      exact ⟨rfl, HBEL.out⟩

set_option maxRecDepth 100000 in
theorem lifted (os : Os) (started : os.Started) (H : Type) (enc : TypeId × Value → H) :
    ReturnsInHanded {} Tryd.checked os 6 .any (fun w args => (Rows.wireOneSpec.pre enc Tryd.prog Tryd.f6 [] false w args ∧ laidMetH Tryd.prog laid1 w) ∧ sizedMet enc Tryd.prog Tryd.f6 (OpenSpec.ofChange Rows.wireOneSpec) false w args)
      (Rows.wireOneSpec.post enc Tryd.prog Tryd.f6 false true false false) := by
  refine returnsInHanded_of_change_and (C := Tryd.checked) (X := fun w _ => laidMetH Tryd.prog laid1 w) (fun _ _ _ hh h => h.of_heap hh) own started (by kernel_rfl) Tryd.func6
    (ChangeSpec.witness_shaped (enc := enc) (C := Tryd.checked) (os := os) (X := fun w _ => laidMetH Tryd.prog laid1 w) false (World.doorLaid Tryd.prog 400 os) #[.string ByteArray.empty, .slice none 0 0] 8 rfl (World.shaped_of_RefB (by kernel_rfl) (by kernel_rfl)) (by kernel_rfl) (by kernel_rfl) (by kernel_rfl) (door_met os _)) ?_
  intro W base args ds gs before hval0 hW _ _ hL _
  have hval : ∀ (j : Nat) t v, Tryd.f6.params[j]? = some t → args[j]? = some v → Value.okWide Tryd.prog W .any base t v := hval0
  have hW' := hW
  obtain ⟨p, q, hA0, hV, rfl, hfz, hnd⟩ := hW
  have hA : DataW.TrodAll enc Tryd.prog W 0 (fun _ => true) true Tryd.f6.params.toList args.toList ds p := hA0
  rw [Tryd.params6] at hA hval
  obtain ⟨v0, vs0, d0, ds0, p0, q0, hargs, rfl, rfl, h0, r0⟩ := trodAll_cons hA
  obtain ⟨v1, vs1, d1, ds1, p1, q1, rfl, rfl, rfl, h1, r1⟩ := trodAll_cons r0
  obtain ⟨rfl, rfl, rfl⟩ := trodAll_nil r1
  obtain rfl : args = #[v0, v1] := by cases args; simp_all
  obtain ⟨rfl, rfl⟩ := trodVars_none hV
  obtain ⟨a0, rfl, rfl, rfl, w0⟩ := open_string Tryd.underlying9 (hval 0 9 v0 rfl rfl) h0
  have k1 := h1
  have lt1 : ∀ x ∈ p1, x.block < W.heap.size := by obtain ⟨m, hm⟩ := k1; exact DataW.trod_lt m _ _ _ hm
  obtain ⟨xs1, hx1⟩ := open_asks (hval 1 36 v1 rfl rfl) h1
  clear hA0 hval0
  have ht := of_laid hL
  refine (walk a0 v1 xs1 W hx1 ht).mono fun e W' ⟨he, bel⟩ => ?_
  subst he
  exact ⟨_, rfl, _, _, _, [], _, [], hW', trodAll_mk1 (shut_bool Tryd.underlying4 _), (trodAll_cons_mk (shut_string Tryd.underlying9 w0) (trodAll_cons_mk (Below.trod laidOut (by kernel_rfl) (of_decide_eq_true (by kernel_rfl)) k1 bel lt1) trodAll_mk0)), rfl, bel.frame _, fun h => by cases h⟩

theorem over : Rows.wireOneRow.holds Tryd.pinned (OpenSpec.ofChange Rows.wireOneSpec) :=
  OpenClaim.holds_of_wide 6 Tryd.f6 rfl rfl rfl rfl rfl rfl rfl ⟨rfl, rfl, rfl, rfl, rfl⟩ rfl rfl rfl rfl rfl (by kernel_rfl) Tryd.func6 (by kernel_rfl)
    (of_decide_eq_true (by kernel_rfl)) (by unfold Func.isWrapper; first | (rw [if_pos (by decide +kernel)]; kernel_rfl) | (rw [if_neg (by decide +kernel)]; exact ⟨rfl, rfl⟩))
    (fun os started H enc _ => lifted os started H enc)

theorem card_holds : Rows.WireOneCardSaid :=
  Claim7.holds_tied_plain_at .later [] [.data] true (true, "1e96a78fc00194934d42a12a0dbef2585bede4f87d841dcadeaee66c04a8f023") false
    over (fun _ h => by cases h) (by kernel_rfl) (fun _ h => by cases h) wireOne_row_tie rfl ⟨rfl, rfl⟩ (by kernel_rfl) rfl
    (fun f fn hf hfn => by
      obtain rfl : f = 6 := Option.some.inj ((show Tryd.prog.funcNamed "acheron/acheronlaw02.WireOne" = some 6 by kernel_rfl).symm.trans hf) |>.symm
      obtain rfl : fn = Tryd.f6 := (Option.some.inj (Tryd.func6.symm.trans hfn)).symm
      exact ⟨by kernel_rfl, fun j t ht => by
        rw [Tryd.params6] at ht
        have hm : t ∈ [9, 36] := by have := Array.mem_of_getElem? ht; simp at this ⊢; omega
        have hall : ([9, 36].all fun u => !Tryd.prog.wantsStandIn u) = true := by kernel_rfl
        exact (show Tryd.prog.wantsStandIn t = false by simpa using List.all_eq_true.1 hall t hm)⟩)
    (by kernel_rfl)
end Go.Proofs.YticegfbipdjpfaaDoor.wireOne

