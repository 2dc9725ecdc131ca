/-
  For every text s and all questions l and more the law WireStops returns true and leaves its arguments as they were. No condition.
-/
import Derived.Test.YticegfbipdjpfaaDoorRows
import Derived.Test.YticegfbipdjpfaaDoorAwakeW
import Derived.Test.YticegfbipdjpfaaDoorRdUse
import Derived.WalkKit
import Derived.ProofKit
import Derived.OpenShut
import Derived.ShutString
import Derived.ChangeOld
import Derived.Carry
import Derived.SevenTiedAt
import Derived.Test.YticegfbipdjpfaaDoorCards
import Derived.Test.YticegfbipdjpfaaDoorTie
set_option linter.unusedVariables false
namespace Go.Proofs.YticegfbipdjpfaaDoor.wireStops
open Go.ChangeShapes Go.WideShapes Go.ChangeAt Go.RowKit
open Go.ChangeMaps (open_string shut_string)

theorem own : ownKnob Tryd.prog.godebug = none := by kernel_rfl
theorem laidOut : laidOutB Tryd.prog = true := by kernel_rfl

def OutRel (w : World) (rb : Nat) (s : ByteArray) (len : Nat) (i : Value) (wr : World) : Prop :=
  ∃ k j : Nat, k ≤ len ∧ i = .int .i64 k ∧ RAt wr rb s j 0 ∧ Below w.heap.size w wr
def InRel (w : World) (rb : Nat) (s : ByteArray) (j : Nat) (er : Int) (len : Nat) (i : Value) (wr : World) : Prop :=
  ∃ k : Nat, k ≤ len ∧ i = .int .i64 k ∧ RAt wr rb s j er ∧ Below w.heap.size w wr

set_option maxHeartbeats 8000000 in
set_option maxRecDepth 100000 in
theorem walk (s : ByteArray) (v1 : Value) (xs : List (Int × Int)) (v2 : Value) (ys : List (Int × Int)) (w : World) (hx : AsksAt w v1 xs) (hy : AsksAt w v2 ys) (ht : Tab w) :
    Calls Tryd.prog 7 #[.string s, v1, v2] w fun e w' => e = .returned (.bool true) ∧ Below w.heap.size w w' := by
  have hpos := ht.pos
  have HAW := Lib.hid (awake_any w ht)
  obtain ⟨a1, cap1, rfl, hx⟩ := hx
  obtain ⟨a2, cap2, rfl, hy⟩ := hy
  by_cases hbig : (5000 : Int) < (s.size : Int)
  · clear hx hy
    go_enter Tryd.func7, Tryd.ntmps7
    go_wp2_with fail
    refine HAW.out.mono ?_
    rintro e w1 ⟨rfl, B1⟩
    go_wp2
    go_ret
    exact ⟨rfl, B1⟩
  by_cases hbx : (40 : Int) < (xs.length : Int)
  · clear hx hy
    go_enter Tryd.func7, Tryd.ntmps7
    go_wp2_with fail
    refine HAW.out.mono ?_
    rintro e w1 ⟨rfl, B1⟩
    go_wp2
    go_ret
    exact ⟨rfl, B1⟩
  by_cases hby : (40 : Int) < (ys.length : Int)
  · clear hx hy
    go_enter Tryd.func7, Tryd.ntmps7
    go_wp2_with fail
    refine HAW.out.mono ?_
    rintro e w1 ⟨rfl, B1⟩
    go_wp2
    go_ret
    exact ⟨rfl, B1⟩
  have hs9 : s.size ≤ 1000000000 := by omega
  have HT := Lib.hid ht
  have HX := Lib.hid hx
  have HY := Lib.hid hy
  have HS9 := Lib.hid hs9
  clear ht hx hy hs9
  go_enter Tryd.func7, Tryd.ntmps7
  go_wp2_with fail
  refine HAW.out.mono ?_
  rintro e w1 ⟨rfl, B1⟩
  have HNR := Lib.hid (newReader_any s w1)
  go_wp2_with fail
  refine HNR.out.mono ?_
  rintro e w2 ⟨rfl, B2, hr2⟩
  have HR2 := Lib.hid hr2
  have HB2 := Lib.hid (B1.trans (B2.mono B1.size))
  have hrb := B1.size
  clear hr2 B2 B1 HNR
  generalize w1.heap.size = rb at *
  go_wp2
  go_loopw [38] (fun i wr => OutRel w rb s xs.length i wr) (fun i _ => xs.length - (intOf i).toNat)
  case atStart => exact ⟨0, 0, Nat.zero_le _, rfl, HR2.out, HB2.out⟩
  case round =>
    obtain ⟨k, j, hk, rfl, hr, hbel⟩ := hrel
    have HR := Lib.hid hr
    have HBEL := Lib.hid hbel
    by_cases hlt : k < xs.length
    · have hltI : (k : Int) < (xs.length : Int) := by omega
      rcases HX.out with hnil | ⟨b, o, rfl, hbl, hc⟩
      · rw [hnil] at hlt; exact absurd hlt (Nat.not_lt_zero _)
      obtain ⟨c0, c1⟩ := hc k hlt
      simp only [← fun i => hbel.cell (p := ⟨b, i, none⟩) hbl] at c0 c1
      clear hc
      generalize xs[k] = q at c0 c1
      obtain ⟨qk, qn⟩ := q
      simp only at c0 c1
      have hbelA := below_al (o := .cells #[.int .i64 qk, .int .i64 qn] 42) hbel
      have hrA := hr.below ((Below.refl _ _).alloc (Nat.le_refl _) (.cells #[.int .i64 qk, .int .i64 qn] 42))
      have HAT := Lib.hid (at_any rb s j 0 _ hrA)
      have htA := HT.out.below hbelA hpos
      have HBA := Lib.hid hbelA
      by_cases hxx : (rdv qk qn (rest s j)).x = 0
      · have HRD := Lib.hid (rd_ok rb s j qk qn HS9.out _ hrA htA hxx)
        clear hr hbel hbelA hrA htA hxx
        go_wp2_with fail
        refine HAT.out.mono ?_
        rintro e w3 ⟨rfl, rfl⟩
        go_wp2_with fail
        refine HRD.out.mono ?_
        rintro e w3 ⟨a, ll, lc, rfl, hr3, hs3, hv3⟩
        have HR3 := Lib.hid hr3
        have HB3 := Lib.hid (below_rstep HBA.out hs3 hrb HBA.out.size)
        clear hr3 hs3 hv3 c0 c1
        go_wp2
        go_roundw
        case rel => exact ⟨k + 1, _, by omega, by go_num, HR3.out.below (below_al (Below.refl _ _)), below_al HB3.out⟩
        case measure => simp [intOf]; omega
      · obtain ⟨er, her⟩ : ∃ er, er = (rdv qk qn (rest s j)).x := ⟨_, rfl⟩
        have hne : er ≠ 0 := by rw [her]; exact hxx
        have heb : (er == 0) = false := by rw [beq_eq_false_iff_ne]; exact hne
        have HRD := Lib.hid (rd_stop rb s j 0 qk qn er HS9.out _ hrA htA (.inr ⟨rfl, hxx, her⟩))
        have HNE := Lib.hid hne
        clear hr hbel hbelA hrA htA hxx her hne
        go_wp2_with fail
        refine HAT.out.mono ?_
        rintro e w3 ⟨rfl, rfl⟩
        go_wp2_with fail
        refine HRD.out.mono ?_
        rintro e w3 ⟨a, ll, lc, rfl, hr3, hs3, hv3⟩
        have HB3 := Lib.hid (below_al (o := .cells #[.int .i64 0, .int .i64 0, .int .i64 0, .string ⟨#[]⟩, .slice a ll lc] 31) (below_rstep HBA.out hs3 hrb HBA.out.size))
        have HR3 := Lib.hid (hr3.below ((Below.refl _ _).alloc (Nat.le_refl _) (.cells #[.int .i64 0, .int .i64 0, .int .i64 0, .string ⟨#[]⟩, .slice a ll lc] 31)))
        have HSM := Lib.hid (same_zero _ a ll lc _ (hv3.below ((Below.refl _ _).alloc (Nat.le_refl _) (.cells #[.int .i64 0, .int .i64 0, .int .i64 0, .string ⟨#[]⟩, .slice a ll lc] 31))))
        clear hr3 hs3 hv3 c0 c1
        go_wp2_with fail
        refine HSM.out.mono ?_
        rintro e w4 ⟨rfl, B4⟩
        have HB4 := Lib.hid (HB3.out.trans (B4.mono HB3.out.size))
        have HR4 := Lib.hid (HR3.out.below B4)
        have HAT4 := Lib.hid (at_any rb s j er _ HR4.out)
        clear B4
        go_wp2_with fail
        refine HAT4.out.mono ?_
        rintro e w5 ⟨rfl, rfl⟩
        go_wp2
        go_loopw [64] (fun i wr => InRel w rb s j er ys.length i wr) (fun i _ => ys.length - (intOf i).toNat)
        case atStart => exact ⟨0, Nat.zero_le _, rfl, HR4.out, HB4.out⟩
        case round =>
          obtain ⟨k2, hk2, rfl, hr, hbel⟩ := hrel
          have HR5 := Lib.hid hr
          have HB5 := Lib.hid hbel
          by_cases hlt2 : k2 < ys.length
          · have hltI2 : (k2 : Int) < (ys.length : Int) := by omega
            rcases HY.out with hnil | ⟨b2, o2, rfl, hbl2, hc2⟩
            · rw [hnil] at hlt2; exact absurd hlt2 (Nat.not_lt_zero _)
            obtain ⟨d0, d1⟩ := hc2 k2 hlt2
            simp only [← fun i => hbel.cell (p := ⟨b2, i, none⟩) hbl2] at d0 d1
            clear hc2
            generalize ys[k2] = q at d0 d1
            obtain ⟨pk, pn⟩ := q
            simp only at d0 d1
            have hbelA := below_al (o := .cells #[.int .i64 pk, .int .i64 pn] 42) hbel
            have hrA := hr.below ((Below.refl _ _).alloc (Nat.le_refl _) (.cells #[.int .i64 pk, .int .i64 pn] 42))
            have HRD2 := Lib.hid (rd_stop rb s j er pk pn er HS9.out _ hrA (HT.out.below hbelA hpos) (.inl ⟨HNE.out, rfl⟩))
            have HBA2 := Lib.hid hbelA
            clear hr hbel hbelA hrA
            go_wp2_with fail
            refine HRD2.out.mono ?_
            rintro e w6 ⟨a', ll', lc', rfl, hr6, hs6, hv6⟩
            have HB6 := Lib.hid (below_al (o := .cells #[.int .i64 0, .int .i64 0, .int .i64 0, .string ⟨#[]⟩, .slice a' ll' lc'] 31) (below_rstep HBA2.out hs6 hrb HBA2.out.size))
            have HR6 := Lib.hid (hr6.below ((Below.refl _ _).alloc (Nat.le_refl _) (.cells #[.int .i64 0, .int .i64 0, .int .i64 0, .string ⟨#[]⟩, .slice a' ll' lc'] 31)))
            have HSM2 := Lib.hid (same_zero _ a' ll' lc' _ (hv6.below ((Below.refl _ _).alloc (Nat.le_refl _) (.cells #[.int .i64 0, .int .i64 0, .int .i64 0, .string ⟨#[]⟩, .slice a' ll' lc'] 31))))
            clear hr6 hs6 hv6 d0 d1
            go_wp2_with fail
            refine HSM2.out.mono ?_
            rintro e w7 ⟨rfl, B7⟩
            have HB7 := Lib.hid (HB6.out.trans (B7.mono HB6.out.size))
            have HR7 := Lib.hid (HR6.out.below B7)
            clear B7
            go_wp2
            go_roundw
            case rel => exact ⟨k2 + 1, by omega, by go_num, HR7.out, HB7.out⟩
            case measure => simp [intOf]; omega
          · obtain rfl : k2 = ys.length := by omega
            have HA5 := Lib.hid (at_any rb s j er _ hr)
            have HL5 := Lib.hid (left_any rb s j er HS9.out _ hr)
            have hjs := hr.le
            clear hr hbel
            go_wp2_with fail
            refine HA5.out.mono ?_
            rintro e w6 ⟨rfl, rfl⟩
            go_wp2_with fail
            refine HL5.out.mono ?_
            rintro e w6 ⟨rfl, B6⟩
            have HB6 := Lib.hid (HB5.out.trans (B6.mono HB5.out.size))
            have HR6 := Lib.hid (HR5.out.below B6)
            have HE6 := Lib.hid (err_any rb s j er _ HR6.out)
            have HN6 := Lib.hid ((rEnd rb s j er HS9.out _ HR6.out).mono (R' := fun en w' => en = .returned (.int .i64 er) ∧ RStep rb w6 w') fun en w' ⟨he, _, hs⟩ => ⟨by rw [he]; simp [rdN, HNE.out], hs⟩)
            clear B6
            go_wp2_with fail
            refine HE6.out.mono ?_
            rintro e w7 ⟨rfl, rfl⟩
            go_wp2_with fail
            refine HN6.out.mono ?_
            rintro e w7 ⟨rfl, hs7⟩
            have HB7 := Lib.hid (below_rstep HB6.out hs7 hrb HB6.out.size)
            clear hs7
            go_wp2
            go_ret
            exact ⟨rfl, HB7.out⟩
    · obtain rfl : k = xs.length := by omega
      have HER := Lib.hid (err_any rb s j 0 _ hr)
      clear hr hbel
      go_wp2_with fail
      refine HER.out.mono ?_
      rintro e w3 ⟨rfl, rfl⟩
      go_wp2
      go_ret
      exact ⟨rfl, HBEL.out⟩

set_option maxRecDepth 100000 in
theorem lifted (os : Os) (started : os.Started) (H : Type) (enc : TypeId × Value → H) :
    ReturnsInHanded {} Tryd.checked os 7 .any (fun w args => (Rows.wireStopsSpec.pre enc Tryd.prog Tryd.f7 [] false w args ∧ laidMetH Tryd.prog laid1 w) ∧ sizedMet enc Tryd.prog Tryd.f7 (OpenSpec.ofChange Rows.wireStopsSpec) false w args)
      (Rows.wireStopsSpec.post enc Tryd.prog Tryd.f7 false true false false) := by
  refine returnsInHanded_of_change_and (C := Tryd.checked) (X := fun w _ => laidMetH Tryd.prog laid1 w) (fun _ _ _ hh h => h.of_heap hh) own started (by kernel_rfl) Tryd.func7
    (ChangeSpec.witness_shaped (enc := enc) (C := Tryd.checked) (os := os) (X := fun w _ => laidMetH Tryd.prog laid1 w) false (World.doorLaid Tryd.prog 400 os) #[.string ByteArray.empty, .slice none 0 0, .slice none 0 0] 8 rfl (World.shaped_of_RefB (by kernel_rfl) (by kernel_rfl)) (by kernel_rfl) (by kernel_rfl) (by kernel_rfl) (door_met os _)) ?_
  intro W base args ds gs before hval0 hW _ _ hL _
  have hval : ∀ (j : Nat) t v, Tryd.f7.params[j]? = some t → args[j]? = some v → Value.okWide Tryd.prog W .any base t v := hval0
  have hW' := hW
  obtain ⟨p, q, hA0, hV, rfl, hfz, hnd⟩ := hW
  have hA : DataW.TrodAll enc Tryd.prog W 0 (fun _ => true) true Tryd.f7.params.toList args.toList ds p := hA0
  rw [Tryd.params7] at hA hval
  obtain ⟨v0, vs0, d0, ds0, p0, q0, hargs, rfl, rfl, h0, r0⟩ := trodAll_cons hA
  obtain ⟨v1, vs1, d1, ds1, p1, q1, rfl, rfl, rfl, h1, r1⟩ := trodAll_cons r0
  obtain ⟨v2, vs2, d2, ds2, p2, q2, rfl, rfl, rfl, h2, r2⟩ := trodAll_cons r1
  obtain ⟨rfl, rfl, rfl⟩ := trodAll_nil r2
  obtain rfl : args = #[v0, v1, v2] := by cases args; simp_all
  obtain ⟨rfl, rfl⟩ := trodVars_none hV
  obtain ⟨a0, rfl, rfl, rfl, w0⟩ := open_string Tryd.underlying9 (hval 0 9 v0 rfl rfl) h0
  have k1 := h1
  have lt1 : ∀ x ∈ p1, x.block < W.heap.size := by obtain ⟨m, hm⟩ := k1; exact DataW.trod_lt m _ _ _ hm
  obtain ⟨xs1, hx1⟩ := open_asks (hval 1 36 v1 rfl rfl) h1
  have k2 := h2
  have lt2 : ∀ x ∈ p2, x.block < W.heap.size := by obtain ⟨m, hm⟩ := k2; exact DataW.trod_lt m _ _ _ hm
  obtain ⟨xs2, hx2⟩ := open_asks (hval 2 36 v2 rfl rfl) h2
  clear hA0 hval0
  have ht := of_laid hL
  refine (walk a0 v1 xs1 v2 xs2 W hx1 hx2 ht).mono fun e W' ⟨he, bel⟩ => ?_
  subst he
  exact ⟨_, rfl, _, _, _, [], _, [], hW', trodAll_mk1 (shut_bool Tryd.underlying4 _), (trodAll_cons_mk (shut_string Tryd.underlying9 w0) (trodAll_cons_mk (Below.trod laidOut (by kernel_rfl) (of_decide_eq_true (by kernel_rfl)) k1 bel lt1) (trodAll_cons_mk (Below.trod laidOut (by kernel_rfl) (of_decide_eq_true (by kernel_rfl)) k2 bel lt2) trodAll_mk0))), rfl, bel.frame _, fun h => by cases h⟩

theorem over : Rows.wireStopsRow.holds Tryd.pinned (OpenSpec.ofChange Rows.wireStopsSpec) :=
  OpenClaim.holds_of_wide 7 Tryd.f7 rfl rfl rfl rfl rfl rfl rfl ⟨rfl, rfl, rfl, rfl, rfl⟩ rfl rfl rfl rfl rfl (by kernel_rfl) Tryd.func7 (by kernel_rfl)
    (of_decide_eq_true (by kernel_rfl)) (by unfold Func.isWrapper; first | (rw [if_pos (by decide +kernel)]; kernel_rfl) | (rw [if_neg (by decide +kernel)]; exact ⟨rfl, rfl⟩))
    (fun os started H enc _ => lifted os started H enc)

theorem card_holds : Rows.WireStopsCardSaid :=
  Claim7.holds_tied_plain_at .later [] [.data] true (true, "1e96a78fc00194934d42a12a0dbef2585bede4f87d841dcadeaee66c04a8f023") false
    over (fun _ h => by cases h) (by kernel_rfl) (fun _ h => by cases h) wireStops_row_tie rfl ⟨rfl, rfl⟩ (by kernel_rfl) rfl
    (fun f fn hf hfn => by
      obtain rfl : f = 7 := Option.some.inj ((show Tryd.prog.funcNamed "acheron/acheronlaw02.WireStops" = some 7 by kernel_rfl).symm.trans hf) |>.symm
      obtain rfl : fn = Tryd.f7 := (Option.some.inj (Tryd.func7.symm.trans hfn)).symm
      exact ⟨by kernel_rfl, fun j t ht => by
        rw [Tryd.params7] at ht
        have hm : t ∈ [9, 36] := by have := Array.mem_of_getElem? ht; simp at this ⊢; omega
        have hall : ([9, 36].all fun u => !Tryd.prog.wantsStandIn u) = true := by kernel_rfl
        exact (show Tryd.prog.wantsStandIn t = false by simpa using List.all_eq_true.1 hall t hm)⟩)
    (by kernel_rfl)
end Go.Proofs.YticegfbipdjpfaaDoor.wireStops

