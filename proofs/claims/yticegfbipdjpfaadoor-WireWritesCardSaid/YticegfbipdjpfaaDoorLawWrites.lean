/-
  For all items l the law WireWrites returns true and leaves its argument as it was. No condition.
-/
import Derived.Test.YticegfbipdjpfaaDoorRows
import Derived.Test.YticegfbipdjpfaaDoorAwakeW
import Derived.Test.YticegfbipdjpfaaDoorRefW3
import Derived.Test.YticegfbipdjpfaaDoorItem
import Derived.Test.YticegfbipdjpfaaDoorSame
import Derived.RegionTactic
import Derived.WalkKit
import Derived.ProofKit
import Derived.OpenShut
import Derived.ShutString
import Derived.ChangeOld
import Derived.Carry
import Derived.SevenTiedAt
import Derived.Test.YticegfbipdjpfaaDoorCards
import Derived.Test.YticegfbipdjpfaaDoorTie
set_option linter.unusedVariables false
namespace Go.Proofs.YticegfbipdjpfaaDoor.wireWrites
open Go.ChangeShapes Go.WideShapes Go.ChangeAt Go.RowKit
open Go.ChangeMaps (open_string shut_string)

theorem own : ownKnob Tryd.prog.godebug = none := by kernel_rfl
theorem laidOut : laidOutB Tryd.prog = true := by kernel_rfl

theorem isSz_le {z : Int} (h : isSz z = true) : z.toNat ≤ 8 := by
  obtain ⟨s, rfl, hs⟩ := isSz_cases h
  simp; omega
theorem litS_len (n z : Int) : (litS n z).2.length ≤ 8 := by
  unfold litS
  split
  · split
    · have := isSz_le (by assumption); simp only [encLE_len]; exact this
    · simp
  · simp
theorem sigS_len (n z : Int) : (sigS n z).2.length ≤ 8 := by
  unfold sigS
  split
  · split
    · have := isSz_le (by assumption); simp only [encLE_len]; exact this
    · simp
  · simp
theorem wrS_len (x : It) (l : List Bool) (hs : x.s.size ≤ 3000) (hl : l.length ≤ 3000) : (wrS x l).2.length ≤ 4000 := by
  have h0 := litS_len x.n x.z
  have h1 := sigS_len x.n x.z
  have h2 := encNum_le x.n
  have h3 := encNum_le (x.s.size : Int)
  have h4 := encNum_le (l.length : Int)
  have h5 := bitsB_len l
  have h6 : x.s.data.toList.length = x.s.size := by rw [Array.length_toList]; rfl
  unfold wrS
  split
  · omega
  split
  · omega
  split
  · simp only; omega
  split
  · simp only [strS, List.length_append]; omega
  split
  · simp only [bitS, List.length_append]; omega
  · simp only; omega

theorem bools_len {P : Nat → Prop} {w : World} {a : Option Addr} {n c : Nat} {l : List Bool} (h : BoolsAt P w (.slice a n c) l) : n = l.length := by
  obtain ⟨a', cap, e, _⟩ := h
  injection e

theorem few_bounds {xs : List It} (h : fewB xs = true) : xs.length ≤ 30 ∧ ∀ x ∈ xs, x.s.size ≤ 3000 ∧ x.ll ≤ 3000 := by
  unfold fewB at h
  rw [Bool.and_eq_true, decide_eq_true_eq, Bool.not_eq_true'] at h
  refine ⟨h.1, fun x hx => ?_⟩
  have := List.any_eq_false.1 h.2 x hx
  unfold It.bad at this
  simp at this
  omega

def WrRel (w : World) (wb : Nat) (len : Nat) (want i : Value) (wr : World) : Prop :=
  ∃ (k : Nat) (v : Value) (bs : List UInt8), k ≤ len ∧ i = .int .i64 k ∧ want = .string ⟨bs.toArray⟩ ∧ bs.length ≤ k * 4000 ∧ WAt wr wb w.heap.size v bs ∧ Below w.heap.size w wr

set_option maxHeartbeats 8000000 in
set_option maxRecDepth 100000 in
theorem walk (v0 : Value) (xs : List It) (ls : List (List Bool)) (w : World) (hx : ItemsAt w v0 xs) (hl : ls.length = xs.length)
    (hb : ∀ j (h : j < xs.length) (h' : j < ls.length), BoolsAt (Old w) w (.slice xs[j].la xs[j].ll xs[j].lc) ls[j]) (wf : ∀ x ∈ xs, (Lit.int .i64 x.n).wf = true) (ht : Tab w) :
    Calls Tryd.prog 3 #[v0] w fun e w' => e = .returned (.bool true) ∧ Below w.heap.size w w' := by
  have hpos := ht.pos
  have HAW := Lib.hid (awake_any w ht)
  have HFEW := Lib.hid (fun w' (hbl : Below w.heap.size w w') => few_any v0 xs w' (hx.below hbl))
  obtain ⟨a1, cap1, rfl, hx⟩ := hx
  have HX := Lib.hid hx
  have HB := Lib.hid hb
  have HWF := Lib.hid wf
  have HT := Lib.hid ht
  clear hx hb wf ht
  cases hfew : fewB xs
  · rw [hfew] at HFEW
    go_enter Tryd.func3, Tryd.ntmps3
    go_wp2_with fail
    refine HAW.out.mono ?_
    rintro e w1 ⟨rfl, B1⟩
    have HF := Lib.hid (HFEW.out w1 B1)
    go_wp2_with fail
    refine HF.out.mono ?_
    rintro e w2 ⟨rfl, B2⟩
    go_wp2
    go_ret
    exact ⟨rfl, B1.trans (B2.mono B1.size)⟩
  obtain ⟨h30, hbd⟩ := few_bounds hfew
  have HBD := Lib.hid hbd
  rw [hfew] at HFEW
  clear hbd hfew
  go_enter Tryd.func3, Tryd.ntmps3
  go_wp2_with fail
  refine HAW.out.mono ?_
  rintro e w1 ⟨rfl, B1⟩
  have HF := Lib.hid (HFEW.out w1 B1)
  go_wp2_with fail
  refine HF.out.mono ?_
  rintro e w2 ⟨rfl, B2⟩
  have HNW := Lib.hid (newWriter_any w2)
  have BB2 := B1.trans (B2.mono B1.size)
  go_wp2_with fail
  refine HNW.out.mono ?_
  rintro e w3 ⟨rfl, B3, hw3⟩
  have HW3 := Lib.hid (hw3 _ BB2.size)
  have HB3 := Lib.hid (BB2.trans (B3.mono BB2.size))
  have hwb := BB2.size
  have htx : Calls Tryd.prog 13 #[.pointer (some ⟨w2.heap.size, 0, none⟩)] w3 fun e w' => e = .returned (.string ⟨#[]⟩) ∧ w3 = w' := text_any _ _ _ _ w3 HW3.out
  have hln : Calls Tryd.prog 14 #[.pointer (some ⟨w2.heap.size, 0, none⟩)] w3 fun e w' => e = .returned (.int .i64 0) ∧ w3 = w' := len_any _ _ _ _ w3 HW3.out
  have HTX := Lib.hid htx
  have HLN := Lib.hid hln
  clear hw3 B3 B2 B1 BB2 HNW HF HFEW htx hln
  generalize w2.heap.size = wb at *
  go_wp2_with fail
  refine HTX.out.mono ?_
  rintro e w4 ⟨rfl, rfl⟩
  go_wp2_with fail
  refine HLN.out.mono ?_
  rintro e w4 ⟨rfl, rfl⟩
  clear HTX HLN
  go_wp2
  go_loopw [4, 30] (fun s i wr => WrRel w wb xs.length s i wr) (fun _ i _ => xs.length - (intOf i).toNat)
  case atStart => exact ⟨0, _, [], Nat.zero_le _, rfl, rfl, by simp, HW3.out, HB3.out⟩
  case round =>
    obtain ⟨k, v, bs, hk, rfl, rfl, hle, hw, hbel⟩ := hrel
    have HWA := Lib.hid hw
    clear hw HW3
    by_cases hlt : k < xs.length
    · have hltI : (k : Int) < (xs.length : Int) := by omega
      rcases HX.out with hnil | ⟨b, o, rfl, hbl, hc⟩
      · rw [hnil] at hlt; exact absurd hlt (Nat.not_lt_zero _)
      obtain ⟨c0, c1, c2, c3, c4⟩ := hc k hlt
      simp only [← fun i => hbel.cell (p := ⟨b, i, none⟩) hbl] at c0 c1 c2 c3 c4
      have hll := HB.out k hlt (by omega)
      have hwf := HWF.out _ (List.getElem_mem hlt)
      obtain ⟨hs3, hl3⟩ := HBD.out _ (List.getElem_mem hlt)
      clear hc
      generalize xs[k] = x at *
      generalize ls[k] = l at *
      have hlen := bools_len hll
      have hn : I64 x.n := by simp [Lit.wf, IntKind.min, IntKind.max, IntKind.signed, IntKind.bits] at hwf; unfold I64; omega
      have hrl := wrS_len x l hs3 (by omega)
      have hlw := hll.below hbel
      obtain ⟨W1, hW1⟩ : ∃ W1, W1 = wr.alloc (.cells #[.int .i64 x.k, .int .i64 x.z, .int .i64 x.n, .string x.s, .slice x.la x.ll x.lc] 31) := ⟨_, rfl⟩
      have hb1 : Below wr.heap.size wr W1 := by rw [hW1]; exact below_al (Below.refl _ _)
      have d0 : W1.cell? ⟨wr.heap.size, 0, none⟩ = some (.int .i64 x.k) := by rw [hW1, World.cell?_alloc_at _ _ _ _ rfl]; rfl
      have d1 : W1.cell? ⟨wr.heap.size, 1, none⟩ = some (.int .i64 x.z) := by rw [hW1, World.cell?_alloc_at _ _ _ _ rfl]; rfl
      have d2 : W1.cell? ⟨wr.heap.size, 2, none⟩ = some (.int .i64 x.n) := by rw [hW1, World.cell?_alloc_at _ _ _ _ rfl]; rfl
      have d3 : W1.cell? ⟨wr.heap.size, 3, none⟩ = some (.string x.s) := by rw [hW1, World.cell?_alloc_at _ _ _ _ rfl]; rfl
      have d4 : W1.cell? ⟨wr.heap.size, 4, none⟩ = some (.slice x.la x.ll x.lc) := by rw [hW1, World.cell?_alloc_at _ _ _ _ rfl]; rfl
      have hlt1 : wr.heap.size < W1.heap.size := by rw [hW1]; simp
      have HLT1 := Lib.hid hlt1
      have hrf := refer_any x l hn (by omega) (by omega) W1 ((hlw.below hb1).mono fun _ _ => trivial)
      rw [hW1] at hrf
      have HRF := Lib.hid hrf
      have HD : Hid (∀ w', Below W1.heap.size W1 w' → w'.cell? ⟨wr.heap.size, 0, none⟩ = some (.int .i64 x.k) ∧ w'.cell? ⟨wr.heap.size, 1, none⟩ = some (.int .i64 x.z) ∧ w'.cell? ⟨wr.heap.size, 2, none⟩ = some (.int .i64 x.n) ∧ w'.cell? ⟨wr.heap.size, 3, none⟩ = some (.string x.s) ∧ w'.cell? ⟨wr.heap.size, 4, none⟩ = some (.slice x.la x.ll x.lc)) :=
        fun w' hb' => ⟨(hb'.cell (p := ⟨wr.heap.size, 0, none⟩) hlt1).trans d0, (hb'.cell (p := ⟨wr.heap.size, 1, none⟩) hlt1).trans d1, (hb'.cell (p := ⟨wr.heap.size, 2, none⟩) hlt1).trans d2, (hb'.cell (p := ⟨wr.heap.size, 3, none⟩) hlt1).trans d3, (hb'.cell (p := ⟨wr.heap.size, 4, none⟩) hlt1).trans d4⟩
      have HB1 := Lib.hid hb1
      have HW1E := Lib.hid hW1
      clear hrf d0 d1 d2 d3 d4 hlt1 hb1 hW1
      have HWR := Lib.hid (fun w' (hb' : Below wr.heap.size wr w') => write_any wb w.heap.size v bs x l (by omega) (by omega) (by omega) w' (HWA.out.below hb') (HT.out.below (hbel.trans (hb'.mono hbel.size)) hpos) hpos
        ((hlw.below hb').mono fun b hb => ⟨by have : b < w.heap.size := hb; omega, fun e => by have h1 := (HWA.out.row_lt _ e).1; have : b < w.heap.size := hb; omega⟩))
      unfold It.val at HRF HWR
      have HCAT := Lib.hid (cat_str bs ⟨(wrS x l).2.toArray⟩)
      generalize wrS x l = r at *
      obtain ⟨r1, r2⟩ := r
      simp only at hrl
      have hsz : ¬ (9223372036854775807 < bs.length + r2.length) := by omega
      have HBEL := Lib.hid hbel
      clear hll hlw hn hwf hs3 hl3 hlen hbel
      go_wp2_with fail
      refine HRF.out.mono ?_
      rintro e w5 ⟨rfl, hb5⟩
      rw [← HW1E.out] at hb5
      obtain ⟨d0, d1, d2, d3, d4⟩ := HD.out w5 hb5
      replace hb5 := HB1.out.trans (hb5.mono HB1.out.size)
      have HWR5 := Lib.hid (HWR.out w5 hb5)
      clear c0 c1 c2 c3 c4
      go_wp2_with fail
      refine HWR5.out.mono ?_
      rintro e w6 ⟨rfl, v', ha6, st6⟩
      have HLN := Lib.hid (len_any _ _ _ _ w6 ha6)
      have HA6 := Lib.hid ha6
      have HB5 := HBEL.out.trans (hb5.mono HBEL.out.size)
      have HB6 := Lib.hid (HB5.trans (st6.toBelow (HWA.out.below hb5)))
      clear ha6 st6 HB5 hb5
      go_wp2_with fail
      rw [HCAT.out]
      refine HLN.out.mono ?_
      rintro e w7 ⟨rfl, rfl⟩
      clear d0 d1 d2 d3 d4
      go_wp2
      go_roundw
      case rel => exact ⟨k + 1, v', bs ++ r2, by omega, by go_num, rfl, by rw [List.length_append]; omega, HA6.out, HB6.out⟩
      case measure => simp [intOf]; omega
    · obtain rfl : k = xs.length := by omega
      have HTX := Lib.hid (text_any _ _ _ _ wr HWA.out)
      go_wp2_with fail
      refine HTX.out.mono ?_
      rintro e w7 ⟨rfl, rfl⟩
      go_wp2
      go_ret
      exact ⟨rfl, hbel⟩

set_option maxRecDepth 100000 in
theorem lifted (os : Os) (started : os.Started) (H : Type) (enc : TypeId × Value → H) :
    ReturnsInHanded {} Tryd.checked os 3 .any (fun w args => (Rows.wireWritesSpec.pre enc Tryd.prog Tryd.f3 [] false w args ∧ laidMetH Tryd.prog laid1 w) ∧ sizedMet enc Tryd.prog Tryd.f3 (OpenSpec.ofChange Rows.wireWritesSpec) false w args)
      (Rows.wireWritesSpec.post enc Tryd.prog Tryd.f3 false true false false) := by
  refine returnsInHanded_of_change_and (C := Tryd.checked) (X := fun w _ => laidMetH Tryd.prog laid1 w) (fun _ _ _ hh h => h.of_heap hh) own started (by kernel_rfl) Tryd.func3
    (ChangeSpec.witness_shaped (enc := enc) (C := Tryd.checked) (os := os) (X := fun w _ => laidMetH Tryd.prog laid1 w) false (World.doorLaid Tryd.prog 400 os) #[.slice none 0 0] 8 rfl (World.shaped_of_RefB (by kernel_rfl) (by kernel_rfl)) (by kernel_rfl) (by kernel_rfl) (by kernel_rfl) (door_met os _)) ?_
  intro W base args ds gs before hval0 hW _ _ hL _
  have hval : ∀ (j : Nat) t v, Tryd.f3.params[j]? = some t → args[j]? = some v → Value.okWide Tryd.prog W .any base t v := hval0
  have hW' := hW
  obtain ⟨p, q, hA0, hV, rfl, hfz, hnd⟩ := hW
  have hA : DataW.TrodAll enc Tryd.prog W 0 (fun _ => true) true Tryd.f3.params.toList args.toList ds p := hA0
  rw [Tryd.params3] at hA hval
  obtain ⟨v0, d0, rfl, rfl, h0⟩ := trodAll_one hA
  obtain ⟨rfl, rfl⟩ := trodVars_none hV
  have k0 := h0
  have lt0 : ∀ x ∈ p, x.block < W.heap.size := by obtain ⟨m, hm⟩ := k0; exact DataW.trod_lt m _ _ _ hm
  obtain ⟨xs0, ls0, hx0, hl0, hb0, wf0⟩ := open_items (hval 0 22 v0 rfl rfl) h0
  clear hA0 hval0
  have ht := of_laid hL
  simp only [List.append_nil] at hW'
  refine (walk v0 xs0 ls0 W hx0 hl0 hb0 wf0 ht).mono fun e W' ⟨he, bel⟩ => ?_
  subst he
  exact ⟨_, rfl, _, _, _, [], _, [], hW', trodAll_mk1 (shut_bool Tryd.underlying4 _), (trodAll_mk1 (Below.trod laidOut (by kernel_rfl) (of_decide_eq_true (by kernel_rfl)) k0 bel lt0)), rfl, bel.frame _, fun h => by cases h⟩

theorem over : Rows.wireWritesRow.holds Tryd.pinned (OpenSpec.ofChange Rows.wireWritesSpec) :=
  OpenClaim.holds_of_wide 3 Tryd.f3 rfl rfl rfl rfl rfl rfl rfl ⟨rfl, rfl, rfl, rfl, rfl⟩ rfl rfl rfl rfl rfl (by kernel_rfl) Tryd.func3 (by kernel_rfl)
    (of_decide_eq_true (by kernel_rfl)) (by unfold Func.isWrapper; first | (rw [if_pos (by decide +kernel)]; kernel_rfl) | (rw [if_neg (by decide +kernel)]; exact ⟨rfl, rfl⟩))
    (fun os started H enc _ => lifted os started H enc)

theorem card_holds : Rows.WireWritesCardSaid :=
  Claim7.holds_tied_plain_at .later [] [.data] true (true, "1e96a78fc00194934d42a12a0dbef2585bede4f87d841dcadeaee66c04a8f023") false
    over (fun _ h => by cases h) (by kernel_rfl) (fun _ h => by cases h) wireWrites_row_tie rfl ⟨rfl, rfl⟩ (by kernel_rfl) rfl
    (fun f fn hf hfn => by
      obtain rfl : f = 3 := Option.some.inj ((show Tryd.prog.funcNamed "acheron/acheronlaw02.WireWrites" = some 3 by kernel_rfl).symm.trans hf) |>.symm
      obtain rfl : fn = Tryd.f3 := (Option.some.inj (Tryd.func3.symm.trans hfn)).symm
      exact ⟨by kernel_rfl, fun j t ht => by
        rw [Tryd.params3] at ht
        have hm : t ∈ [22] := by have := Array.mem_of_getElem? ht; simp at this ⊢; omega
        have hall : ([22].all fun u => !Tryd.prog.wantsStandIn u) = true := by kernel_rfl
        exact (show Tryd.prog.wantsStandIn t = false by simpa using List.all_eq_true.1 hall t hm)⟩)
    (by kernel_rfl)
end Go.Proofs.YticegfbipdjpfaaDoor.wireWrites
