/-
  For all items l and every text tail the law WireReturns returns true and leaves its arguments as they were. No condition.
-/
import Derived.Test.YticegfbipdjpfaaDoorRows
import Derived.Test.YticegfbipdjpfaaDoorRet
import Derived.RegionTactic
import Derived.Maps.AppendAt
import Derived.WalkKit
import Derived.ProofKit
import Derived.OpenShut
import Derived.ShutString
import Derived.ChangeOld
import Derived.Carry
import Derived.SevenTiedAt
import Derived.Test.YticegfbipdjpfaaDoorCards
import Derived.Test.YticegfbipdjpfaaDoorTie
set_option linter.unusedVariables false
namespace Go.Proofs.YticegfbipdjpfaaDoor.wireReturns
open Go.ChangeShapes Go.WideShapes Go.ChangeAt Go.RowKit
open Go.ChangeMaps (open_string shut_string)

theorem own : ownKnob Tryd.prog.godebug = none := by kernel_rfl
theorem laidOut : laidOutB Tryd.prog = true := by kernel_rfl

set_option maxHeartbeats 8000000 in
set_option maxRecDepth 100000 in
theorem walk (v0 : Value) (xs : List It) (ls : List (List Bool)) (tl : ByteArray) (w : World) (hx : ItemsAt w v0 xs) (hl : ls.length = xs.length)
    (hb : ∀ j (h : j < xs.length) (h' : j < ls.length), BoolsAt (Old w) w (.slice xs[j].la xs[j].ll xs[j].lc) ls[j]) (wf : ∀ x ∈ xs, (Lit.int .i64 x.n).wf = true) (ht : Tab w) :
    Calls Tryd.prog 5 #[v0, .string tl] w fun e w' => e = .returned (.bool true) ∧ Below w.heap.size w w' := by
  obtain ⟨i0, hi, hz0, hz1, hz2⟩ := info_parts infoItem
  have hpos := ht.pos
  have HAW := Lib.hid (awake_any w ht)
  have HFEW := Lib.hid (fun w' (hbl : Below w.heap.size w w') => few_any v0 xs w' (hx.below hbl))
  obtain ⟨a1, cap1, rfl, hx⟩ := hx
  have HX := Lib.hid hx
  have HB := Lib.hid hb
  have HWF := Lib.hid wf
  have HT := Lib.hid ht
  clear hx hb wf ht
  cases hfew : fewB xs
  · rw [hfew] at HFEW
    go_enter Tryd.func5, Tryd.ntmps5
    go_wp2_with fail
    refine HAW.out.mono ?_
    rintro e w1 ⟨rfl, B1⟩
    have HF := Lib.hid (HFEW.out w1 B1)
    go_wp2_with fail
    refine HF.out.mono ?_
    rintro e w2 ⟨rfl, B2⟩
    go_wp2
    go_ret
    exact ⟨rfl, B1.trans (B2.mono B1.size)⟩
  obtain ⟨h30, hbd⟩ := few_bounds' hfew
  have HBD := Lib.hid hbd
  rw [hfew] at HFEW
  clear hbd hfew
  by_cases htl : (3000 : Int) < (tl.size : Int)
  · go_enter Tryd.func5, Tryd.ntmps5
    go_wp2_with fail
    refine HAW.out.mono ?_
    rintro e w1 ⟨rfl, B1⟩
    have HF := Lib.hid (HFEW.out w1 B1)
    go_wp2_with fail
    refine HF.out.mono ?_
    rintro e w2 ⟨rfl, B2⟩
    go_wp2
    go_ret
    exact ⟨rfl, B1.trans (B2.mono B1.size)⟩
  go_enter Tryd.func5, Tryd.ntmps5
  go_wp2_with fail
  refine HAW.out.mono ?_
  rintro e w1 ⟨rfl, B1⟩
  have HF := Lib.hid (HFEW.out w1 B1)
  go_wp2_with fail
  refine HF.out.mono ?_
  rintro e w2 ⟨rfl, B2⟩
  have HNW := Lib.hid (newWriter_any w2)
  have BB2 := B1.trans (B2.mono B1.size)
  go_wp2_with fail
  refine HNW.out.mono ?_
  rintro e w3 ⟨rfl, B3, hw3⟩
  have HW3 := Lib.hid (hw3 _ BB2.size)
  have HB3 := Lib.hid (BB2.trans (B3.mono BB2.size))
  have hwb := BB2.size
  clear hw3 B3 B2 B1 BB2 HNW HF HFEW
  generalize w2.heap.size = wb at *
  go_wp2
  go_loopw [6, 32] (fun s i wr => W1Rel w wb xs.length s i wr) (fun _ i _ => xs.length - (intOf i).toNat)
  case atStart => exact ⟨0, _, _, [], Nat.zero_le _, rfl, rfl, Nat.le_refl _, ⟨World.ownsRow_nil _ _ _ _, HW3.out, by simp, by simp [Value.ownBlock], by simp [Value.ownBlock], HB3.out⟩⟩
  case round =>
    obtain ⟨k, v, wv, ys, hk, rfl, rfl, hyk, hwr⟩ := hrel
    have HWR0 := Lib.hid hwr
    clear hwr HW3
    by_cases hlt : k < xs.length
    · have hltI : (k : Int) < (xs.length : Int) := by omega
      rcases HX.out with hnil | ⟨b, o, rfl, hbl, hc⟩
      · rw [hnil] at hlt; exact absurd hlt (Nat.not_lt_zero _)
      obtain ⟨c0, c1, c2, c3, c4⟩ := hc k hlt
      have hbel := HWR0.out.bel
      simp only [← fun i => hbel.cell (p := ⟨b, i, none⟩) hbl] at c0 c1 c2 c3 c4
      have hll := HB.out k hlt (by omega)
      have hwf := HWF.out _ (List.getElem_mem hlt)
      obtain ⟨hs3, hl3⟩ := HBD.out _ (List.getElem_mem hlt)
      clear hc
      generalize xs[k] = x at *
      generalize ls[k] = l at *
      have hlen := bools_len' hll
      have hn : I64 x.n := by simp [Lit.wf, IntKind.min, IntKind.max, IntKind.signed, IntKind.bits] at hwf; unfold I64; omega
      have hwl := wrS_le x l hs3 (by omega)
      have hen := encs_le ys HWR0.out.good
      obtain ⟨W1, hW1⟩ : ∃ W1, W1 = wr.alloc (.cells #[.int .i64 x.k, .int .i64 x.z, .int .i64 x.n, .string x.s, .slice x.la x.ll x.lc] 31) := ⟨_, rfl⟩
      have hb1 : Below wr.heap.size wr W1 := by rw [hW1]; exact below_al (Below.refl _ _)
      have hx1 : Box5 W1 wr.heap.size x := by rw [hW1]; exact box5_alloc wr x
      have hlt1 : wr.heap.size < W1.heap.size := by rw [hW1]; simp
      have hw := write_any wb w.heap.size v (encs ys) x l (by omega) (by omega) (by omega) W1 (HWR0.out.wat.below hb1) (HT.out.below (hbel.trans (hb1.mono hbel.size)) hpos) hpos
        (((hll.below hbel).below hb1).mono fun b hb => ⟨by have : b < w.heap.size := hb; omega, fun e => by have h1 := (HWR0.out.wat.row_lt _ e).1; have : b < w.heap.size := hb; omega⟩)
      unfold It.val at hw
      have HGD : Hid ((wrS x l).1 = 0 → Good w (x, l)) := fun h => ⟨hn, hs3, by show l.length ≤ 3000; omega, hll, h⟩
      have HWL := Lib.hid hwl
      generalize hr : wrS x l = r at *
      have HR := Lib.hid hr
      obtain ⟨r1, r2⟩ := r
      rw [hW1] at hw
      have HW := Lib.hid hw
      have HW1E := Lib.hid hW1
      have HB1 := Lib.hid hb1
      have HX1 := Lib.hid hx1
      have HLT1 := Lib.hid hlt1
      clear hll hn hwf hs3 hl3 hlen hbel hen hwl hr hw hx1 hlt1 hb1 hW1
      go_wp2_with fail
      refine HW.out.mono ?_
      rintro e w6 ⟨rfl, v', ha6, st6⟩
      rw [← HW1E.out] at st6
      have HWA6 := HWR0.out.wat.below HB1.out
      have h6b : Below w.heap.size w w6 := (HWR0.out.bel.trans (HB1.out.mono HWR0.out.bel.size)).trans (st6.toBelow HWA6)
      have hrow6 := row_step (row_bel HWR0.out.row HB1.out) st6 HWR0.out.ne HWR0.out.far
      have hx6 : Box5 w6 wr.heap.size x := HX1.out.of_block (st6.block _ HLT1.out (by have := HWR0.out.wat.lt; omega) (fun e => by have := (HWR0.out.wat.row_lt _ e.symm).2; omega))
      have hfar6 : ∀ g, wv.ownBlock = some g → v'.ownBlock ≠ some g := by
        intro g hg
        rcases st6.lies with e | ⟨q, e, hq⟩
        · rw [e]; exact HWR0.out.far g hg
        · rw [e]; intro e'; injection e' with e'
          have := (HWR0.out.row.lt g hg).2
          have := HLT1.out
          omega
      by_cases hr0 : r1 = 0
      · have HGX := Lib.hid (HGD.out hr0)
        have hq : (r1 == 0) = true := by rw [hr0]; rfl
        obtain ⟨f0, f1, f2, f3, f4⟩ := hx6
        clear hr0 c0 c1 c2 c3 c4
        have hba : w.heap.size ≤ w6.heap.size := h6b.size
        go_wp2_with (at_builtin; refine wpList_append_own_at _ rfl _ _ 22 rfl w.heap.size 31 i0 _ 5 64 Tryd.underlying22 hi hz0 hz1 hz2 rfl (by decide) wv ys.length (cellsY ys) rfl (row_bel hrow6 (below_al (Below.refl _ _))) ⟨w6.heap.size, 0, none⟩ 1 1 (cells5 x) rfl rfl (news5 _ _ _) (one5 _) ?c3 ?c4 ?c5 ?_)
        case c3 => unfold maxLen; omega
        case c4 => omega
        case c5 => simp; omega
        intro wv' w7 hown hgrow _ hat
        have hF := wrote_snoc (l := l) hrow6 (by rw [HR.out]; exact ha6) HWR0.out.good HGX.out HWR0.out.ne hfar6 h6b (below_al (Below.refl _ _)) hown hgrow (by simpa using hat)
        have HF := Lib.hid hF
        clear hF hown hgrow hat hrow6 ha6 hfar6 h6b f0 f1 f2 f3 f4 st6 HWA6 hq
        go_wp2
        go_roundw
        case rel => exact ⟨k + 1, _, _, _, by omega, by go_num, rfl, by rw [List.length_append]; simp; omega, HF.out⟩
        case measure => simp [intOf]; omega
      · have hq : (r1 == 0) = false := by rw [beq_eq_false_iff_ne]; exact hr0
        have hr2 : r2 = [] := HWL.out.2 hr0
        subst hr2
        rw [List.append_nil] at ha6
        have HF : Hid (Wrote w w6 wb v' wv ys) := ⟨hrow6, ha6, HWR0.out.good, HWR0.out.ne, hfar6, h6b⟩
        clear hr0 ha6 st6 hrow6 hx6 hfar6 h6b HWA6 c0 c1 c2 c3 c4
        go_wp2
        go_roundw
        case rel => exact ⟨k + 1, _, _, ys, by omega, by go_num, rfl, by omega, HF.out⟩
        case measure => simp [intOf]; omega
    · obtain rfl : k = xs.length := by omega
      have HTX := Lib.hid (text_any _ _ _ _ wr HWR0.out.wat)
      have hen := encs_le ys HWR0.out.good
      have hys : ys.length ≤ 30 := by omega
      have htl2 : tl.size ≤ 3000 := by omega
      have hsz : ¬ (9223372036854775807 < (encs ys).length + tl.size) := by omega
      have HCAT : Hid ((⟨(encs ys).toArray⟩ : ByteArray) ++ tl = mk (encs ys ++ tl.data.toList)) := cat_str' _ _
      have HNR := Lib.hid (fun w => newReader_any (mk (encs ys ++ tl.data.toList)) w)
      have HSZ : Hid ((mk (encs ys ++ tl.data.toList)).size = (encs ys).length + tl.size) := by show _ = _; rw [mk_size, List.length_append, data_len]
      obtain ⟨a2, cap2, hwv, hx2⟩ := wrote_items HWR0.out
      subst hwv
      have HX2 := Lib.hid hx2
      have HHEN := Lib.hid hen
      clear hx2 hen
      go_wp2_with fail
      refine HTX.out.mono ?_
      rintro e w7 ⟨rfl, rfl⟩
      go_wp2_with fail
      rw [HCAT.out]
      refine (HNR.out _).mono ?_
      rintro e w8 ⟨rfl, B8, hr8⟩
      have HR8 := Lib.hid hr8
      have HB8 := Lib.hid (HWR0.out.bel.trans (B8.mono HWR0.out.bel.size))
      have HW8 := Lib.hid (HWR0.out.wat.below B8)
      have HI8 := Lib.hid (HX2.out.of_block (w' := w8) fun b hb => B8.block b hb)
      have hrb : w.heap.size ≤ wr.heap.size := HWR0.out.bel.size
      clear hr8 B8 HTX HNR
      have HT8 := Lib.hid (HT.out.below HB8.out hpos)
      have hwb2 := HWR0.out.wat.lt
      have HVB : Hid (∀ q, v.ownBlock = some q → q < wr.heap.size) := fun q e => (HWR0.out.wat.row_lt q e).2
      generalize wr.heap.size = rb at *
      go_wp2
      go_loopw [54] (fun i wr' => W2Rel w8 rb (mk (encs ys ++ tl.data.toList)) ys i wr') (fun i _ => ys.length - (intOf i).toNat)
      case atStart => exact ⟨0, Nat.zero_le _, rfl, HR8.out, RStep.of_below (Below.refl _ _)⟩
      case round =>
        obtain ⟨k, hk2, rfl, hr, hst⟩ := hrel
        have HR := Lib.hid hr
        have HST := Lib.hid hst
        have hrlt := hr.lt
        clear hr hst
        by_cases hlt2 : k < ys.length
        · have hlt2I : (k : Int) < (ys.length : Int) := by omega
          have hrb8 := HR8.out.lt
          have hitems := HI8.out.of_block (w' := wr) (fun b hb => HST.out.block b (by omega) (by omega))
          rcases hitems with hnil | ⟨b, o, rfl, hbl, hc⟩
          · rw [hnil] at hlt2; exact absurd hlt2 (Nat.not_lt_zero _)
          obtain ⟨c0, c1, c2, c3, c4⟩ := hc k hlt2
          clear hc
          have hgd := HWR0.out.good _ (List.getElem_mem hlt2)
          have hea := encs_at ys k hlt2
          have het := encs_take ys k hlt2
          have hrs : rest (mk (encs ys ++ tl.data.toList)) (encs (ys.take k)).length = mk ((wrS ys[k].1 ys[k].2).2 ++ (encs (ys.drop (k + 1)) ++ tl.data.toList)) := by
            rw [hea, List.append_assoc, rest_mk, List.append_assoc]
          have hrd := rdA ys[k].1 ys[k].2 (encs (ys.drop (k + 1)) ++ tl.data.toList) hgd.n (by have := hgd.s; omega) (by have := hgd.l; omega) hgd.ok
          rw [← hrs] at hrd
          generalize ys[k] = y at *
          obtain ⟨x, l⟩ := y
          obtain ⟨kk, z, n, s, la, ll, lc⟩ := x
          simp only at *
          have HGD := Lib.hid hgd
          have HET := Lib.hid het
          clear hgd hea het hrs
          obtain ⟨hd0, hd2, hd4, hd3⟩ := hrd
          by_cases h0 : kk = 0
          · subst h0
            have HD := Lib.hid (hd0 (by simp))
            clear hd0 hd2 hd4 hd3
            obtain ⟨W, hW⟩ : ∃ W, W = (wr.alloc (.cells #[.int .i64 0, .int .i64 z, .int .i64 n, .string ⟨#[]⟩, .slice none 0 0] 31)).alloc (.cells #[.int .i64 0, .int .i64 z] 42) := ⟨_, rfl⟩
            have hbW : Below wr.heap.size wr W := by rw [hW]; exact below_al (below_al (Below.refl _ _))
            have hWl : wr.heap.size + 1 < W.heap.size := by rw [hW]; simp
            have hstW := HST.out.below hbW
            have hbelW := below_rstep HB8.out hstW hrb HB8.out.size
            have hbx : Box5 W wr.heap.size ⟨0, z, n, ⟨#[]⟩, none, 0, 0⟩ := by rw [hW]; exact (box5_alloc wr ⟨0, z, n, ⟨#[]⟩, none, 0, 0⟩).below (below_al (Below.refl _ _))
            have hrd := ret_rd rb _ _ 0 z n ⟨#[]⟩ [] _ (by rw [HSZ.out]; have := HHEN.out; omega) HD.out W (HR.out.below hbW) (HT.out.below hbelW hpos)
            have HWE := Lib.hid hW
            rw [hW] at hrd
            have HRD := Lib.hid hrd
            have HSTW := Lib.hid hstW
            have HBELW := Lib.hid hbelW
            have HBX := Lib.hid hbx
            have HWL := Lib.hid hWl
            clear hrd hW hbW hstW hbelW hbx hWl
            go_wp2_with fail
            refine HRD.out.mono ?_
            rintro e w9 ⟨a9, ll9, lc9, rfl, hr9, hs9, hv9⟩
            rw [← HWE.out] at hs9 hv9
            have hx9 := HBX.out.of_block (hs9.block wr.heap.size (by have := HWL.out; omega) (by omega))
            have hst9 := HSTW.out.trans hs9
            have hbel9 := below_rstep HB8.out hst9 hrb HB8.out.size
            have hby : Below w9.heap.size w9 (w9.alloc (.cells #[.int .i64 0, .int .i64 0, .int .i64 n, .string ⟨#[]⟩, .slice a9 ll9 lc9] 31)) := below_al (Below.refl _ _)
            have hsm := same_any _ _ ⟨0, z, n, ⟨#[]⟩, none, 0, 0⟩ ⟨0, 0, n, ⟨#[]⟩, a9, ll9, lc9⟩ [] [] (by have := HGD.out.l; first | (simp; done) | (simp only at this; omega)) _ (show BoolsAt (fun _ => True) _ _ _ from ⟨none, 0, rfl, .inl rfl⟩) (hv9.below hby)
            have hsb : sameB ⟨0, z, n, ⟨#[]⟩, none, 0, 0⟩ ⟨0, 0, n, ⟨#[]⟩, a9, ll9, lc9⟩ [] [] = true := by simp [sameB]
            rw [hsb] at hsm
            unfold It.val at hsm
            have HSM := Lib.hid hsm
            have HR9 := Lib.hid (hr9.below hby)
            have HS9 := Lib.hid (hst9.below hby)
            unfold Box5 at hx9
            simp only at hx9
            have hlt9 : wr.heap.size < w9.heap.size := by have := hs9.size; have := HWL.out; omega
            obtain ⟨f0, f1, f2, f3, f4⟩ := hx9
            clear c0 c1 c2 c3 c4 hsm hsb hv9 hs9 hr9 hst9 hbel9 hby
            go_wp2_with fail
            refine HSM.out.mono ?_
            rintro e w10 ⟨rfl, hb10⟩
            have HR10 := Lib.hid (HR9.out.below hb10)
            have HS10 := Lib.hid (HS9.out.below hb10)
            clear hb10 f0 f1 f2 f3 f4
            go_wp2
            go_roundw
            case rel => exact ⟨k + 1, by omega, by go_num, by rw [HET.out]; exact HR10.out, HS10.out⟩
            case measure => simp [intOf]; omega
          by_cases h1 : kk = 1
          · subst h1
            have HD := Lib.hid (hd0 (by simp))
            clear hd0 hd2 hd4 hd3
            obtain ⟨W, hW⟩ : ∃ W, W = (wr.alloc (.cells #[.int .i64 1, .int .i64 z, .int .i64 n, .string ⟨#[]⟩, .slice none 0 0] 31)).alloc (.cells #[.int .i64 1, .int .i64 z] 42) := ⟨_, rfl⟩
            have hbW : Below wr.heap.size wr W := by rw [hW]; exact below_al (below_al (Below.refl _ _))
            have hWl : wr.heap.size + 1 < W.heap.size := by rw [hW]; simp
            have hstW := HST.out.below hbW
            have hbelW := below_rstep HB8.out hstW hrb HB8.out.size
            have hbx : Box5 W wr.heap.size ⟨1, z, n, ⟨#[]⟩, none, 0, 0⟩ := by rw [hW]; exact (box5_alloc wr ⟨1, z, n, ⟨#[]⟩, none, 0, 0⟩).below (below_al (Below.refl _ _))
            have hrd := ret_rd rb _ _ 1 z n ⟨#[]⟩ [] _ (by rw [HSZ.out]; have := HHEN.out; omega) HD.out W (HR.out.below hbW) (HT.out.below hbelW hpos)
            have HWE := Lib.hid hW
            rw [hW] at hrd
            have HRD := Lib.hid hrd
            have HSTW := Lib.hid hstW
            have HBELW := Lib.hid hbelW
            have HBX := Lib.hid hbx
            have HWL := Lib.hid hWl
            clear hrd hW hbW hstW hbelW hbx hWl
            go_wp2_with fail
            refine HRD.out.mono ?_
            rintro e w9 ⟨a9, ll9, lc9, rfl, hr9, hs9, hv9⟩
            rw [← HWE.out] at hs9 hv9
            have hx9 := HBX.out.of_block (hs9.block wr.heap.size (by have := HWL.out; omega) (by omega))
            have hst9 := HSTW.out.trans hs9
            have hbel9 := below_rstep HB8.out hst9 hrb HB8.out.size
            have hby : Below w9.heap.size w9 (w9.alloc (.cells #[.int .i64 0, .int .i64 0, .int .i64 n, .string ⟨#[]⟩, .slice a9 ll9 lc9] 31)) := below_al (Below.refl _ _)
            have hsm := same_any _ _ ⟨1, z, n, ⟨#[]⟩, none, 0, 0⟩ ⟨0, 0, n, ⟨#[]⟩, a9, ll9, lc9⟩ [] [] (by have := HGD.out.l; first | (simp; done) | (simp only at this; omega)) _ (show BoolsAt (fun _ => True) _ _ _ from ⟨none, 0, rfl, .inl rfl⟩) (hv9.below hby)
            have hsb : sameB ⟨1, z, n, ⟨#[]⟩, none, 0, 0⟩ ⟨0, 0, n, ⟨#[]⟩, a9, ll9, lc9⟩ [] [] = true := by simp [sameB]
            rw [hsb] at hsm
            unfold It.val at hsm
            have HSM := Lib.hid hsm
            have HR9 := Lib.hid (hr9.below hby)
            have HS9 := Lib.hid (hst9.below hby)
            unfold Box5 at hx9
            simp only at hx9
            have hlt9 : wr.heap.size < w9.heap.size := by have := hs9.size; have := HWL.out; omega
            obtain ⟨f0, f1, f2, f3, f4⟩ := hx9
            clear c0 c1 c2 c3 c4 hsm hsb hv9 hs9 hr9 hst9 hbel9 hby
            go_wp2_with fail
            refine HSM.out.mono ?_
            rintro e w10 ⟨rfl, hb10⟩
            have HR10 := Lib.hid (HR9.out.below hb10)
            have HS10 := Lib.hid (HS9.out.below hb10)
            clear hb10 f0 f1 f2 f3 f4
            go_wp2
            go_roundw
            case rel => exact ⟨k + 1, by omega, by go_num, by rw [HET.out]; exact HR10.out, HS10.out⟩
            case measure => simp [intOf]; omega
          by_cases h2 : kk = 2
          · subst h2
            have HD := Lib.hid (hd2 (by simp))
            clear hd0 hd2 hd4 hd3
            obtain ⟨W, hW⟩ : ∃ W, W = (wr.alloc (.cells #[.int .i64 2, .int .i64 z, .int .i64 n, .string ⟨#[]⟩, .slice none 0 0] 31)).alloc (.cells #[.int .i64 2, .int .i64 z] 42) := ⟨_, rfl⟩
            have hbW : Below wr.heap.size wr W := by rw [hW]; exact below_al (below_al (Below.refl _ _))
            have hWl : wr.heap.size + 1 < W.heap.size := by rw [hW]; simp
            have hstW := HST.out.below hbW
            have hbelW := below_rstep HB8.out hstW hrb HB8.out.size
            have hbx : Box5 W wr.heap.size ⟨2, z, n, ⟨#[]⟩, none, 0, 0⟩ := by rw [hW]; exact (box5_alloc wr ⟨2, z, n, ⟨#[]⟩, none, 0, 0⟩).below (below_al (Below.refl _ _))
            have hrd := ret_rd rb _ _ 2 z n ⟨#[]⟩ [] _ (by rw [HSZ.out]; have := HHEN.out; omega) HD.out W (HR.out.below hbW) (HT.out.below hbelW hpos)
            have HWE := Lib.hid hW
            rw [hW] at hrd
            have HRD := Lib.hid hrd
            have HSTW := Lib.hid hstW
            have HBELW := Lib.hid hbelW
            have HBX := Lib.hid hbx
            have HWL := Lib.hid hWl
            clear hrd hW hbW hstW hbelW hbx hWl
            go_wp2_with fail
            refine HRD.out.mono ?_
            rintro e w9 ⟨a9, ll9, lc9, rfl, hr9, hs9, hv9⟩
            rw [← HWE.out] at hs9 hv9
            have hx9 := HBX.out.of_block (hs9.block wr.heap.size (by have := HWL.out; omega) (by omega))
            have hst9 := HSTW.out.trans hs9
            have hbel9 := below_rstep HB8.out hst9 hrb HB8.out.size
            have hby : Below w9.heap.size w9 (w9.alloc (.cells #[.int .i64 0, .int .i64 0, .int .i64 n, .string ⟨#[]⟩, .slice a9 ll9 lc9] 31)) := below_al (Below.refl _ _)
            have hsm := same_any _ _ ⟨2, z, n, ⟨#[]⟩, none, 0, 0⟩ ⟨0, 0, n, ⟨#[]⟩, a9, ll9, lc9⟩ [] [] (by have := HGD.out.l; first | (simp; done) | (simp only at this; omega)) _ (show BoolsAt (fun _ => True) _ _ _ from ⟨none, 0, rfl, .inl rfl⟩) (hv9.below hby)
            have hsb : sameB ⟨2, z, n, ⟨#[]⟩, none, 0, 0⟩ ⟨0, 0, n, ⟨#[]⟩, a9, ll9, lc9⟩ [] [] = true := by simp [sameB]
            rw [hsb] at hsm
            unfold It.val at hsm
            have HSM := Lib.hid hsm
            have HR9 := Lib.hid (hr9.below hby)
            have HS9 := Lib.hid (hst9.below hby)
            unfold Box5 at hx9
            simp only at hx9
            have hlt9 : wr.heap.size < w9.heap.size := by have := hs9.size; have := HWL.out; omega
            obtain ⟨f0, f1, f2, f3, f4⟩ := hx9
            clear c0 c1 c2 c3 c4 hsm hsb hv9 hs9 hr9 hst9 hbel9 hby
            go_wp2_with fail
            refine HSM.out.mono ?_
            rintro e w10 ⟨rfl, hb10⟩
            have HR10 := Lib.hid (HR9.out.below hb10)
            have HS10 := Lib.hid (HS9.out.below hb10)
            clear hb10 f0 f1 f2 f3 f4
            go_wp2
            go_roundw
            case rel => exact ⟨k + 1, by omega, by go_num, by rw [HET.out]; exact HR10.out, HS10.out⟩
            case measure => simp [intOf]; omega
          by_cases h6 : kk = 6
          · subst h6
            have HD := Lib.hid (hd2 (by simp))
            clear hd0 hd2 hd4 hd3
            obtain ⟨W, hW⟩ : ∃ W, W = (wr.alloc (.cells #[.int .i64 6, .int .i64 z, .int .i64 n, .string ⟨#[]⟩, .slice none 0 0] 31)).alloc (.cells #[.int .i64 2, .int .i64 z] 42) := ⟨_, rfl⟩
            have hbW : Below wr.heap.size wr W := by rw [hW]; exact below_al (below_al (Below.refl _ _))
            have hWl : wr.heap.size + 1 < W.heap.size := by rw [hW]; simp
            have hstW := HST.out.below hbW
            have hbelW := below_rstep HB8.out hstW hrb HB8.out.size
            have hbx : Box5 W wr.heap.size ⟨6, z, n, ⟨#[]⟩, none, 0, 0⟩ := by rw [hW]; exact (box5_alloc wr ⟨6, z, n, ⟨#[]⟩, none, 0, 0⟩).below (below_al (Below.refl _ _))
            have hrd := ret_rd rb _ _ 2 z n ⟨#[]⟩ [] _ (by rw [HSZ.out]; have := HHEN.out; omega) HD.out W (HR.out.below hbW) (HT.out.below hbelW hpos)
            have HWE := Lib.hid hW
            rw [hW] at hrd
            have HRD := Lib.hid hrd
            have HSTW := Lib.hid hstW
            have HBELW := Lib.hid hbelW
            have HBX := Lib.hid hbx
            have HWL := Lib.hid hWl
            clear hrd hW hbW hstW hbelW hbx hWl
            go_wp2_with fail
            refine HRD.out.mono ?_
            rintro e w9 ⟨a9, ll9, lc9, rfl, hr9, hs9, hv9⟩
            rw [← HWE.out] at hs9 hv9
            have hx9 := HBX.out.of_block (hs9.block wr.heap.size (by have := HWL.out; omega) (by omega))
            have hst9 := HSTW.out.trans hs9
            have hbel9 := below_rstep HB8.out hst9 hrb HB8.out.size
            have hby : Below w9.heap.size w9 (w9.alloc (.cells #[.int .i64 0, .int .i64 0, .int .i64 n, .string ⟨#[]⟩, .slice a9 ll9 lc9] 31)) := below_al (Below.refl _ _)
            have hsm := same_any _ _ ⟨6, z, n, ⟨#[]⟩, none, 0, 0⟩ ⟨0, 0, n, ⟨#[]⟩, a9, ll9, lc9⟩ [] [] (by have := HGD.out.l; first | (simp; done) | (simp only at this; omega)) _ (show BoolsAt (fun _ => True) _ _ _ from ⟨none, 0, rfl, .inl rfl⟩) (hv9.below hby)
            have hsb : sameB ⟨6, z, n, ⟨#[]⟩, none, 0, 0⟩ ⟨0, 0, n, ⟨#[]⟩, a9, ll9, lc9⟩ [] [] = true := by simp [sameB]
            rw [hsb] at hsm
            unfold It.val at hsm
            have HSM := Lib.hid hsm
            have HR9 := Lib.hid (hr9.below hby)
            have HS9 := Lib.hid (hst9.below hby)
            unfold Box5 at hx9
            simp only at hx9
            have hlt9 : wr.heap.size < w9.heap.size := by have := hs9.size; have := HWL.out; omega
            obtain ⟨f0, f1, f2, f3, f4⟩ := hx9
            clear c0 c1 c2 c3 c4 hsm hsb hv9 hs9 hr9 hst9 hbel9 hby
            go_wp2_with fail
            refine HSM.out.mono ?_
            rintro e w10 ⟨rfl, hb10⟩
            have HR10 := Lib.hid (HR9.out.below hb10)
            have HS10 := Lib.hid (HS9.out.below hb10)
            clear hb10 f0 f1 f2 f3 f4
            go_wp2
            go_roundw
            case rel => exact ⟨k + 1, by omega, by go_num, by rw [HET.out]; exact HR10.out, HS10.out⟩
            case measure => simp [intOf]; omega
          by_cases h4 : kk = 4
          · subst h4
            have hlle : ll = l.length := bools_len' HGD.out.at_
            subst hlle
            have HD := Lib.hid (hd4 (by simp))
            clear hd0 hd2 hd4 hd3
            obtain ⟨W, hW⟩ : ∃ W, W = (wr.alloc (.cells #[.int .i64 4, .int .i64 z, .int .i64 0, .string ⟨#[]⟩, .slice la l.length lc] 31)).alloc (.cells #[.int .i64 4, .int .i64 (l.length)] 42) := ⟨_, rfl⟩
            have hbW : Below wr.heap.size wr W := by rw [hW]; exact below_al (below_al (Below.refl _ _))
            have hWl : wr.heap.size + 1 < W.heap.size := by rw [hW]; simp
            have hstW := HST.out.below hbW
            have hbelW := below_rstep HB8.out hstW hrb HB8.out.size
            have hbx : Box5 W wr.heap.size ⟨4, z, 0, ⟨#[]⟩, la, l.length, lc⟩ := by rw [hW]; exact (box5_alloc wr ⟨4, z, 0, ⟨#[]⟩, la, l.length, lc⟩).below (below_al (Below.refl _ _))
            have hrd := ret_rd rb _ _ 4 (l.length) 0 ⟨#[]⟩ l _ (by rw [HSZ.out]; have := HHEN.out; omega) HD.out W (HR.out.below hbW) (HT.out.below hbelW hpos)
            have HWE := Lib.hid hW
            rw [hW] at hrd
            have HRD := Lib.hid hrd
            have HSTW := Lib.hid hstW
            have HBELW := Lib.hid hbelW
            have HBX := Lib.hid hbx
            have HWL := Lib.hid hWl
            clear hrd hW hbW hstW hbelW hbx hWl
            go_wp2_with fail
            refine HRD.out.mono ?_
            rintro e w9 ⟨a9, ll9, lc9, rfl, hr9, hs9, hv9⟩
            rw [← HWE.out] at hs9 hv9
            have hx9 := HBX.out.of_block (hs9.block wr.heap.size (by have := HWL.out; omega) (by omega))
            have hst9 := HSTW.out.trans hs9
            have hbel9 := below_rstep HB8.out hst9 hrb HB8.out.size
            have hby : Below w9.heap.size w9 (w9.alloc (.cells #[.int .i64 0, .int .i64 0, .int .i64 0, .string ⟨#[]⟩, .slice a9 ll9 lc9] 31)) := below_al (Below.refl _ _)
            have hsm := same_any _ _ ⟨4, z, 0, ⟨#[]⟩, la, l.length, lc⟩ ⟨0, 0, 0, ⟨#[]⟩, a9, ll9, lc9⟩ l l (by have := HGD.out.l; first | (simp; done) | (simp only at this; omega)) _ ((HGD.out.at_.below hbel9).below hby) (hv9.below hby)
            have hsb : sameB ⟨4, z, 0, ⟨#[]⟩, la, l.length, lc⟩ ⟨0, 0, 0, ⟨#[]⟩, a9, ll9, lc9⟩ l l = true := by simp [sameB]
            rw [hsb] at hsm
            unfold It.val at hsm
            have HSM := Lib.hid hsm
            have HR9 := Lib.hid (hr9.below hby)
            have HS9 := Lib.hid (hst9.below hby)
            unfold Box5 at hx9
            simp only at hx9
            have hlt9 : wr.heap.size < w9.heap.size := by have := hs9.size; have := HWL.out; omega
            obtain ⟨f0, f1, f2, f3, f4⟩ := hx9
            clear c0 c1 c2 c3 c4 hsm hsb hv9 hs9 hr9 hst9 hbel9 hby
            go_wp2_with fail
            refine HSM.out.mono ?_
            rintro e w10 ⟨rfl, hb10⟩
            have HR10 := Lib.hid (HR9.out.below hb10)
            have HS10 := Lib.hid (HS9.out.below hb10)
            clear hb10 f0 f1 f2 f3 f4
            go_wp2
            go_roundw
            case rel => exact ⟨k + 1, by omega, by go_num, by rw [HET.out]; exact HR10.out, HS10.out⟩
            case measure => simp [intOf]; omega
          by_cases h3 : kk = 3
          · subst h3
            have HD := Lib.hid (hd3 (by simp) (by simp) (by simp) (by simp) (by simp))
            clear hd0 hd2 hd4 hd3
            obtain ⟨W, hW⟩ : ∃ W, W = (wr.alloc (.cells #[.int .i64 3, .int .i64 z, .int .i64 0, .string s, .slice none 0 0] 31)).alloc (.cells #[.int .i64 3, .int .i64 (s.size)] 42) := ⟨_, rfl⟩
            have hbW : Below wr.heap.size wr W := by rw [hW]; exact below_al (below_al (Below.refl _ _))
            have hWl : wr.heap.size + 1 < W.heap.size := by rw [hW]; simp
            have hstW := HST.out.below hbW
            have hbelW := below_rstep HB8.out hstW hrb HB8.out.size
            have hbx : Box5 W wr.heap.size ⟨3, z, 0, s, none, 0, 0⟩ := by rw [hW]; exact (box5_alloc wr ⟨3, z, 0, s, none, 0, 0⟩).below (below_al (Below.refl _ _))
            have hrd := ret_rd rb _ _ 3 (s.size) 0 s [] _ (by rw [HSZ.out]; have := HHEN.out; omega) HD.out W (HR.out.below hbW) (HT.out.below hbelW hpos)
            have HWE := Lib.hid hW
            rw [hW] at hrd
            have HRD := Lib.hid hrd
            have HSTW := Lib.hid hstW
            have HBELW := Lib.hid hbelW
            have HBX := Lib.hid hbx
            have HWL := Lib.hid hWl
            clear hrd hW hbW hstW hbelW hbx hWl
            go_wp2_with fail
            refine HRD.out.mono ?_
            rintro e w9 ⟨a9, ll9, lc9, rfl, hr9, hs9, hv9⟩
            rw [← HWE.out] at hs9 hv9
            have hx9 := HBX.out.of_block (hs9.block wr.heap.size (by have := HWL.out; omega) (by omega))
            have hst9 := HSTW.out.trans hs9
            have hbel9 := below_rstep HB8.out hst9 hrb HB8.out.size
            have hby : Below w9.heap.size w9 (w9.alloc (.cells #[.int .i64 0, .int .i64 0, .int .i64 0, .string s, .slice a9 ll9 lc9] 31)) := below_al (Below.refl _ _)
            have hsm := same_any _ _ ⟨3, z, 0, s, none, 0, 0⟩ ⟨0, 0, 0, s, a9, ll9, lc9⟩ [] [] (by have := HGD.out.l; first | (simp; done) | (simp only at this; omega)) _ (show BoolsAt (fun _ => True) _ _ _ from ⟨none, 0, rfl, .inl rfl⟩) (hv9.below hby)
            have hsb : sameB ⟨3, z, 0, s, none, 0, 0⟩ ⟨0, 0, 0, s, a9, ll9, lc9⟩ [] [] = true := by simp [sameB]
            rw [hsb] at hsm
            unfold It.val at hsm
            have HSM := Lib.hid hsm
            have HR9 := Lib.hid (hr9.below hby)
            have HS9 := Lib.hid (hst9.below hby)
            unfold Box5 at hx9
            simp only at hx9
            have hlt9 : wr.heap.size < w9.heap.size := by have := hs9.size; have := HWL.out; omega
            obtain ⟨f0, f1, f2, f3, f4⟩ := hx9
            clear c0 c1 c2 c3 c4 hsm hsb hv9 hs9 hr9 hst9 hbel9 hby
            go_wp2_with fail
            refine HSM.out.mono ?_
            rintro e w10 ⟨rfl, hb10⟩
            have HR10 := Lib.hid (HR9.out.below hb10)
            have HS10 := Lib.hid (HS9.out.below hb10)
            clear hb10 f0 f1 f2 f3 f4
            go_wp2
            go_roundw
            case rel => exact ⟨k + 1, by omega, by go_num, by rw [HET.out]; exact HR10.out, HS10.out⟩
            case measure => simp [intOf]; omega
          have q0 : (kk == 0) = false := by rw [beq_eq_false_iff_ne]; exact h0
          have q1 : (kk == 1) = false := by rw [beq_eq_false_iff_ne]; exact h1
          have q2 : (kk == 2) = false := by rw [beq_eq_false_iff_ne]; exact h2
          have q3 : (kk == 3) = false := by rw [beq_eq_false_iff_ne]; exact h3
          have q4 : (kk == 4) = false := by rw [beq_eq_false_iff_ne]; exact h4
          have q6 : (kk == 6) = false := by rw [beq_eq_false_iff_ne]; exact h6
          have HD := Lib.hid (hd3 h0 h1 h2 h6 h4)
          clear hd0 hd2 hd4 hd3
          obtain ⟨W, hW⟩ : ∃ W, W = (wr.alloc (.cells #[.int .i64 kk, .int .i64 z, .int .i64 0, .string s, .slice none 0 0] 31)).alloc (.cells #[.int .i64 kk, .int .i64 (s.size)] 42) := ⟨_, rfl⟩
          have hbW : Below wr.heap.size wr W := by rw [hW]; exact below_al (below_al (Below.refl _ _))
          have hWl : wr.heap.size + 1 < W.heap.size := by rw [hW]; simp
          have hstW := HST.out.below hbW
          have hbelW := below_rstep HB8.out hstW hrb HB8.out.size
          have hbx : Box5 W wr.heap.size ⟨kk, z, 0, s, none, 0, 0⟩ := by rw [hW]; exact (box5_alloc wr ⟨kk, z, 0, s, none, 0, 0⟩).below (below_al (Below.refl _ _))
          have hrd := ret_rd rb _ _ kk (s.size) 0 s [] _ (by rw [HSZ.out]; have := HHEN.out; omega) HD.out W (HR.out.below hbW) (HT.out.below hbelW hpos)
          have HWE := Lib.hid hW
          rw [hW] at hrd
          have HRD := Lib.hid hrd
          have HSTW := Lib.hid hstW
          have HBELW := Lib.hid hbelW
          have HBX := Lib.hid hbx
          have HWL := Lib.hid hWl
          clear hrd hW hbW hstW hbelW hbx hWl
          go_wp2_with fail
          refine HRD.out.mono ?_
          rintro e w9 ⟨a9, ll9, lc9, rfl, hr9, hs9, hv9⟩
          rw [← HWE.out] at hs9 hv9
          have hx9 := HBX.out.of_block (hs9.block wr.heap.size (by have := HWL.out; omega) (by omega))
          have hst9 := HSTW.out.trans hs9
          have hbel9 := below_rstep HB8.out hst9 hrb HB8.out.size
          have hby : Below w9.heap.size w9 (w9.alloc (.cells #[.int .i64 0, .int .i64 0, .int .i64 0, .string s, .slice a9 ll9 lc9] 31)) := below_al (Below.refl _ _)
          have hsm := same_any _ _ ⟨kk, z, 0, s, none, 0, 0⟩ ⟨0, 0, 0, s, a9, ll9, lc9⟩ [] [] (by have := HGD.out.l; first | (simp; done) | (simp only at this; omega)) _ (show BoolsAt (fun _ => True) _ _ _ from ⟨none, 0, rfl, .inl rfl⟩) (hv9.below hby)
          have hsb : sameB ⟨kk, z, 0, s, none, 0, 0⟩ ⟨0, 0, 0, s, a9, ll9, lc9⟩ [] [] = true := by simp [sameB]
          rw [hsb] at hsm
          unfold It.val at hsm
          have HSM := Lib.hid hsm
          have HR9 := Lib.hid (hr9.below hby)
          have HS9 := Lib.hid (hst9.below hby)
          unfold Box5 at hx9
          simp only at hx9
          have hlt9 : wr.heap.size < w9.heap.size := by have := hs9.size; have := HWL.out; omega
          obtain ⟨f0, f1, f2, f3, f4⟩ := hx9
          clear c0 c1 c2 c3 c4 hsm hsb hv9 hs9 hr9 hst9 hbel9 hby
          go_wp2_with fail
          refine HSM.out.mono ?_
          rintro e w10 ⟨rfl, hb10⟩
          have HR10 := Lib.hid (HR9.out.below hb10)
          have HS10 := Lib.hid (HS9.out.below hb10)
          clear hb10 f0 f1 f2 f3 f4
          go_wp2
          go_roundw
          case rel => exact ⟨k + 1, by omega, by go_num, by rw [HET.out]; exact HR10.out, HS10.out⟩
          case measure => simp [intOf]; omega
        · obtain rfl : k = ys.length := by omega
          rw [List.take_length] at HR
          have hrs : rest (mk (encs ys ++ tl.data.toList)) (encs ys).length = mk (tl.data.toList ++ []) := by rw [rest_mk, List.append_nil]
          have hS9 : (mk (encs ys ++ tl.data.toList)).size ≤ 1000000000 := by rw [HSZ.out]; have := HHEN.out; omega
          have HRAW := Lib.hid (end_raw rb _ _ tl hS9 hrs wr HR.out)
          have HEND := Lib.hid (fun w' h => end_end rb ((encs ys).length + tl.size) _ hS9 HSZ.out.symm w' h)
          have HLEFT := Lib.hid (fun w' h => left_any rb (mk (encs ys ++ tl.data.toList)) ((encs ys).length + tl.size) 0 hS9 w' h)
          have hwrb : wb ≠ rb := by omega
          have hvrb : v.ownBlock ≠ some rb := fun e => by have := HVB.out _ e; omega
          have HBD9 := Lib.hid HSZ.out
          clear hrs hS9
          go_wp2_with fail
          refine HRAW.out.mono ?_
          rintro e w9 ⟨rfl, hr9, hs9⟩
          have HE9 := Lib.hid (HEND.out w9 hr9)
          have HS9 := Lib.hid (HST.out.trans hs9)
          clear hr9 hs9
          go_wp2_with fail
          refine HE9.out.mono ?_
          rintro e w10 ⟨rfl, hr10, hs10⟩
          have HL10 := HLEFT.out w10 hr10
          rw [HSZ.out, show (((encs ys).length + tl.size : Nat) : Int) - (((encs ys).length + tl.size : Nat) : Int) = 0 by omega] at HL10
          have HLE := Lib.hid HL10
          have HR10 := Lib.hid hr10
          have HS10 := Lib.hid (HS9.out.trans hs10)
          clear hr10 hs10 HL10
          go_wp2_with fail
          refine HLE.out.mono ?_
          rintro e w11 ⟨rfl, hb11⟩
          have HA11 := Lib.hid (at_any _ _ _ _ w11 (HR10.out.below hb11))
          have HS11 := Lib.hid (HS10.out.below hb11)
          have HL11 := Lib.hid (len_any _ _ _ _ w11 (HW8.out.rstep HS11.out hwrb hvrb))
          have HB11 := Lib.hid (below_rstep HB8.out HS11.out hrb HB8.out.size)
          clear hb11
          go_wp2_with fail
          refine HA11.out.mono ?_
          rintro e w12 ⟨rfl, rfl⟩
          go_wp2_with fail
          refine HL11.out.mono ?_
          rintro e w12 ⟨rfl, rfl⟩
          go_wp2
          go_ret
          exact ⟨ret_bool (by simp), HB11.out⟩

set_option maxRecDepth 100000 in
theorem lifted (os : Os) (started : os.Started) (H : Type) (enc : TypeId × Value → H) :
    ReturnsInHanded {} Tryd.checked os 5 .any (fun w args => (Rows.wireReturnsSpec.pre enc Tryd.prog Tryd.f5 [] false w args ∧ laidMetH Tryd.prog laid1 w) ∧ sizedMet enc Tryd.prog Tryd.f5 (OpenSpec.ofChange Rows.wireReturnsSpec) false w args)
      (Rows.wireReturnsSpec.post enc Tryd.prog Tryd.f5 false true false false) := by
  refine returnsInHanded_of_change_and (C := Tryd.checked) (X := fun w _ => laidMetH Tryd.prog laid1 w) (fun _ _ _ hh h => h.of_heap hh) own started (by kernel_rfl) Tryd.func5
    (ChangeSpec.witness_shaped (enc := enc) (C := Tryd.checked) (os := os) (X := fun w _ => laidMetH Tryd.prog laid1 w) false (World.doorLaid Tryd.prog 400 os) #[.slice none 0 0, .string ByteArray.empty] 8 rfl (World.shaped_of_RefB (by kernel_rfl) (by kernel_rfl)) (by kernel_rfl) (by kernel_rfl) (by kernel_rfl) (door_met os _)) ?_
  intro W base args ds gs before hval0 hW _ _ hL _
  have hval : ∀ (j : Nat) t v, Tryd.f5.params[j]? = some t → args[j]? = some v → Value.okWide Tryd.prog W .any base t v := hval0
  have hW' := hW
  obtain ⟨p, q, hA0, hV, rfl, hfz, hnd⟩ := hW
  have hA : DataW.TrodAll enc Tryd.prog W 0 (fun _ => true) true Tryd.f5.params.toList args.toList ds p := hA0
  rw [Tryd.params5] at hA hval
  obtain ⟨v0, vs0, d0, ds0, p0, q0, hargs, rfl, rfl, h0, r0⟩ := trodAll_cons hA
  obtain ⟨v1, vs1, d1, ds1, p1, q1, rfl, rfl, rfl, h1, r1⟩ := trodAll_cons r0
  obtain ⟨rfl, rfl, rfl⟩ := trodAll_nil r1
  obtain rfl : args = #[v0, v1] := by cases args; simp_all
  obtain ⟨rfl, rfl⟩ := trodVars_none hV
  have k0 := h0
  have lt0 : ∀ x ∈ p0, x.block < W.heap.size := by obtain ⟨m, hm⟩ := k0; exact DataW.trod_lt m _ _ _ hm
  obtain ⟨xs0, ls0, hx0, hl0, hb0, wf0⟩ := open_items (hval 0 22 v0 rfl rfl) h0
  obtain ⟨a1, rfl, rfl, rfl, w1⟩ := open_string Tryd.underlying9 (hval 1 9 v1 rfl rfl) h1
  clear hA0 hval0
  have ht := of_laid hL
  refine (walk v0 xs0 ls0 a1 W hx0 hl0 hb0 wf0 ht).mono fun e W' ⟨he, bel⟩ => ?_
  subst he
  exact ⟨_, rfl, _, _, _, [], _, [], hW', trodAll_mk1 (shut_bool Tryd.underlying4 _), (trodAll_cons_mk (Below.trod laidOut (by kernel_rfl) (of_decide_eq_true (by kernel_rfl)) k0 bel lt0) (trodAll_cons_mk (shut_string Tryd.underlying9 w1) trodAll_mk0)), rfl, bel.frame _, fun h => by cases h⟩

theorem over : Rows.wireReturnsRow.holds Tryd.pinned (OpenSpec.ofChange Rows.wireReturnsSpec) :=
  OpenClaim.holds_of_wide 5 Tryd.f5 rfl rfl rfl rfl rfl rfl rfl ⟨rfl, rfl, rfl, rfl, rfl⟩ rfl rfl rfl rfl rfl (by kernel_rfl) Tryd.func5 (by kernel_rfl)
    (of_decide_eq_true (by kernel_rfl)) (by unfold Func.isWrapper; first | (rw [if_pos (by decide +kernel)]; kernel_rfl) | (rw [if_neg (by decide +kernel)]; exact ⟨rfl, rfl⟩))
    (fun os started H enc _ => lifted os started H enc)

theorem card_holds : Rows.WireReturnsCardSaid :=
  Claim7.holds_tied_plain_at .later [] [.data] true (true, "1e96a78fc00194934d42a12a0dbef2585bede4f87d841dcadeaee66c04a8f023") false
    over (fun _ h => by cases h) (by kernel_rfl) (fun _ h => by cases h) wireReturns_row_tie rfl ⟨rfl, rfl⟩ (by kernel_rfl) rfl
    (fun f fn hf hfn => by
      obtain rfl : f = 5 := Option.some.inj ((show Tryd.prog.funcNamed "acheron/acheronlaw02.WireReturns" = some 5 by kernel_rfl).symm.trans hf) |>.symm
      obtain rfl : fn = Tryd.f5 := (Option.some.inj (Tryd.func5.symm.trans hfn)).symm
      exact ⟨by kernel_rfl, fun j t ht => by
        rw [Tryd.params5] at ht
        have hm : t ∈ [22, 9] := by have := Array.mem_of_getElem? ht; simp at this ⊢; omega
        have hall : ([22, 9].all fun u => !Tryd.prog.wantsStandIn u) = true := by kernel_rfl
        exact (show Tryd.prog.wantsStandIn t = false by simpa using List.all_eq_true.1 hall t hm)⟩)
    (by kernel_rfl)
end Go.Proofs.YticegfbipdjpfaaDoor.wireReturns
