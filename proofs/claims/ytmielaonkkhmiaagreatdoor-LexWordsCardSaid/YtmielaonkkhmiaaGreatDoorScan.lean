/-
  lex: scanner.scan of the example.
-/
import Derived.Test.YtmielaonkkhmiaaGreatDoorEx
import Derived.Deep.AppendLies
set_option linter.unusedVariables false
namespace Go.Proofs.YtmielaonkkhmiaaGreatDoor
open Go.RowKit

theorem info_parts {P : Program} {T : TypeId} {z : Value} {s y : Nat} (h : (P.info? T).map (fun i => (i.zero, i.size, i.bytes)) = some (some z, s, y)) : ∃ i, P.info? T = some i ∧ i.zero = some z ∧ i.size = s ∧ i.bytes = y := by
  cases hi : P.info? T with
  | none => rw [hi] at h; cases h
  | some i =>
    rw [hi] at h
    simp only [Option.map_some, Option.some.injEq, Prod.mk.injEq] at h
    exact ⟨i, rfl, h.1, h.2.1, h.2.2⟩
theorem infoTok4 : (Tryz.prog.info? 34).map (fun i => (i.zero, i.size, i.bytes)) = some (some (.agg #[.int .i64 0, .string ⟨#[]⟩, .int .i64 0, .int .i64 0]), 4, 40) := by kernel_rfl
def toksV : Nat → List Value
  | 0 => []
  | r + 1 => toksV r ++ [.int .i64 (tk0 r), .string (tk1 r), .int .i64 (tk2 r), .int .i64 (pl r : Nat)]
theorem row_kp {b B : Nat} {w w' : World} {v : Value} {n : Nat} {xs : List Value} (h : w.ownsRow B 34 4 v n xs) (k : Kp b w w') (hB : b < B) : w'.ownsRow B 34 4 v n xs := by
  refine ⟨h.1, ?_⟩
  rcases h.2 with g | ⟨g, cap, cur, rfl, hbg, hg, hnc, hcm, hcs, htake⟩
  · exact .inl g
  · exact .inr ⟨g, cap, cur, rfl, hbg, (k.block g (Array.getElem?_eq_some_iff.1 hg).1 (by omega)).trans hg, hnc, hcm, hcs, htake⟩
theorem below_tabX {b : Nat} {w w' : World} (h : Below b w w') (ht : TabX w) (hb : 1 < b) : TabX w' := ht.below h hb
theorem own_ne {b : Nat} {w : World} {v : Value} {n : Nat} {xs : List Value} (h : w.ownsRow (b + 1) 34 4 v n xs) : v.ownBlock ≠ some b := by
  rcases h.2 with ⟨rfl, _⟩ | ⟨g, cap, cur, rfl, hbg, _⟩
  · intro e; cases e
  · intro e
    have : g = b := by injection e
    omega
theorem own_ge {b : Nat} {w : World} {v : Value} {n : Nat} {xs : List Value} (h : w.ownsRow (b + 1) 34 4 v n xs) : ∀ k, v.ownBlock = some k → b ≤ k := by
  intro k hk
  rcases h.2 with ⟨rfl, _⟩ | ⟨g, cap, cur, rfl, hbg, _⟩
  · cases hk
  · have : g = k := by injection hk
    omega
theorem ScAt.grown {b : Nat} {T : ByteArray} {a : Int} {v : Value} {W w2 : World} {o : Obj} (h : ScAt b T a v W) (hne : v.ownBlock ≠ some b) (hg : (W.alloc o).drew.grownBy w2 v.ownBlock) : ScAt b T a v w2 :=
  (hg.block b (Nat.lt_of_lt_of_le h.lt (by show W.heap.size ≤ (W.heap.push o).size; simp)) (fun e => hne e.symm)).trans ((Below.heap_alloc W o b h.lt).trans h)
theorem news_four (W : World) (x0 x1 x2 x3 : Value) : ∀ j u, [x0, x1, x2, x3][j]? = some u → (W.alloc (.cells #[x0, x1, x2, x3] 34)).drew.cell? ((⟨W.heap.size, 0, none⟩ : Addr).add j) = some u :=
  fun j u hj => World.news_of_block (w := (W.alloc (.cells #[x0, x1, x2, x3] 34)).drew) (cs := #[x0, x1, x2, x3]) (heap_top W (tokO x0 x1 x2 x3)) j u (by simpa using hj)
theorem one_four (k0 : Int) (s1 : ByteArray) (n2 p : Int) : ∀ u ∈ [Value.int .i64 k0, .string s1, .int .i64 n2, .int .i64 p], u.oneCell' = true := by
  intro u hu
  simp at hu
  rcases hu with rfl | rfl | rfl | rfl <;> rfl
theorem base_al {W : World} {B : Nat} {o : Obj} (h : B ≤ W.heap.size) : B ≤ (W.alloc o).drew.heap.size := by
  show B ≤ (W.heap.push o).size
  simp; omega
def placeOf (b : Nat) (w : World) : Nat := match w.cell? ⟨b, 1, none⟩ with | some (.int _ n) => n.toNat | _ => 0
theorem placeOf_at {b : Nat} {T : ByteArray} {a : Nat} {tk : Value} {w : World} (h : ScAt b T a tk w) : placeOf b w = a := by
  unfold placeOf; rw [h.c1]; rfl
theorem pl_lt (r : Nat) (hr : r < 4) : pl r < pl (r + 1) ∧ pl (r + 1) ≤ 18 ∧ pl r < 18 := by
  match r, hr with
  | 0, _ => decide
  | 1, _ => decide
  | 2, _ => decide
  | 3, _ => decide
set_option maxRecDepth 100000 in
set_option maxHeartbeats 4000000 in
theorem scan_ex (b : Nat) (w : World) (h : ScAt b exT (0 : Nat) (.slice none 0 0) w) (ht : TabX w) (hb : 1 < b) :
    Calls Tryz.prog 30 #[.pointer (some ⟨b, 0, none⟩)] w fun e w' => e = .returned (.tuple #[]) ∧ ∃ v a, ScAt b exT a v w' ∧ w'.ownsRow (b + 1) 34 4 v 5 (toksV 4 ++ [.int .i64 0, .string ⟨#[]⟩, .int .i64 0, .int .i64 18]) ∧ Below b w w' := by
  obtain ⟨i0, hi, hz0, hz1, hz2⟩ := info_parts infoTok4
  have HT := Lib.hid ht
  have HS0 := Lib.hid (fun h => skip_ex b (.slice none 0 0) w h)
  have hbl := h.lt
  have H := Lib.hid h
  clear h ht
  go_enter Tryz.func30, Tryz.ntmps30
  go_wp2_with fail
  refine (HS0.out H.out).mono ?_
  rintro e w1 ⟨rfl, hs, hk⟩
  have HS1 := Lib.hid hs
  have HB1 := Lib.hid (hk.below (Nat.le_refl b) hbl)
  clear hs hk
  go_wp2
  go_loopw [2, 3] (fun _ _ wr => ∃ r v, r ≤ 4 ∧ ScAt b exT (pl r : Nat) v wr ∧ wr.ownsRow (b + 1) 34 4 v r (toksV r) ∧ Below b w wr) (fun _ _ wr => 18 - placeOf b wr)
  case atStart => exact ⟨0, _, Nat.zero_le _, HS1.out, World.ownsRow_nil _ _ _ _, HB1.out⟩
  case round =>
    obtain ⟨r, v, hr, hs, hrow, hbel⟩ := hrel
    have HS2 := Lib.hid hs
    have HR2 := Lib.hid hrow
    have HB2 := Lib.hid hbel
    have HM : Hid (placeOf b wr = pl r) := Lib.hid (placeOf_at hs)
    have hblr : b < wr.heap.size := hs.lt
    clear hs hrow hbel
    by_cases hlt : r < 4
    · have hpl := pl_lt r hlt
      have he : ((pl r : Int) == (exT.size : Int)) = false := by rw [beq_eq_false_iff_ne, ex_size]; omega
      have HE := Lib.hid (fun w h => atEnd_any b exT (pl r : Nat) v w h)
      rw [he] at HE
      have HTK := Lib.hid (fun w h ht => token_ex b r hlt v w h ht hb)
      have HSK := Lib.hid (fun v w h => skips_ex b r hlt v w h)
      have HTV : Hid (toksV (r + 1) = toksV r ++ [.int .i64 (tk0 r), .string (tk1 r), .int .i64 (tk2 r), .int .i64 (pl r : Nat)]) := Lib.hid rfl
      clear he
      generalize toksV r = xs at *
      generalize tk0 r = k0 at *
      generalize tk1 r = s1 at *
      generalize tk2 r = n2 at *
      generalize hpr : ((pl r : Nat) : Int) = p at *
      go_wp2_with fail
      refine (HE.out _ HS2.out).mono ?_
      rintro e w2 ⟨rfl, m, hm⟩
      have HS3 : Hid (ScAt b exT p v w2) := Lib.hid (by rw [hm]; exact HS2.out.drewN m)
      have HK3 : Hid (Kp b wr w2) := Lib.hid (by rw [hm]; exact (Kp.refl b wr).drewN m)
      clear hm
      have hc1 := HS3.out.c1
      go_wp2_with fail
      have HT3 := Lib.hid (below_tabX (HB2.out.trans (HK3.out.below (Nat.le_refl b) hblr)) HT.out hb)
      refine (HTK.out _ HS3.out HT3.out).mono ?_
      rintro e w4 ⟨rfl, hs, hk⟩
      have HS4 := Lib.hid hs
      have HK4 := Lib.hid (HK3.out.trans hk)
      have HR4 := Lib.hid (row_kp HR2.out HK4.out (Nat.lt_succ_self b))
      have HB4 := Lib.hid (HB2.out.trans (HK4.out.below (Nat.le_refl b) hblr))
      clear hs hk hc1
      go_wp2
      have HSW := Lib.hid (HS4.out.alloc (tokO (.int .i64 k0) (.string s1) (.int .i64 n2) (.int .i64 p)))
      have HRW := Lib.hid (HR4.out.alloc (tokO (.int .i64 k0) (.string s1) (.int .i64 n2) (.int .i64 p)))
      have HBW := Lib.hid (HB4.out.alloc (Nat.le_of_lt HS4.out.lt) (tokO (.int .i64 k0) (.string s1) (.int .i64 n2) (.int .i64 p)))
      have HGW := Lib.hid (heap_top w4 (tokO (.int .i64 k0) (.string s1) (.int .i64 n2) (.int .i64 p)))
      have hwe : w4.alloc (.cells #[.int .i64 k0, .string s1, .int .i64 n2, .int .i64 p] 34) = w4.alloc (tokO (.int .i64 k0) (.string s1) (.int .i64 n2) (.int .i64 p)) := rfl
      rw [hwe]
      clear hwe
      generalize w4.alloc (tokO (.int .i64 k0) (.string s1) (.int .i64 n2) (.int .i64 p)) = W at *
      generalize w4.heap.size = g4 at *
      obtain ⟨l0, l1, l2, l3, lf⟩ := four_cells HGW.out
      have hc2 := HSW.out.c2
      have ca : ∀ o : Obj, (W.alloc o).cell? ⟨b, 2, none⟩ = some v := fun o => (HSW.out.alloc o).c2
      have hba : b + 1 ≤ W.heap.size := HSW.out.lt
      have HNE := Lib.hid (own_ne HRW.out)
      have HCG := Lib.hid (fun o w2 hg => ScAt.grown (o := o) (w2 := w2) HSW.out HNE.out hg)
      have hmx : (r + 1) * 40 ≤ 140737488355328 := by omega
      have hmx2 : r + 1 ≤ maxLen := by unfold maxLen; omega
      go_region_law (refine step_append_lies _ rfl (.tmp 26) (.tmp 28) 24 rfl (b + 1) 34 i0 (.agg #[.int .i64 0, .string ⟨#[]⟩, .int .i64 0, .int .i64 0]) 4 40 Tryz.underlying24 hi hz0 hz1 hz2 rfl (by decide) v _ _ rfl (by exact HRW.out.alloc _) ⟨W.heap.size, 0, none⟩ 1 1 [.int .i64 k0, .string s1, .int .i64 n2, .int .i64 p] rfl rfl (by exact news_four _ _ _ _ _) (by exact one_four _ _ _ _) (by decide) (by exact hmx2) (by exact hmx) (by exact base_al hba) _ rfl ?_; intro g cap w5 hown hgrow hat hg2; have cw := (HCG.out _ _ hgrow).c2; have fw := (HCG.out _ _ hgrow).fz 2)
      all_goals
        have HS6 := Lib.hid ((HCG.out _ _ hgrow).set2 (.slice (some ⟨g, 0, none⟩) (r + 1) cap))
        have HR6 := Lib.hid (ownsRow_setCell_other hown (a := ⟨b, 2, none⟩) (own_ne hown) (.slice (some ⟨g, 0, none⟩) (r + 1) cap))
        have HB6 := Lib.hid ((((HBW.out.alloc (Nat.le_of_lt hba) _).drew.grown hgrow (Nat.le_trans (Nat.le_of_lt hba) (base_al (Nat.le_refl _))) (own_ge HRW.out)).setCell (p := ⟨b, 2, none⟩) (Nat.le_refl b) (.slice (some ⟨g, 0, none⟩) (r + 1) cap)))
        rw [← HTV.out] at HR6
        clear hgrow hown hat hg2 cw fw ca hc2 l0 l1 l2 l3 lf
        generalize w5.setCell ⟨b, 2, none⟩ (.slice (some ⟨g, 0, none⟩) (r + 1) cap) = w6 at *
        go_wp2_with fail
        refine (HSK.out _ _ HS6.out).mono ?_
        rintro e w7 ⟨rfl, hs, hk⟩
        have HS7 := Lib.hid hs
        have HR7 := Lib.hid (row_kp HR6.out hk (Nat.lt_succ_self b))
        have HB7 := Lib.hid (HB6.out.trans (hk.below (Nat.le_refl b) HS6.out.lt))
        have HM7 := Lib.hid (placeOf_at hs)
        clear hs hk
        go_wp2_with fail
        go_roundw
        case rel => exact ⟨r + 1, _, by omega, HS7.out, HR7.out, HB7.out⟩
        case measure => rw [HM.out, HM7.out]; omega
    · obtain rfl : r = 4 := by omega
      have HE := Lib.hid (fun w h => atEnd_any b exT (18 : Nat) v w h)
      rw [show (((18 : Nat) : Int) == (exT.size : Int)) = true from rfl] at HE
      go_wp2_with fail
      refine (HE.out _ HS2.out).mono ?_
      rintro e w2 ⟨rfl, m, hm⟩
      have HSW : Hid (ScAt b exT 18 v w2) := Lib.hid (by rw [hm]; exact HS2.out.drewN m)
      have HKW : Hid (Kp b wr w2) := Lib.hid (by rw [hm]; exact (Kp.refl b wr).drewN m)
      have HRW := Lib.hid (row_kp HR2.out HKW.out (Nat.lt_succ_self b))
      have HBW := Lib.hid (HB2.out.trans (HKW.out.below (Nat.le_refl b) hblr))
      clear hm
      go_wp2
      have hc1 := HSW.out.c1
      have hc2 := HSW.out.c2
      have ca : ∀ o : Obj, (w2.alloc o).cell? ⟨b, 2, none⟩ = some v := fun o => (HSW.out.alloc o).c2
      have hba : b + 1 ≤ w2.heap.size := HSW.out.lt
      have HNE := Lib.hid (own_ne HRW.out)
      have HCG := Lib.hid (fun o w2 hg => ScAt.grown (o := o) (w2 := w2) HSW.out HNE.out hg)
      go_region_law (refine step_append_lies _ rfl (.tmp 36) (.tmp 43) 24 rfl (b + 1) 34 i0 (.agg #[.int .i64 0, .string ⟨#[]⟩, .int .i64 0, .int .i64 0]) 4 40 Tryz.underlying24 hi hz0 hz1 hz2 rfl (by decide) v _ _ rfl (by exact HRW.out.alloc _) ⟨w2.heap.size, 0, none⟩ 1 1 [.int .i64 0, .string ⟨#[]⟩, .int .i64 0, .int .i64 18] rfl rfl (by exact news_four _ _ _ _ _) (by exact one_four _ _ _ _) (by decide) (by decide) (by decide) (by exact base_al hba) _ rfl ?_; intro g cap w5 hown hgrow hat hg2; have cw := (HCG.out _ _ hgrow).c2; have fw := (HCG.out _ _ hgrow).fz 2)
      all_goals
        have HS6 := Lib.hid ((HCG.out _ _ hgrow).set2 (.slice (some ⟨g, 0, none⟩) (4 + 1) cap))
        have HR6 := Lib.hid (ownsRow_setCell_other hown (a := ⟨b, 2, none⟩) (own_ne hown) (.slice (some ⟨g, 0, none⟩) (4 + 1) cap))
        have HB6 := Lib.hid ((((HBW.out.alloc (Nat.le_of_lt hba) _).drew.grown hgrow (Nat.le_trans (Nat.le_of_lt hba) (base_al (Nat.le_refl _))) (own_ge HRW.out)).setCell (p := ⟨b, 2, none⟩) (Nat.le_refl b) (.slice (some ⟨g, 0, none⟩) (4 + 1) cap)))
        clear hgrow hown hat hg2 cw fw ca hc2 hc1
        go_wp2
        go_end0
        exact ⟨rfl, _, _, HS6.out, HR6.out, HB6.out⟩
end Go.Proofs.YtmielaonkkhmiaaGreatDoor
