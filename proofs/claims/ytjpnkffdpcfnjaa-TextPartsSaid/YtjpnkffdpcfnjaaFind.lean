/-
  text.borders and text.Find.
-/
import Derived.Test.YtjpnkffdpcfnjaaOrd2
import Derived.Deep.OwnRows
set_option linter.unusedVariables false
namespace Go.Proofs.Ytjpnkffdpcfnjaa
open Go.RowKit

theorem infoIntB : (Try.prog.info? 3).map (fun i => (i.zero, i.size, i.bytes)) = some (some (.int .i64 0), 1, 8) := by kernel_rfl

def BordPost (m : List Nat) (w : World) (e : Ending) (w' : World) : Prop :=
  ∃ (B : Nat) (bl : List Nat), e = .returned (.slice (some ⟨B, 0, none⟩) m.length m.length) ∧ B < w'.heap.size ∧ bl.length = m.length ∧ Kmp.Borders m bl ∧ (∀ j (h : j < bl.length), w'.cell? ⟨B, j, none⟩ = some (.int .i64 (bl[j] : Int))) ∧ Below w.heap.size w w'

def BRel1 (m : List Nat) (w W : World) (B b0 : Nat) (d : ByteArray) (wl : Bool) (n i : Value) (wr : World) : Prop :=
  ∃ (k f : Nat) (bl : List Nat), bl.length = k ∧ 1 ≤ k ∧ k ≤ m.length ∧ i = .int .i64 k ∧ n = .int .i64 (f : Int) ∧ Kmp.Borders m bl ∧ Kmp.Best m (m.take k) k f ∧ wr.rowIs B 3 m.length (fun j => .int .i64 ((bl.getD j 0 : Nat) : Int)) ∧ Two wr b0 (.string d) (.bool wl) ∧ Below w.heap.size w wr

theorem brel_next {m : List Nat} {k f' : Nat} {bl : List Nat} (hbl : bl.length = k) (hk : k < m.length) (hB : Kmp.Borders m bl) (hb : Kmp.Best m (m.take k ++ [m[k]]) (k + 1) f') : Kmp.Borders m (bl ++ [f']) := by
  intro i h
  have hi : i < k + 1 := by simp at h; omega
  by_cases e : i = k
  · subst e
    rw [Kmp.take_snoc m i hk]
    have : (bl ++ [f'])[i] = f' := by rw [List.getElem_append_right (by omega)]; simp [hbl]
    rw [this]
    exact hb
  · have h2 : i < bl.length := by omega
    rw [List.getElem_append_left h2]
    exact hB i h2
theorem bl_next (bl : List Nat) (k f' : Nat) (hbl : bl.length = k) (j : Nat) : (if j = k then Value.int .i64 (f' : Int) else .int .i64 ((bl.getD j 0 : Nat) : Int)) = .int .i64 (((bl ++ [f']).getD j 0 : Nat) : Int) := by
  by_cases e : j = k
  · subst e
    rw [if_pos rfl, List.getD_eq_getElem?_getD, List.getElem?_append_right (by omega), hbl]
    simp
  · rw [if_neg e]
    rcases Nat.lt_or_ge j k with h | h
    · rw [List.getD_eq_getElem?_getD, List.getD_eq_getElem?_getD, List.getElem?_append_left (by omega)]
    · rw [List.getD_eq_getElem?_getD, List.getD_eq_getElem?_getD, List.getElem?_eq_none (by omega), List.getElem?_eq_none (by simp; omega)]

theorem row_carry {w w' : World} {b : Nat} {t : TypeId} {n : Nat} {f : Nat → Value} (h : w.rowIs b t n f) (hb : Below w.heap.size w w') : w'.rowIs b t n f := h.of_block (hb.block b h.lt)

/-- A round of borders comes to its end: the store of the new border. -/
theorem brel_end {m : List Nat} {w W w2 : World} {B b0 k f' : Nat} {bl : List Nat} {d : ByteArray} {wl : Bool} (hbl : bl.length = k) (hk1 : 1 ≤ k) (hk : k < m.length) (hB : Kmp.Borders m bl) (hb : Kmp.Best m (m.take k ++ [m[k]]) (k + 1) f')
    (hrow : w2.rowIs B 3 m.length (fun j => .int .i64 ((bl.getD j 0 : Nat) : Int))) (hT : Two w2 b0 (.string d) (.bool wl)) (hne : b0 ≠ B) (hbel : Below w.heap.size w w2) (hBs : w.heap.size ≤ B) :
    BRel1 m w W B b0 d wl (.int .i64 (f' : Int)) (.int .i64 ((k + 1 : Nat) : Int)) ((w2.setCell ⟨B, k, none⟩ (.int .i64 (f' : Int)))) := by
  refine ⟨k + 1, f', bl ++ [f'], by simp [hbl], by omega, hk, rfl, rfl, brel_next hbl hk hB hb, ?_, ?_, ?_, hbel.setCell (p := ⟨B, k, none⟩) hBs _⟩
  · rw [Kmp.take_snoc m k hk]; exact hb
  · exact (hrow.set k (.int .i64 (f' : Int))).congr fun j _ => bl_next bl k f' hbl j
  · obtain ⟨h1, h2, h3⟩ := hT
    exact ⟨by simpa using h1, (World.cell?_setCell_other _ _ _ _ (fun e => hne (congrArg Addr.block e).symm)).trans h2, (World.cell?_setCell_other _ _ _ _ (fun e => hne (congrArg Addr.block e).symm)).trans h3⟩

set_option maxHeartbeats 4000000 in
theorem borders_any (m : List Nat) (hm : m.length ≤ 1000000) (hc : ∀ c ∈ m, c < 16777216) (hne : 0 < m.length) (w : World) :
    Calls Try.prog 40 #[strV m] w (BordPost m w) := by
  have hlen := len_any m (by omega)
  have hch := fun i hi => char_any m i hi (by omega) hc
  have hmk := fun w => run_make_row' (P := Try.prog) 28 3 (.int .i64 0) 8 Try.underlying28 infoIntB rfl .i64 .i64 m.length (by omega) (by omega) w
  unfold strV at hlen hch ⊢
  generalize pk m = d at *
  generalize wideL m = wl at *
  have HLEN := Lib.hid hlen
  have HCH := Lib.hid hch
  have HMK := Lib.hid hmk
  clear hlen hch hmk hc
  go_enter Try.func40, Try.ntmps40
  go_wp2_with fail
  refine (HLEN.out _).mono ?_
  rintro e w1 ⟨rfl, hb1⟩
  have T1 := (two_alloc w (.string d) (.bool wl) 24).below hb1
  have B1 := below_alloc (Below.refl w.heap.size w) hb1
  have hz1 := T1.1
  have hmk := HMK.out w1
  have hrow := (World.rowIs_made w1 (.int .i64 0) m.length 3).congr (g := fun j => .int .i64 ((([0] : List Nat).getD j 0 : Nat) : Int)) (fun j _ => by cases j <;> rfl)
  have HROW := Lib.hid hrow
  have HT1 := Lib.hid (T1.below (below_al (o := .cells (madeCells #[.int .i64 0] m.length) 3) (Below.refl w1.heap.size w1)))
  have HB1 := Lib.hid (below_al (o := .cells (madeCells #[.int .i64 0] m.length) 3) B1)
  have hBs : w.heap.size < w1.heap.size := by have := hb1.size; simp at this; omega
  have hneB : w.heap.size ≠ w1.heap.size := by omega
  clear hrow T1 hb1 B1
  go_wp2
  clear hmk
  generalize w1.heap.size = B at *
  generalize hb0 : w.heap.size = b0 at HT1 hneB hBs
  go_loopw [4, 5] (fun n i wr => BRel1 m w w1 B b0 d wl n i wr) (fun _ i _ => m.length - (intOf i).toNat)
  case atStart => exact ⟨1, 0, [0], rfl, Nat.le_refl _, hne, rfl, rfl, fun i h => by
      have : i = 0 := by simpa using h
      subst this
      exact Kmp.best_first m, Kmp.best_first m, HROW.out, HT1.out, HB1.out⟩
  case round =>
    obtain ⟨k, f, bl, hbl, hk1, hkm, rfl, rfl, hB, hbest, hrow, hT, hbel⟩ := hrel
    have HB := Lib.hid hB
    have HBEST := Lib.hid hbest
    have HROWR := Lib.hid hrow
    have HTR := Lib.hid hT
    have HBEL := Lib.hid hbel
    have HBL := Lib.hid hbl
    clear hB hbest hrow hT hbel hbl
    by_cases hlt : k < m.length
    · have hltI : (k : Int) < (m.length : Int) := by omega
      have HCK := Lib.hid (HCH.out k hlt)
      go_wp2_with fail
      go_loopw [4] (fun n wr => ∃ f : Nat, n = .int .i64 (f : Int) ∧ Kmp.Try m (m.take k) k m[k] f ∧ wr.rowIs B 3 m.length (fun j => .int .i64 ((bl.getD j 0 : Nat) : Int)) ∧ Two wr b0 (.string d) (.bool wl) ∧ Below w.heap.size w wr) (fun n _ => (intOf n).toNat)
      case atStart => exact ⟨f, rfl, HBEST.out.try _, HROWR.out, HTR.out, HBEL.out⟩
      case round =>
        clear HROWR HTR HBEL HBEST
        obtain ⟨f, rfl, htry, hrow, hT, hbel⟩ := hrel
        have hfk := htry.1
        have hfm : f < m.length := by omega
        have HTRY := Lib.hid htry
        have HROWR := Lib.hid hrow
        have HTR := Lib.hid hT
        have HBEL := Lib.hid hbel
        have HCF := Lib.hid (HCH.out f hfm)
        have hBR : Below wr.heap.size wr wr := Below.refl _ _
        have hBRd : Below wr.heap.size wr wr.drew := hBR.drew
        have HITE : Hid (∀ g, Kmp.Try m (m.take k) k m[k] g → g < f → g = bl.getD (f - 1) 0 → True) := fun _ _ _ _ => trivial
        have HSTEP : Hid (0 < f → m[k] ≠ m[f] → Kmp.Try m (m.take k) k m[k] (bl.getD (f - 1) 0) ∧ bl.getD (f - 1) 0 < f) := fun h0 hne' => by
          obtain ⟨g, rfl⟩ : ∃ g, f = g + 1 := ⟨f - 1, by omega⟩
          have hg : g < bl.length := by have := HBL.out; omega
          have e : bl.getD g 0 = bl[g] := by rw [List.getD_eq_getElem?_getD, List.getElem?_eq_getElem hg]; rfl
          have hb := HB.out g hg
          simp only [Nat.add_sub_cancel]
          rw [e]
          exact ⟨HTRY.out.step (by omega) hb (fun h e => hne' e.symm), hb.1⟩
        have HHIT : Hid (m[k] = m[f] → Kmp.Best m (m.take k ++ [m[k]]) (k + 1) (f + 1)) := fun e => HTRY.out.hit (by omega) (fun h => e.symm)
        have HMISS : Hid (f = 0 → m[k] ≠ m[f] → Kmp.Best m (m.take k ++ [m[k]]) (k + 1) 0) := fun e hne' => by subst e; exact HTRY.out.miss (by omega) (fun h e => hne' e.symm)
        have HCELL : Hid (0 < f → ∀ W', Below wr.heap.size wr W' → W'.cell? ⟨B, f - 1, none⟩ = some (.int .i64 ((bl.getD (f - 1) 0 : Nat) : Int))) := fun h0 W' hb => (row_carry HROWR.out hb).cell (by omega)
        obtain ⟨_, c0, c1⟩ := hT
        have c0d : wr.drew.cell? ⟨b0, 0, none⟩ = some (.string d) := c0
        have c1d : wr.drew.cell? ⟨b0, 1, none⟩ = some (.bool wl) := c1
        clear htry hrow hbel HITE
        have hBsw : w.heap.size < B := by omega
        have hBsw : w.heap.size < B := by omega
        have hBsw : w.heap.size < B := by omega
        by_cases hf0 : 0 < f
        · have hfI : (0 : Int) < (f : Int) := by omega
          by_cases hxy : m[k] = m[f]
          · have HH := Lib.hid (HHIT.out hxy)
            rw [← hxy] at HCF
            have HEND := Lib.hid (fun (w2 : World) (hb : Below wr.heap.size wr w2) => brel_end (W := w1) HBL.out hk1 hlt HB.out HH.out (row_carry HROWR.out hb) (HTR.out.below hb) hneB (below_from HBEL.out hb (Nat.le_refl _)) (Nat.le_of_lt hBsw))
            clear hxy HSTEP HHIT HMISS HCELL HTRY HH
            generalize hx : m[k] = x at HCK HCF
            clear hx
            go_wp2_with fail
            go_region_held3 (fun w' => w'.cell? ⟨b0, 0, none⟩ = some (.string d) ∧ w'.cell? ⟨b0, 1, none⟩ = some (.bool wl))
              (first
                | (go_split_ands; exact cells_of_two (by assumption) (by assumption) hb3)
                | go_keep)
              (first
                | (go_at_call 32; (with_reducible refine (carry (w := wr) (HCK.out _) ?_).mono ?_); (first | assumption | exact Below.drew (by assumption)); rintro e w3 ⟨rfl, hb3, hB3⟩)
                | (go_at_call 32; (with_reducible refine (carry (w := wr) (HCF.out _) ?_).mono ?_); (first | assumption | exact Below.drew (by assumption)); rintro e w3 ⟨rfl, hb3, hB3⟩))
            have hs3 := ‹World.cell? w3 ⟨b0, 0, none⟩ = some (Value.string d) ∧ _›
            have hB4 := hB3
            obtain ⟨c2, c3⟩ := hs3
            have c2d : w3.drew.cell? ⟨b0, 0, none⟩ = some (.string d) := c2
            have c3d : w3.drew.cell? ⟨b0, 1, none⟩ = some (.bool wl) := c3
            have hB4d : Below wr.heap.size wr w3.drew := hB4.drew
            clear c0 c1 c0d c1d hb3 hB3
            go_wp2_with fail
            go_region_held3 (fun w' => w'.cell? ⟨b0, 0, none⟩ = some (.string d) ∧ w'.cell? ⟨b0, 1, none⟩ = some (.bool wl))
              (first
                | (go_split_ands; exact cells_of_two (by assumption) (by assumption) hb3)
                | go_keep)
              (first
                | (go_at_call 32; (with_reducible refine (carry (w := wr) (HCK.out _) ?_).mono ?_); (first | assumption | exact Below.drew (by assumption)); rintro e w3 ⟨rfl, hb3, hB3⟩)
                | (go_at_call 32; (with_reducible refine (carry (w := wr) (HCF.out _) ?_).mono ?_); (first | assumption | exact Below.drew (by assumption)); rintro e w3 ⟨rfl, hb3, hB3⟩))
            have hB5 := hB3
            have hcl := (row_carry HROWR.out hB5).cell hlt
            have hfr := (row_carry HROWR.out hB5).frozen k
            have HE := Lib.hid (HEND.out _ hB5)
            have HE2 := Lib.hid (HEND.out _ hB5.drew)
            clear hb3 hB3 hB4 hB4d c2 c3 c2d c3d
            go_wp2
            go_roundw
            case rel => first | exact HE.out | exact HE2.out
            case measure => simp [intOf]; omega
          · have hne1 : ((m[k] : Int) != (m[f] : Int)) = true := by rw [bne_iff_ne]; omega
            have HH := Lib.hid (HSTEP.out hf0 hxy)
            have HCE := Lib.hid (HCELL.out hf0)
            have hf1 : IntKind.i64.wrap ((f : Int) - 1) = ((f - 1 : Nat) : Int) := by rw [IntWalk.i64_in _ (by omega)]; omega
            have hf2 : (f : Int) - 1 = ((f - 1 : Nat) : Int) := by omega
            have hf3 : f - 1 < m.length := by omega
            clear hxy HSTEP HHIT HMISS HCELL HTRY
            generalize hx : m[k] = x at HCK hne1 HH
            generalize hy : m[f] = y at HCF hne1
            clear hx hy
            go_wp2_with fail
            go_region_held3 (fun w' => w'.cell? ⟨b0, 0, none⟩ = some (.string d) ∧ w'.cell? ⟨b0, 1, none⟩ = some (.bool wl))
              (first
                | (go_split_ands; exact cells_of_two (by assumption) (by assumption) hb3)
                | go_keep)
              (first
                | (go_at_call 32; (with_reducible refine (carry (w := wr) (HCK.out _) ?_).mono ?_); (first | assumption | exact Below.drew (by assumption)); rintro e w3 ⟨rfl, hb3, hB3⟩)
                | (go_at_call 32; (with_reducible refine (carry (w := wr) (HCF.out _) ?_).mono ?_); (first | assumption | exact Below.drew (by assumption)); rintro e w3 ⟨rfl, hb3, hB3⟩))
            have hB5 := hB3
            have hcl := HCE.out _ hB5
            have hT5 := Lib.hid (HTR.out.below hB5)
            have hR5 := Lib.hid (row_carry HROWR.out hB5)
            have hL5 := Lib.hid (below_from HBEL.out hB5 (Nat.le_refl _))
            clear hb3 hB3
            rw [hf2] at *
            generalize f - 1 = g at *
            generalize bl.getD g 0 = q at HH hcl
            go_wp2
            go_roundw
            case rel => exact ⟨_, rfl, HH.out.1, hR5.out, hT5.out, hL5.out⟩
            case measure => have := HH.out.2; simp [intOf]; omega
        · obtain rfl : f = 0 := by omega
          rw [show (((0 : Nat) : Int)) = 0 from rfl] at HCF
          by_cases hxy : m[k] = m[0]
          · have HH := Lib.hid (HHIT.out hxy)
            rw [← hxy] at HCF
            have HEND := Lib.hid (fun (w2 : World) (hb : Below wr.heap.size wr w2) => brel_end (W := w1) HBL.out hk1 hlt HB.out HH.out (row_carry HROWR.out hb) (HTR.out.below hb) hneB (below_from HBEL.out hb (Nat.le_refl _)) (Nat.le_of_lt hBsw))
            clear hxy HSTEP HHIT HMISS HCELL HTRY HH hf0
            generalize hx : m[k] = x at HCK HCF
            clear hx
            go_wp2_with fail
            go_quiet (fail)
            have c0n : (wr.drewN nq).cell? ⟨b0, 0, none⟩ = some (.string d) := c0
            have c1n : (wr.drewN nq).cell? ⟨b0, 1, none⟩ = some (.bool wl) := c1
            have c0m : (wr.drewN (nq + 1)).cell? ⟨b0, 0, none⟩ = some (.string d) := c0
            have c1m : (wr.drewN (nq + 1)).cell? ⟨b0, 1, none⟩ = some (.bool wl) := c1
            have hBN : Below wr.heap.size wr (wr.drewN nq) := below_drewN (Below.refl _ _) _
            have hBN1 : Below wr.heap.size wr (wr.drewN (nq + 1)) := below_drewN (Below.refl _ _) _
            go_wp2_with fail
            go_region_held3 (fun w' => w'.cell? ⟨b0, 0, none⟩ = some (.string d) ∧ w'.cell? ⟨b0, 1, none⟩ = some (.bool wl))
              (first
                | (go_split_ands; exact cells_of_two (by assumption) (by assumption) hb3)
                | go_keep)
              (first
                | (go_at_call 32; (with_reducible refine (carry (w := wr) (HCK.out _) ?_).mono ?_); (first | assumption | exact Below.drew (by assumption)); rintro e w3 ⟨rfl, hb3, hB3⟩)
                | (go_at_call 32; (with_reducible refine (carry (w := wr) (HCF.out _) ?_).mono ?_); (first | assumption | exact Below.drew (by assumption)); rintro e w3 ⟨rfl, hb3, hB3⟩))
            have hB5 := hB3
            have hcl := (row_carry HROWR.out hB5).cell hlt
            have hfr := (row_carry HROWR.out hB5).frozen k
            have HE := Lib.hid (HEND.out _ hB5)
            have HE2 := Lib.hid (HEND.out _ hB5.drew)
            clear hb3 hB3
            go_wp2
            go_roundw
            case rel => first | exact HE.out | exact HE2.out
            case measure => simp [intOf]; omega
          · have hne1 : ((m[k] : Int) == (m[0] : Int)) = false := by rw [beq_eq_false_iff_ne]; omega
            have HH := Lib.hid (HMISS.out rfl hxy)
            have HEND := Lib.hid (fun (w2 : World) (hb : Below wr.heap.size wr w2) => brel_end (W := w1) HBL.out hk1 hlt HB.out HH.out (row_carry HROWR.out hb) (HTR.out.below hb) hneB (below_from HBEL.out hb (Nat.le_refl _)) (Nat.le_of_lt hBsw))
            clear hxy HSTEP HHIT HMISS HCELL HTRY HH hf0
            generalize hx : m[k] = x at HCK hne1
            generalize hy : m[0] = y at HCF hne1
            clear hx hy
            go_wp2_with fail
            go_quiet (fail)
            have c0n : (wr.drewN nq).cell? ⟨b0, 0, none⟩ = some (.string d) := c0
            have c1n : (wr.drewN nq).cell? ⟨b0, 1, none⟩ = some (.bool wl) := c1
            have c0m : (wr.drewN (nq + 1)).cell? ⟨b0, 0, none⟩ = some (.string d) := c0
            have c1m : (wr.drewN (nq + 1)).cell? ⟨b0, 1, none⟩ = some (.bool wl) := c1
            have hBN : Below wr.heap.size wr (wr.drewN nq) := below_drewN (Below.refl _ _) _
            have hBN1 : Below wr.heap.size wr (wr.drewN (nq + 1)) := below_drewN (Below.refl _ _) _
            go_wp2_with fail
            go_region_held3 (fun w' => w'.cell? ⟨b0, 0, none⟩ = some (.string d) ∧ w'.cell? ⟨b0, 1, none⟩ = some (.bool wl))
              (first
                | (go_split_ands; exact cells_of_two (by assumption) (by assumption) hb3)
                | go_keep)
              (first
                | (go_at_call 32; (with_reducible refine (carry (w := wr) (HCK.out _) ?_).mono ?_); (first | assumption | exact Below.drew (by assumption)); rintro e w3 ⟨rfl, hb3, hB3⟩)
                | (go_at_call 32; (with_reducible refine (carry (w := wr) (HCF.out _) ?_).mono ?_); (first | assumption | exact Below.drew (by assumption)); rintro e w3 ⟨rfl, hb3, hB3⟩))
            have hB5 := hB3
            have hcl := (row_carry HROWR.out hB5).cell hlt
            have hfr := (row_carry HROWR.out hB5).frozen k
            have HE := Lib.hid (HEND.out _ hB5)
            have HE2 := Lib.hid (HEND.out _ hB5.drew)
            clear hb3 hB3
            go_wp2
            go_roundw
            case rel => first | exact HE.out | exact HE2.out
            case measure => simp [intOf]; omega
    · obtain rfl : k = m.length := by omega
      have HF : Hid (BordPost m w (.returned (.slice (some ⟨B, 0, none⟩) m.length m.length)) wr) := by
        refine ⟨B, bl, rfl, HROWR.out.lt, HBL.out, HB.out, fun j hj => ?_, HBEL.out⟩
        rw [HROWR.out.cell (by have := HBL.out; omega)]
        simp only [List.getD_eq_getElem?_getD, List.getElem?_eq_getElem hj, Option.getD_some]
      go_wp2
      go_ret
      exact HF.out
end Go.Proofs.Ytjpnkffdpcfnjaa
