/-
  text.Find.
-/
import Derived.Test.YtjpnkffdpcfnjaaFind
set_option linter.unusedVariables false
namespace Go.Proofs.Ytjpnkffdpcfnjaa
open Go.RowKit

/-- What Find has in memory: both strings and the borders. -/
def FMem (b0 b1 B : Nat) (x0 x1 y0 y1 : Value) (bl : List Nat) (wr : World) : Prop :=
  Two wr b0 x0 x1 ∧ Two wr b1 y0 y1 ∧ B < wr.heap.size ∧ ∀ j (h : j < bl.length), wr.cell? ⟨B, j, none⟩ = some (.int .i64 (bl[j] : Int))
theorem FMem.below {b0 b1 B : Nat} {x0 x1 y0 y1 : Value} {bl : List Nat} {w w' : World} (h : FMem b0 b1 B x0 x1 y0 y1 bl w) (hb : Below w.heap.size w w') : FMem b0 b1 B x0 x1 y0 y1 bl w' :=
  ⟨h.1.below hb, h.2.1.below hb, Nat.lt_of_lt_of_le h.2.2.1 hb.size, fun j hj => (hb.cell (p := ⟨B, j, none⟩) h.2.2.1).trans (h.2.2.2 j hj)⟩

def FRel (l m : List Nat) (w : World) (M : World → Prop) (fd i : Value) (wr : World) : Prop :=
  ∃ k f : Nat, k ≤ l.length ∧ i = .int .i64 k ∧ fd = .int .i64 (f : Int) ∧ Kmp.NoEnd l m k ∧ Kmp.Best m (l.take k) m.length f ∧ M wr ∧ Below w.heap.size w wr
theorem frel_next {l m : List Nat} {w wr : World} {M : World → Prop} {k F : Nat} (hk : k < l.length) (hn : Kmp.NoEnd l m k) (hb : Kmp.Best m (l.take k ++ [l[k]]) (m.length + 1) F) (hF : F ≠ m.length) (hM : M wr) (hB : Below w.heap.size w wr) :
    FRel l m w M (.int .i64 (F : Int)) (.int .i64 ((k + 1 : Nat) : Int)) wr := by
  rw [← Kmp.take_snoc l k hk] at hb
  exact ⟨k + 1, F, hk, rfl, rfl, Kmp.noEnd_succ hk hn hb hF, Kmp.best_down hb hF, hM, hB⟩
theorem find_hit {l m : List Nat} {w wr : World} {k F : Nat} (hm : 0 < m.length) (hk : k < l.length) (hn : Kmp.NoEnd l m k) (hb : Kmp.Best m (l.take k ++ [l[k]]) (m.length + 1) F) (hF : F = m.length) (hB : Below w.heap.size w wr) :
    F ≤ k + 1 ∧ FindPost l m w (.returned (.int .i64 ((k + 1 - F : Nat) : Int))) wr := by
  subst hF
  rw [← Kmp.take_snoc l k hk] at hb
  obtain ⟨h1, h2⟩ := Kmp.found_hit hm hk hn hb
  exact ⟨h1, _, rfl, h2, hB⟩

set_option maxHeartbeats 4000000 in
set_option maxRecDepth 100000 in
theorem find_some (l m : List Nat) (hl : l.length ≤ 1000000) (hm : m.length ≤ 1000000) (hcl : ∀ c ∈ l, c < 16777216) (hcm : ∀ c ∈ m, c < 16777216) (hne : 0 < m.length) (w : World) :
    Calls Try.prog 24 #[strV l, strV m] w (FindPost l m w) := by
  have hlenL := len_any l (by omega)
  have hlenM := len_any m (by omega)
  have hchL := fun i hi => char_any l i hi (by omega) hcl
  have hchM := fun i hi => char_any m i hi (by omega) hcm
  have hbo := fun w => borders_any m hm hcm hne w
  unfold BordPost at hbo
  unfold strV at hlenL hlenM hchL hchM hbo ⊢
  generalize pk l = d at *
  generalize wideL l = wl at *
  generalize pk m = e at *
  generalize wideL m = we at *
  have HLL := Lib.hid hlenL
  have HLM := Lib.hid hlenM
  have HCL := Lib.hid hchL
  have HCM := Lib.hid hchM
  have HBO := Lib.hid hbo
  have hneI : ¬ ((m.length : Int) = 0) := by omega
  have hneB : ((m.length : Int) == 0) = false := by rw [beq_eq_false_iff_ne]; exact hneI
  clear hlenL hlenM hchL hchM hbo hcl hcm hneI
  go_enter Try.func24, Try.ntmps24
  go_wp2_with fail
  refine (HLM.out _).mono ?_
  rintro e1 w1 ⟨rfl, hb1⟩
  have M0 : Two ((w.alloc (.cells #[.string d, .bool wl] 24)).alloc (.cells #[.string e, .bool we] 24)) w.heap.size (.string d) (.bool wl) := (two_alloc w (.string d) (.bool wl) 24).below (below_al (Below.refl _ _))
  have M1 : Two ((w.alloc (.cells #[.string d, .bool wl] 24)).alloc (.cells #[.string e, .bool we] 24)) (w.heap.size + 1) (.string e) (.bool we) := by
    have := two_alloc (w.alloc (.cells #[.string d, .bool wl] 24)) (.string e) (.bool we) 24
    simpa using this
  have B1 : Below w.heap.size w w1 := (below_al (below_al (Below.refl _ _))).trans (hb1.mono (by simp; omega))
  have N0 := M0.below hb1
  have N1 := M1.below hb1
  have HN0 := Lib.hid N0
  have HN1 := Lib.hid N1
  obtain ⟨_, x0, x1⟩ := N0
  obtain ⟨_, y0, y1⟩ := N1
  clear M0 M1 hb1
  go_wp2_with fail
  refine (HBO.out _).mono ?_
  rintro e2 w2 ⟨B, bl, rfl, hBw, hbl, hBs, hcl, hb2⟩
  have B2 := below_from B1 hb2 (Nat.le_refl _)
  have N0 := HN0.out.below hb2
  have N1 := HN1.out.below hb2
  have HMEM : Hid (FMem w.heap.size (w.heap.size + 1) B (.string d) (.bool wl) (.string e) (.bool we) bl w2) := ⟨N0, N1, hBw, hcl⟩
  have HBL := Lib.hid hbl
  have HBS := Lib.hid hBs
  clear x0 x1 y0 y1 HN0 HN1 hb2 hbl hBs hcl B1
  obtain ⟨_, x0, x1⟩ := N0
  obtain ⟨_, y0, y1⟩ := N1
  go_wp2_with fail
  refine (HLL.out _).mono ?_
  rintro e3 w3 ⟨rfl, hb3⟩
  have B3 := below_from B2 hb3 (Nat.le_refl _)
  have HM3 := Lib.hid (HMEM.out.below hb3)
  clear x0 x1 y0 y1 hb3 B2 HMEM
  generalize hb0 : w.heap.size = b0 at HM3
  generalize hM : FMem b0 (b0 + 1) B (.string d) (.bool wl) (.string e) (.bool we) bl = M at HM3
  have HMD : Hid (∀ wr, M wr → FMem b0 (b0 + 1) B (.string d) (.bool wl) (.string e) (.bool we) bl wr) := fun wr h => by rw [hM]; exact h
  have HMB : Hid (∀ wr wr', M wr → Below wr.heap.size wr wr' → M wr') := fun wr wr' h hb => by rw [← hM] at *; exact FMem.below h hb
  have HB0 := Lib.hid hb0
  clear hM
  clear hb0
  go_wp2
  go_loopw [6, 7, 8, 16] (fun fd _ _ i wr => FRel l m w M fd i wr) (fun _ _ _ i _ => l.length - (intOf i).toNat)
  case atStart => exact ⟨0, 0, Nat.zero_le _, rfl, rfl, Kmp.noEnd_zero l m hne, by simpa using Kmp.best_nil m hne, HM3.out, B3⟩
  case round =>
    obtain ⟨k, f, hk, rfl, rfl, hno, hbest, hmem, hbel⟩ := hrel
    have HNO := Lib.hid hno
    have HBEST := Lib.hid hbest
    have HMEM := Lib.hid hmem
    have HBEL := Lib.hid hbel
    clear hno hbest hbel
    by_cases hlt : k < l.length
    · have hltI : (k : Int) < (l.length : Int) := by omega
      have HCK := Lib.hid (HCL.out k hlt)
      obtain ⟨⟨_, x0, x1⟩, ⟨_, y0, y1⟩, _, _⟩ := HMD.out _ hmem
      clear hmem
      go_wp2_with fail
      refine (HCK.out _).mono ?_
      rintro e4 w4 ⟨rfl, hb4⟩
      have HM4 := Lib.hid (HMB.out _ _ HMEM.out hb4)
      have HB4 := Lib.hid (below_from HBEL.out hb4 (Nat.le_refl _))
      clear x0 x1 y0 y1 hb4 HMEM HBEL
      go_wp2
      go_loopw [6] (fun fd wr => ∃ f : Nat, fd = .int .i64 (f : Int) ∧ Kmp.Try m (l.take k) m.length l[k] f ∧ M wr ∧ Below w.heap.size w wr) (fun fd _ => (intOf fd).toNat)
      case atStart => exact ⟨f, rfl, HBEST.out.try _, HM4.out, HB4.out⟩
      case round =>
        clear HM4 HB4 HBEST
        obtain ⟨f, rfl, htry, hmem, hbel⟩ := hrel
        have hfm := htry.1
        have HTRY := Lib.hid htry
        have HMEM := Lib.hid hmem
        have HBEL := Lib.hid hbel
        have HCF := Lib.hid (HCM.out f hfm)
        have HSTEP : Hid (0 < f → l[k] ≠ m[f] → Kmp.Try m (l.take k) m.length l[k] (bl.getD (f - 1) 0) ∧ bl.getD (f - 1) 0 < f) := fun h0 hne' => by
          obtain ⟨g, rfl⟩ : ∃ g, f = g + 1 := ⟨f - 1, by omega⟩
          have hg : g < bl.length := by have := HBL.out; omega
          have e : bl.getD g 0 = bl[g] := by rw [List.getD_eq_getElem?_getD, List.getElem?_eq_getElem hg]; rfl
          have hb := HBS.out g hg
          simp only [Nat.add_sub_cancel]
          rw [e]
          exact ⟨HTRY.out.step (Nat.le_refl _) hb (fun h e => hne' e.symm), hb.1⟩
        have HHIT : Hid (l[k] = m[f] → Kmp.Best m (l.take k ++ [l[k]]) (m.length + 1) (f + 1)) := fun e => HTRY.out.hit (Nat.le_refl _) (fun h => e.symm)
        have HMISS : Hid (f = 0 → l[k] ≠ m[f] → Kmp.Best m (l.take k ++ [l[k]]) (m.length + 1) 0) := fun e hne' => by subst e; exact HTRY.out.miss (Nat.le_refl _) (fun h e => hne' e.symm)
        have HCELL : Hid (0 < f → ∀ W', M W' → W'.cell? ⟨B, f - 1, none⟩ = some (.int .i64 ((bl.getD (f - 1) 0 : Nat) : Int))) := fun h0 W' hm' => by
          have h1 : f - 1 < bl.length := by have := HBL.out; omega
          rw [(HMD.out _ hm').2.2.2 _ h1, List.getD_eq_getElem?_getD, List.getElem?_eq_getElem h1]; rfl
        obtain ⟨⟨_, x0, x1⟩, ⟨_, y0, y1⟩, _, _⟩ := HMD.out _ hmem
        clear htry hmem hbel
        have HM4 := HMEM
        have HB4 := HBEL
        by_cases hf0 : 0 < f
        · have hfI : (0 : Int) < (f : Int) := by omega
          by_cases hxy : l[k] = m[f]
          · have HH := Lib.hid (HHIT.out hxy)
            rw [← hxy] at HCF
            clear hxy HSTEP HHIT HMISS HCELL HTRY
            generalize hx : l[k] = x at HCF
            go_wp2_with fail
            refine (HCF.out _).mono ?_
            rintro e5 w5 ⟨rfl, hb5⟩
            have HM5 := Lib.hid (HMB.out _ _ HM4.out hb5)
            have HB5 := Lib.hid (below_from HB4.out hb5 (Nat.le_refl _))
            clear x0 x1 y0 y1 hb5
            obtain ⟨⟨_, x0, x1⟩, ⟨_, y0, y1⟩, _, _⟩ := HMD.out _ HM5.out
            go_wp2_with fail
            refine (HCF.out _).mono ?_
            rintro e6 w6 ⟨rfl, hb6⟩
            have HM6 := Lib.hid (HMB.out _ _ HM5.out hb6)
            have HB6 := Lib.hid (below_from HB5.out hb6 (Nat.le_refl _))
            clear x0 x1 y0 y1 hb6
            obtain ⟨⟨_, x0, x1⟩, ⟨_, y0, y1⟩, _, _⟩ := HMD.out _ HM6.out
            go_wp2_with fail
            refine (HLM.out _).mono ?_
            rintro e7 w7 ⟨rfl, hb7⟩
            have HM7 := Lib.hid (HMB.out _ _ HM6.out hb7)
            have HB7 := Lib.hid (below_from HB6.out hb7 (Nat.le_refl _))
            clear x0 x1 y0 y1 hb7
            obtain ⟨⟨_, x0, x1⟩, ⟨_, y0, y1⟩, _, _⟩ := HMD.out _ HM7.out
            subst hx
            by_cases hF : f + 1 = m.length
            · obtain ⟨h1, h2⟩ := find_hit (w := w) hne hlt HNO.out HH.out hF HB7.out
              have HF := Lib.hid h2
              have hFb : (((f + 1 : Nat) : Int) == (m.length : Int)) = true := by rw [beq_iff_eq]; omega
              have hFI : ((f + 1 : Nat) : Int) = (m.length : Int) := by omega
              have hE : ((k + 1 - (f + 1) : Nat) : Int) = (k : Int) + 1 - ((f + 1 : Nat) : Int) := by omega
              have HE := Lib.hid hE
              clear h2 hE HH
              go_wp2
              go_ret
              have hf := HF.out
              rw [HE.out] at hf
              first
                | exact hf
                | (simpa using hf)
            · have hFb : (((f + 1 : Nat) : Int) == (m.length : Int)) = false := by rw [beq_eq_false_iff_ne]; omega
              have hFI : ¬ ((f + 1 : Nat) : Int) = (m.length : Int) := by omega
              have HE := Lib.hid (frel_next (M := M) (w := w) hlt HNO.out HH.out hF HM7.out HB7.out)
              clear HH
              go_wp2
              go_roundw
              case rel => first | exact HE.out | (simpa using HE.out)
              case measure => simp [intOf]; omega
          · have hne1 : ((l[k] : Int) != (m[f] : Int)) = true := by rw [bne_iff_ne]; omega
            have HH := Lib.hid (HSTEP.out hf0 hxy)
            have HCE := Lib.hid (HCELL.out hf0)
            have hf1 : IntKind.i64.wrap ((f : Int) - 1) = ((f - 1 : Nat) : Int) := by rw [IntWalk.i64_in _ (by omega)]; omega
            have hf2 : (f : Int) - 1 = ((f - 1 : Nat) : Int) := by omega
            have hf3 : f - 1 < m.length := by omega
            clear hxy HSTEP HHIT HMISS HCELL HTRY
            generalize hy : m[f] = y at HCF hne1
            go_wp2_with fail
            refine (HCF.out _).mono ?_
            rintro e5 w5 ⟨rfl, hb5⟩
            have HM5 := Lib.hid (HMB.out _ _ HM4.out hb5)
            have HB5 := Lib.hid (below_from HB4.out hb5 (Nat.le_refl _))
            clear x0 x1 y0 y1 hb5
            obtain ⟨⟨_, x0, x1⟩, ⟨_, y0, y1⟩, _, _⟩ := HMD.out _ HM5.out
            have hcl := HCE.out _ HM5.out
            rw [hf2] at *
            generalize f - 1 = g at *
            generalize bl.getD g 0 = q at HH hcl
            go_wp2
            go_roundw
            case rel => exact ⟨_, rfl, HH.out.1, HM5.out, HB5.out⟩
            case measure => have := HH.out.2; simp [intOf]; omega
        · obtain rfl : f = 0 := by omega
          rw [show (((0 : Nat) : Int)) = 0 from rfl] at HCF
          by_cases hxy : l[k] = m[0]
          · have HH := Lib.hid (HHIT.out hxy)
            rw [← hxy] at HCF
            clear hxy HSTEP HHIT HMISS HCELL HTRY hf0
            generalize hx : l[k] = x at HCF
            go_wp2_with fail
            refine (HCF.out _).mono ?_
            rintro e5 w5 ⟨rfl, hb5⟩
            have HM5 := Lib.hid (HMB.out _ _ HM4.out hb5)
            have HB5 := Lib.hid (below_from HB4.out hb5 (Nat.le_refl _))
            clear x0 x1 y0 y1 hb5
            obtain ⟨⟨_, x0, x1⟩, ⟨_, y0, y1⟩, _, _⟩ := HMD.out _ HM5.out
            go_wp2_with fail
            refine (HLM.out _).mono ?_
            rintro e6 w6 ⟨rfl, hb6⟩
            have HM6 := Lib.hid (HMB.out _ _ HM5.out hb6)
            have HB6 := Lib.hid (below_from HB5.out hb6 (Nat.le_refl _))
            clear x0 x1 y0 y1 hb6
            obtain ⟨⟨_, x0, x1⟩, ⟨_, y0, y1⟩, _, _⟩ := HMD.out _ HM6.out
            subst hx
            by_cases hF : 0 + 1 = m.length
            · obtain ⟨h1, h2⟩ := find_hit (w := w) hne hlt HNO.out HH.out hF HB6.out
              have HF := Lib.hid h2
              have hFb : (((0 + 1 : Nat) : Int) == (m.length : Int)) = true := by rw [beq_iff_eq]; omega
              have hFI : ((0 + 1 : Nat) : Int) = (m.length : Int) := by omega
              have hE : ((k + 1 - (0 + 1) : Nat) : Int) = (k : Int) + 1 - ((0 + 1 : Nat) : Int) := by omega
              have HE := Lib.hid hE
              clear h2 hE HH
              go_wp2
              go_ret
              have hf := HF.out
              rw [HE.out] at hf
              first
                | exact hf
                | (simpa using hf)
            · have hFb : (((0 + 1 : Nat) : Int) == (m.length : Int)) = false := by rw [beq_eq_false_iff_ne]; omega
              have hFI : ¬ ((0 + 1 : Nat) : Int) = (m.length : Int) := by omega
              have HE := Lib.hid (frel_next (M := M) (w := w) hlt HNO.out HH.out hF HM6.out HB6.out)
              clear HH
              go_wp2
              go_roundw
              case rel => first | exact HE.out | (simpa using HE.out)
              case measure => simp [intOf]; omega
          · have hne1 : ((l[k] : Int) == (m[0] : Int)) = false := by rw [beq_eq_false_iff_ne]; omega
            have HH := Lib.hid (HMISS.out rfl hxy)
            clear hxy HSTEP HHIT HMISS HCELL HTRY hf0
            generalize hy : m[0] = y at HCF hne1
            go_wp2_with fail
            refine (HCF.out _).mono ?_
            rintro e5 w5 ⟨rfl, hb5⟩
            have HM5 := Lib.hid (HMB.out _ _ HM4.out hb5)
            have HB5 := Lib.hid (below_from HB4.out hb5 (Nat.le_refl _))
            clear x0 x1 y0 y1 hb5
            obtain ⟨⟨_, x0, x1⟩, ⟨_, y0, y1⟩, _, _⟩ := HMD.out _ HM5.out
            go_wp2_with fail
            refine (HLM.out _).mono ?_
            rintro e6 w6 ⟨rfl, hb6⟩
            have HM6 := Lib.hid (HMB.out _ _ HM5.out hb6)
            have HB6 := Lib.hid (below_from HB5.out hb6 (Nat.le_refl _))
            clear x0 x1 y0 y1 hb6
            obtain ⟨⟨_, x0, x1⟩, ⟨_, y0, y1⟩, _, _⟩ := HMD.out _ HM6.out
            have hF : 0 ≠ m.length := by omega
            have hFb : ((0 : Int) == (m.length : Int)) = false := by rw [beq_eq_false_iff_ne]; omega
            have HE := Lib.hid (frel_next (M := M) (w := w) hlt HNO.out HH.out hF HM6.out HB6.out)
            clear HH hF
            go_wp2
            go_roundw
            case rel => first | exact HE.out | (simpa using HE.out)
            case measure => simp [intOf]; omega
    · obtain rfl : k = l.length := by omega
      have HF : Hid (FindPost l m w (.returned (.int .i64 (-1))) wr) := ⟨_, rfl, Kmp.found_none hne HNO.out, HBEL.out⟩
      clear hmem
      go_wp2
      go_ret
      exact HF.out

theorem find_none (l : List Nat) (w : World) :
    Calls Try.prog 24 #[strV l, strV []] w (FindPost l [] w) := by
  have hlenM := len_any [] (by decide)
  unfold strV at hlenM ⊢
  generalize pk l = d at *
  generalize wideL l = wl at *
  generalize pk [] = e at *
  generalize wideL [] = we at *
  have HLM := Lib.hid hlenM
  clear hlenM
  go_enter Try.func24, Try.ntmps24
  go_wp2_with fail
  refine (HLM.out _).mono ?_
  rintro e1 w1 ⟨rfl, hb1⟩
  have B1 : Below w.heap.size w w1 := (below_al (below_al (Below.refl _ _))).trans (hb1.mono (by simp; omega))
  have HF : Hid (FindPost l [] w (.returned (.int .i64 0)) w1) := ⟨_, rfl, Kmp.found_empty l, B1⟩
  go_wp2
  go_ret
  exact HF.out

theorem find_any (l m : List Nat) (hl : l.length ≤ 1000000) (hm : m.length ≤ 1000000) (hcl : ∀ c ∈ l, c < 16777216) (hcm : ∀ c ∈ m, c < 16777216) (w : World) :
    Calls Try.prog 24 #[strV l, strV m] w (FindPost l m w) := by
  cases m with
  | nil => exact find_none l w
  | cons a m => exact find_some l (a :: m) hl hm hcl hcm (by simp) w
end Go.Proofs.Ytjpnkffdpcfnjaa
