/-
  The reference's Wide and Text at slices of numbers; the law file's is and of.
-/
import Derived.Test.YtjpnkffdpcfnjaaDoorAwake
import Derived.Lib.AppendStr
set_option linter.unusedVariables false
namespace Go.Proofs.YtjpnkffdpcfnjaaDoor
open Go.RowKit

/-- A slice value whose elements are the numbers l, wherever it begins. -/
def IntsAt (w : World) (v : Value) (l : List Nat) : Prop :=
  ∃ a cap, v = .slice a l.length cap ∧ (l = [] ∨ ∃ b o, a = some ⟨b, o, none⟩ ∧ b < w.heap.size ∧ ∀ j (h : j < l.length), w.cell? ⟨b, o + j, none⟩ = some (.int .i64 (l[j] : Int)))

theorem IntsAt.below {w w' : World} {v : Value} {l : List Nat} (h : IntsAt w v l) (hb : Below w.heap.size w w') : IntsAt w' v l := by
  obtain ⟨a, cap, hv, h⟩ := h
  refine ⟨a, cap, hv, ?_⟩
  rcases h with h | ⟨b, o, ha, hlt, hc⟩
  · exact .inl h
  · exact .inr ⟨b, o, ha, Nat.lt_of_lt_of_le hlt hb.size, fun j hj => (hb.cell (p := ⟨b, o + j, none⟩) hlt).trans (hc j hj)⟩

theorem Ints.at {w : World} {base : Nat} {v : Value} {l : List Nat} (h : Ints w base v l) : IntsAt w v l := by
  rcases row_form h with ⟨rfl, hn⟩ | ⟨g, cap, rfl, _, _, _, hg, hcell⟩
  · exact ⟨none, 0, by rw [hn], .inl (List.length_eq_zero_iff.1 hn)⟩
  · refine ⟨_, _, rfl, .inr ⟨g, 0, rfl, hg, fun j hj => ?_⟩⟩
    rw [Nat.zero_add, hcell j hj]
    simp [intsV, hj]

set_option maxHeartbeats 400000 in
theorem refWide_any (l : List Nat) (hl : l.length ≤ 1000000000) (v : Value) (w : World) (h : IntsAt w v l) :
    Calls Tryd.prog 39 #[v] w fun e w' => e = .returned (.bool (wideL l)) ∧ w = w' := by
  obtain ⟨a, cap, rfl, h⟩ := h
  rcases h with rfl | ⟨b, o, rfl, hlt, hc⟩
  · go_enter Tryd.func39, Tryd.ntmps39
    go_wp2
    refine wp_loop_rounds 1 ?_
    rw [rounds_succ]
    go_wp2
    go_ret
    exact ⟨rfl, rfl⟩
  · go_enter Tryd.func39, Tryd.ntmps39
    go_wp2
    go_loop [3] (fun i => ∃ k : Nat, k ≤ l.length ∧ i = .int .i64 k ∧ wideL (l.take k) = false) (fun i => l.length - (intOf i).toNat)
    case atStart => exact ⟨0, Nat.zero_le _, rfl, rfl⟩
    case round =>
      obtain ⟨k, hk, rfl, hw⟩ := hrel
      by_cases hlt : k < l.length
      · have hx := hc k hlt
        have hwt := wideL_take l k hlt
        have hwo := wideL_of l k hlt
        rw [hw, Bool.false_or] at hwt
        have HW := Lib.hid hwt
        have HO := Lib.hid hwo
        clear hw hwt hwo hc
        by_cases hbig : 255 < l[k]
        · have hd : (255 : Int) < (l[k] : Int) := by omega
          go_wp2
          go_ret
          exact ⟨by rw [HO.out hbig]; rfl, rfl⟩
        · have hd : ¬ (255 : Int) < (l[k] : Int) := by omega
          go_wp2
          go_round
          case rel => exact ⟨k + 1, by omega, by go_num, by rw [HW.out]; simpa using hbig⟩
          case measure => simp [intOf]; omega
      · obtain rfl : k = l.length := by omega
        have HW : Hid (wideL l = false) := by
          rw [List.take_length] at hw
          exact hw
        clear hw hc
        go_wp2
        go_ret
        exact ⟨by rw [HW.out]; rfl, rfl⟩

theorem strCells_of (l : List UInt8) : Lib.strCells ⟨l.toArray⟩ = Lib.byteCells l := by
  simp [Lib.strCells, Lib.byteCells]

def RTRel (l : List Nat) (w : World) (b i : Value) (wr : World) : Prop :=
  ∃ k : Nat, k ≤ l.length ∧ i = .int .i64 k ∧ wr.ownsRow w.heap.size 5 1 b (textOf (l.take k)).length (Lib.byteCells (textOf (l.take k))) ∧ Below w.heap.size w wr

set_option maxHeartbeats 1000000 in
theorem refText_any (l : List Nat) (hl : l.length ≤ 1000000000) (hch : Chars l) (v : Value) (w : World) (h : IntsAt w v l) :
    Calls Tryd.prog 38 #[v] w fun e w' => e = .returned (.string ⟨(textOf l).toArray⟩) ∧ Below w.heap.size w w' := by
  obtain ⟨i0, hi, hz0, hz1, hz2⟩ := info_parts infoByte
  have hnew : (w.alloc (.cells #[] 5)).ownsRow w.heap.size 5 1 (.slice (some ⟨w.heap.size, 0, none⟩) 0 0) 0 [] := World.ownsRow_lit w #[] 0 (Nat.le_refl _) (by decide) rfl
  have hbnew : Below w.heap.size w (w.alloc (.cells #[] 5)) := (Below.refl _ _).alloc (Nat.le_refl _) _
  obtain ⟨a, cap, rfl, h⟩ := h
  rcases h with rfl | ⟨b, o, rfl, hlt, hc⟩
  · have hcv := convert_row (l := []) hnew
    go_enter Tryd.func38, Tryd.ntmps38
    go_wp2
    refine wp_loop_rounds 1 ?_
    rw [rounds_succ]
    go_wp2
    go_ret
    exact ⟨rfl, hbnew⟩
  · go_enter Tryd.func38, Tryd.ntmps38
    go_wp2
    go_loopw [3, 4] (fun b i wr => RTRel l w b i wr) (fun _ i _ => l.length - (intOf i).toNat)
    case atStart => exact ⟨0, Nat.zero_le _, rfl, hnew, hbnew⟩
    case round =>
      obtain ⟨k, hk, rfl, hown, hbel⟩ := hrel
      have hsz := hbel.size
      by_cases hlt : k < l.length
      · have hx : wr.cell? ⟨b, o + k, none⟩ = some (.int .i64 (l[k] : Int)) := (hbel.cell (p := ⟨b, o + k, none⟩) (by assumption)).trans (hc k hlt)
        have henc := encode_any l[k] (hch l[k] (List.getElem_mem hlt)).1
        have hts := textOf_snoc l k hlt
        have htl := textOf_len (l.take k)
        have hel := enc_len l[k]
        rw [List.length_take] at htl
        have HE := Lib.hid henc
        have HT := Lib.hid hts
        clear henc hts hc hch
        go_wp2_with fail
        refine (HE.out _).mono ?_
        rintro e w1 ⟨rfl, hb1⟩
        have hown1 := row_below hown (Nat.le_refl _) hb1
        have hbel1 := below_from hbel hb1 (Nat.le_refl _)
        have hsz1 := hbel1.size
        have hes : (⟨(enc l[k]).toArray⟩ : ByteArray).size = (enc l[k]).length := by show (List.toArray _).size = _; simp
        have HES := Lib.hid hes
        clear hown hbel hb1 hes
        go_wp2_with (at_builtin; refine Lib.wpList_append_own_string _ rfl _ _ 40 9 rfl w.heap.size 5 i0 Tryd.underlying40 Tryd.underlying9 hi hz0 hz1 hz2 _ _ _ rfl hown1 ⟨(enc l[k]).toArray⟩ rfl ?c3 ?c4 ?c5 ?_)
        case c3 => rw [HES.out]; unfold maxLen; omega
        case c4 => rw [HES.out]; omega
        case c5 => omega
        intro v' w2 hown' hgrow _
        have hb2 : Below w.heap.size w w2 := hbel1.grown hgrow (by omega) (fun j hj => (hown1.lt j hj).1)
        clear hbel1 hown1
        go_wp2
        go_roundw
        case rel =>
          refine ⟨k + 1, by omega, by go_num, ?_, hb2⟩
          rw [HT.out, Lib.byteCells_append, List.length_append, ← HES.out, ← strCells_of]
          exact hown'
        case measure => simp [intOf]; omega
      · obtain rfl : k = l.length := by omega
        rw [List.take_length] at hown
        have hcv := convert_row hown
        clear hc hch hnew hbnew
        go_wp2
        go_ret
        exact ⟨rfl, hbel⟩

set_option maxHeartbeats 1000000 in
theorem is_same (l : List Nat) (hl : l.length ≤ 1000000000) (hch : Chars l) (v : Value) (w : World) (h : IntsAt w v l) :
    Calls Tryd.prog 14 #[strV l, v] w fun e w' => e = .returned (.bool true) ∧ Below w.heap.size w w' := by
  have hLen := len_any l hl
  have hWide := charW_any l
  have hText := text_any l hl hch
  have hRT := refText_any l hl hch
  have hRW := refWide_any l hl
  have HI := Lib.hid h
  obtain ⟨a, cap, rfl, _⟩ := h
  unfold strV at hLen hWide hText ⊢
  have HLEN := Lib.hid hLen
  have HW := Lib.hid hWide
  have HT := Lib.hid hText
  have HRT := Lib.hid hRT
  have HRW := Lib.hid hRW
  clear hLen hWide hText hRT hRW hch
  generalize wideL l = wl at *
  generalize pk l = d at *
  generalize (textOf l) = tx at *
  go_enter Tryd.func14, Tryd.ntmps14
  go_wp2_with fail
  refine (HLEN.out _).mono ?_
  rintro e w2 ⟨rfl, hb2⟩
  have T2 := (two_alloc w (.string d) (.bool wl) 24).below hb2
  have B2 := below_alloc (Below.refl _ _) hb2
  have H2 := Lib.hid T2
  obtain ⟨_, c0, c1⟩ := T2
  clear hb2
  go_wp2_with fail
  refine (HT.out _).mono ?_
  rintro e w3 ⟨rfl, hb3⟩
  clear c0 c1
  have T3 := H2.out.below hb3
  have B3 := below_from B2 hb3 (Nat.le_refl _)
  have H3 := Lib.hid T3
  obtain ⟨_, c0, c1⟩ := T3
  clear hb3 B2 H2
  go_wp2_with fail
  refine (HRT.out _ _ (HI.out.below B3)).mono ?_
  rintro e w4 ⟨rfl, hb4⟩
  clear c0 c1
  have T4 := H3.out.below hb4
  have B4 := below_from B3 hb4 (Nat.le_refl _)
  obtain ⟨_, c0, c1⟩ := T4
  clear hb4 B3 H3
  go_wp2_with fail
  refine (HW.out _).mono ?_
  rintro e w5 ⟨rfl, hb5⟩
  clear c0 c1
  have B5 := below_from B4 hb5 (Nat.le_refl _)
  clear hb5 B4
  go_wp2_with fail
  refine (HRW.out _ _ (HI.out.below B5)).mono ?_
  rintro e w6 ⟨rfl, rfl⟩
  go_wp2
  go_ret
  exact ⟨by simp, B5⟩

theorem cell_zero (w : World) (b : Nat) (x y : Value) {v : Value} (h : w.cell? ⟨b, 0, none⟩ = some v) : ((w.setCell ⟨b, 0, none⟩ x).setCell ⟨b, 1, none⟩ y).cell? ⟨b, 0, none⟩ = some x :=
  (World.cell?_setCell_other _ _ _ _ (by simp)).trans (World.cell?_setCell_same _ _ _ h)

set_option maxHeartbeats 1000000 in
theorem of_any (s : ByteArray) (hs : s.size ≤ 65536) (w : World) :
    Calls Tryd.prog 7 #[.string s] w fun e w' => e = .returned (strV (decs s)) ∧ Below w.heap.size w w' := by
  have hOf := Of_ok s (w.alloc (.cells #[.string ⟨#[]⟩, .bool false] 24)) (by omega) (by have := decs_len s; omega)
  unfold strV at hOf ⊢
  generalize wideL (decs s) = wl at *
  generalize pk (decs s) = d at *
  have HOF := Lib.hid hOf
  clear hOf
  go_enter Tryd.func7, Tryd.ntmps7
  go_wp2_with fail
  refine HOF.out.mono ?_
  rintro e w1 ⟨rfl, hb1⟩
  have T1 := (two_alloc w (.string ⟨#[]⟩) (.bool false) 24).below hb1
  have hf0 : w1.frozen? ⟨w.heap.size, 0, none⟩ = false := by
    rw [hb1.frozen (p := ⟨w.heap.size, 0, none⟩) (by simp)]; exact World.frozen?_alloc_at _ _ _ _ rfl
  have hf1 : w1.frozen? ⟨w.heap.size, 1, none⟩ = false := by
    rw [hb1.frozen (p := ⟨w.heap.size, 1, none⟩) (by simp)]; exact World.frozen?_alloc_at _ _ _ _ rfl
  have B1 := below_alloc (Below.refl _ _) hb1
  have hs1 := B1.size
  obtain ⟨hlt, c0, c1⟩ := T1
  have hs0 := cell_zero w1 w.heap.size (.string d) (.bool wl) c0
  have hs1' := cell_two w1 w.heap.size (.string d) (.bool wl) c1
  have hz : ((w1.setCell ⟨w.heap.size, 0, none⟩ (.string d)).setCell ⟨w.heap.size, 1, none⟩ (.bool wl)).heap.size = w1.heap.size := by simp [World.setCell]
  have hn0 : ∀ o : Obj, (((w1.setCell ⟨w.heap.size, 0, none⟩ (.string d)).setCell ⟨w.heap.size, 1, none⟩ (.bool wl)).alloc o).cell? ⟨w.heap.size, 0, none⟩ = some (.string d) := fun o => by
    rw [World.cell?_alloc_past _ _ _ (by rw [hz]; exact hlt)]; exact hs0
  have hn1 : ∀ o : Obj, (((w1.setCell ⟨w.heap.size, 0, none⟩ (.string d)).setCell ⟨w.heap.size, 1, none⟩ (.bool wl)).alloc o).cell? ⟨w.heap.size, 1, none⟩ = some (.bool wl) := fun o => by
    rw [World.cell?_alloc_past _ _ _ (by rw [hz]; exact hlt)]; exact hs1'
  have HN0 := Lib.hid hn0
  have HN1 := Lib.hid hn1
  clear hb1 hs0 hs1' hn0 hn1 hz
  go_wp2
  have hn0 := HN0.out
  have hn1 := HN1.out
  refine bodyPost_ret (v := .agg #[.string d, .bool wl]) (by simp [results, Tryd.results7, go_sem, hn0, hn1]) rfl ⟨rfl, ?_⟩
  exact (((B1.setCell (p := ⟨w.heap.size, 0, none⟩) (Nat.le_refl _) _).setCell (p := ⟨w.heap.size, 1, none⟩) (Nat.le_refl _) _)).alloc (by simp [World.setCell]; omega) _
end Go.Proofs.YtjpnkffdpcfnjaaDoor
