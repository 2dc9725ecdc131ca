/-
  text.isWide, slices.ContainsFunc at it, text.pack, text.Of.
-/
import Derived.Test.YtjpnkffdpcfnjaaDoorStr
import Derived.Laws.OwnMore
import Derived.LoopTactic
import Derived.Laws.IdiomStrings
import Derived.Lib.BufferRead
import Derived.Lib.BufferWrite
import Derived.Deep.LoopGhost
set_option linter.unusedVariables false
namespace Go.Proofs.YtjpnkffdpcfnjaaDoor
open Go.RowKit

set_option maxHeartbeats 400000 in
theorem isWide_any (c : Int) (w : World) :
    Calls Tryd.prog 51 #[.int .i32 c] w fun e w' => e = .returned (.bool (decide (255 < c))) ∧ w = w' := by
  go_enter Tryd.func51, Tryd.ntmps51
  go_wp2
  go_ret
  exact ⟨rfl, rfl⟩

/-- What a row in memory gives a walk. -/
theorem row_form {w : World} {base : Nat} {e : TypeId} {v : Value} {n : Nat} {xs : List Value} (h : w.ownsRow base e 1 v n xs) :
    (v = .slice none 0 0 ∧ n = 0) ∨ ∃ g cap, v = .slice (some ⟨g, 0, none⟩) n cap ∧ n ≤ cap ∧ cap ≤ maxLen ∧ base ≤ g ∧ g < w.heap.size ∧ ∀ j, j < n → w.cell? ⟨g, j, none⟩ = xs[j]? := by
  rcases h.2 with ⟨hv, hn⟩ | ⟨g, cap, cur, hv, hb, hg, h1, h2, _, _⟩
  · exact .inl ⟨hv, hn⟩
  · subst hv
    refine .inr ⟨g, cap, rfl, h1, h2, hb, (h.lt g rfl).2, fun j hj => h.cellAt j (by omega)⟩

/-- Runes that lie in memory: a slice value of them. -/
def runeV (l : List Nat) : List Value := l.map fun (c : Nat) => Value.int .i32 (c : Int)
def Runes (w : World) (base : Nat) (v : Value) (l : List Nat) : Prop := w.ownsRow base 21 1 v l.length (runeV l)

theorem runeV_get (l : List Nat) (j : Nat) (h : j < l.length) : (runeV l)[j]? = some (.int .i32 ((l[j] : Nat) : Int)) := by
  simp [runeV, h]

theorem wideL_take (l : List Nat) (k : Nat) (h : k < l.length) : wideL (l.take (k + 1)) = (wideL (l.take k) || decide (255 < l[k])) := by
  rw [List.take_succ_eq_append_getElem h]
  unfold wideL
  rw [List.any_append]
  simp

theorem wideL_of (l : List Nat) (k : Nat) (h : k < l.length) (hk : 255 < l[k]) : wideL l = true := by
  simp only [wideL, List.any_eq_true]
  exact ⟨l[k], List.getElem_mem h, by simpa using hk⟩

def IdxPost (l : List Nat) (w : World) (e : Ending) (w' : World) : Prop := ∃ k : Int, e = .returned (.int .i64 k) ∧ (decide (0 ≤ k)) = wideL l ∧ w = w'

set_option maxHeartbeats 400000 in
theorem indexFunc_any (l : List Nat) (v : Value) (base : Nat) (w : World) (hl : l.length ≤ 1000000000) (h : Runes w base v l) :
    Calls Tryd.prog 65 #[v, .func (.func 51) #[] #[]] w (IdxPost l w) := by
  rcases row_form h with ⟨rfl, hn⟩ | ⟨g, cap, rfl, hc1, hc2, hb, hg, hcell⟩
  · have hnil : l = [] := List.length_eq_zero_iff.1 hn
    subst hnil
    go_enter Tryd.func65, Tryd.ntmps65
    go_wp2
    refine wp_loop_rounds 1 ?_
    rw [rounds_succ]
    go_wp2
    go_ret
    exact ⟨-1, rfl, rfl, rfl⟩
  · go_enter Tryd.func65, Tryd.ntmps65
    go_wp2
    go_loop [5, 8] (fun _ i => ∃ k : Nat, k ≤ l.length ∧ i = .int .i64 k ∧ wideL (l.take k) = false) (fun _ i => l.length - (intOf i).toNat)
    case atStart => exact ⟨0, Nat.zero_le _, rfl, rfl⟩
    case round =>
      obtain ⟨k, hk, rfl, hw⟩ := hrel
      by_cases hlt : k < l.length
      · have hx := (hcell k hlt).trans (runeV_get l k hlt)
        have hwt := wideL_take l k hlt
        have hwo := wideL_of l k hlt
        rw [hw, Bool.false_or] at hwt
        have HW := Lib.hid hwt
        have HO := Lib.hid hwo
        clear hw hwt hwo hcell
        by_cases hbig : 255 < l[k]
        · have hd : decide ((255 : Int) < (l[k] : Int)) = true := by simp; omega
          go_wp2_with (go_at_call 51; refine (isWide_any _ _).mono ?_; rintro e w' ⟨rfl, rfl⟩)
          go_ret
          exact ⟨k, rfl, by rw [HO.out hbig]; simp, rfl⟩
        · have hd : decide ((255 : Int) < (l[k] : Int)) = false := by simp; omega
          go_wp2_with (go_at_call 51; refine (isWide_any _ _).mono ?_; rintro e w' ⟨rfl, rfl⟩)
          go_round
          case rel => exact ⟨k + 1, by omega, by go_num, by rw [HW.out]; simpa using hbig⟩
          case measure => simp [intOf]; omega
      · have hkl : k = l.length := by omega
        have HW : Hid (wideL l = false) := by
          rw [hkl, List.take_length] at hw
          exact hw
        clear hw hkl hcell
        go_wp2
        go_ret
        exact ⟨-1, rfl, by rw [HW.out]; rfl, rfl⟩

set_option maxHeartbeats 400000 in
theorem containsFunc_any (l : List Nat) (v : Value) (base : Nat) (w : World) (hl : l.length ≤ 1000000000) (h : Runes w base v l) :
    Calls Tryd.prog 50 #[v, .func (.func 51) #[] #[]] w fun e w' => e = .returned (.bool (wideL l)) ∧ w = w' := by
  go_enter Tryd.func50, Tryd.ntmps50
  go_wp2_with fail
  refine (indexFunc_any l v base w hl h).mono ?_
  rintro e w' ⟨k, rfl, hk, rfl⟩
  have HK := Lib.hid hk
  clear hk
  go_wp2
  go_ret
  exact ⟨by rw [← HK.out]; rfl, rfl⟩

/-- 'string(b)' of a row of bytes. -/
theorem convert_row {w : World} {base : Nat} {v : Value} {l : List UInt8} (h : w.ownsRow base 5 1 v l.length (Lib.byteCells l)) :
    (convert 40 9 v).run Tryd.prog w = .ok (.string ⟨l.toArray⟩) w := by
  rcases row_form h with ⟨rfl, hn⟩ | ⟨g, cap, rfl, hc1, hc2, hb, hg, hcell⟩
  · have hnil : l = [] := List.length_eq_zero_iff.1 hn
    subst hnil
    exact Lib.run_convert_nil_bytes w _ _ _ 0 Tryd.underlying40 Tryd.underlying5 Tryd.underlying9
  · refine run_convert_bytes_back w _ _ _ _ cap l Tryd.underlying40 Tryd.underlying5 Tryd.underlying9 fun j hj => ?_
    rw [show (⟨g, 0, none⟩ : Addr).add j = ⟨g, j, none⟩ by simp only [Addr.add, Nat.zero_add]; split <;> simp_all, hcell j hj]
    simp [Lib.byteCells, hj]

/-- The bytes of the characters l in one width. -/
def packW (wd : Bool) (l : List Nat) : List UInt8 := if wd then l.flatMap three else l.map UInt8.ofNat

theorem packW_snoc (wd : Bool) (l : List Nat) (k : Nat) (h : k < l.length) : packW wd (l.take (k + 1)) = packW wd (l.take k) ++ (if wd then three l[k] else [UInt8.ofNat l[k]]) := by
  rw [List.take_succ_eq_append_getElem h]
  unfold packW
  cases wd
  · simp only [Bool.false_eq_true, if_false, List.map_append, List.map_cons, List.map_nil]
  · simp only [if_true, List.flatMap_append, List.flatMap_cons, List.flatMap_nil, List.append_nil]

theorem packW_le (wd : Bool) (l : List Nat) (k : Nat) : (packW wd (l.take k)).length ≤ 3 * k := by
  unfold packW
  cases wd
  · simp; omega
  · simp only [if_true, threes_length]; simp; omega

def PackRel (wd : Bool) (l : List Nat) (w : World) (o : Obj) (b i : Value) (wr : World) : Prop :=
  ∃ k : Nat, k ≤ l.length ∧ i = .int .i64 k ∧ wr.ownsRow (w.heap.size + 1) 5 1 b (packW wd (l.take k)).length (Lib.byteCells (packW wd (l.take k))) ∧ Below (w.heap.size + 1) (w.alloc o) wr

/-- What an append to a row of the call's own leaves of the world below. -/
theorem below_append {B : Nat} {w0 wr w1 : World} {o : Obj} {e : TypeId} {size n : Nat} {b : Value} {xs : List Value} (hbel : Below B w0 wr) (hB : B ≤ w0.heap.size) (hown : wr.ownsRow B e size b n xs) (hgrow : (wr.alloc o).grownBy w1 b.ownBlock) : Below B w0 w1 :=
  (hbel.alloc (by have := hbel.size; omega) o).grown hgrow (by have := hbel.size; simp; omega) (fun j hj => (hown.lt j hj).1)

theorem three_cells (c : Nat) (h : c < 16777216) : Lib.byteCells (three c) = [.int .u8 ((c : Int) / 65536), .int .u8 ((c : Int) / 256 % 256)] ++ [.int .u8 ((c : Int) % 256)] := by
  have e : (c : Int) / 65536 % 256 = (c : Int) / 65536 := by omega
  simp [Lib.byteCells, three, e]

theorem cell_two (w : World) (b : Nat) (x y : Value) {v : Value} (h : w.cell? ⟨b, 1, none⟩ = some v) : ((w.setCell ⟨b, 0, none⟩ x).setCell ⟨b, 1, none⟩ y).cell? ⟨b, 1, none⟩ = some y :=
  World.cell?_setCell_same _ _ _ ((World.cell?_setCell_other _ _ _ _ (by simp)).trans h)

theorem one_cell (c : Nat) : Lib.byteCells [UInt8.ofNat c] = [.int .u8 ((c : Int) % 256)] := by
  simp [Lib.byteCells]

set_option maxHeartbeats 1000000 in
theorem pack_nil (w : World) :
    Calls Tryd.prog 31 #[.slice none 0 0] w fun e w' => e = .returned (strV []) ∧ Below w.heap.size w w' := by
  have hcv : (convert 40 9 (.slice none 0 0)).run Tryd.prog (w.alloc (Obj.cells #[Value.string { data := #[] }, Value.bool false] 24)) = .ok (.string ⟨#[]⟩) (w.alloc (Obj.cells #[Value.string { data := #[] }, Value.bool false] 24)) := Lib.run_convert_nil_bytes _ _ _ _ 0 Tryd.underlying40 Tryd.underlying5 Tryd.underlying9
  go_enter Tryd.func31, Tryd.ntmps31
  go_wp2_with (go_at_call 50; refine (containsFunc_any [] _ 0 _ (by simp) (World.ownsRow_nil _ _ _ _)).mono ?_)
  rintro e w' ⟨rfl, rfl⟩
  have hw0 : wideL [] = false := rfl
  go_wp2
  refine wp_loop_rounds 1 ?_
  rw [rounds_succ]
  go_wp2
  refine bodyPost_ret (v := .agg #[.string ⟨#[]⟩, .bool false]) (by simp [results, Tryd.results31, go_sem]) rfl ⟨rfl, ?_⟩
  exact (Below.refl _ _).alloc (Nat.le_refl _) _

set_option maxHeartbeats 1000000 in
theorem pack_narrow (l : List Nat) (g cap base : Nat) (w : World) (hl : l.length ≤ 1000000000) (hc : ∀ c ∈ l, c < 16777216) (h : Runes w base (.slice (some ⟨g, 0, none⟩) l.length cap) l) (hc1 : l.length ≤ cap) (hc2 : cap ≤ maxLen) (hg : g < w.heap.size) (hcell : ∀ j, j < l.length → w.cell? ⟨g, j, none⟩ = (runeV l)[j]?) (hw : wideL l = false) :
    Calls Tryd.prog 31 #[.slice (some ⟨g, 0, none⟩) l.length cap] w fun e w' => e = .returned (.agg #[.string ⟨(packW false l).toArray⟩, .bool false]) ∧ Below w.heap.size w w' := by
  obtain ⟨i0, hi, hz0, hz1, hz2⟩ := info_parts infoByte
  go_enter Tryd.func31, Tryd.ntmps31
  go_wp2_with (go_at_call 50; refine (containsFunc_any l _ base _ hl ?_).mono ?_)
  case refine_1 => exact h.alloc _
  rintro e w' ⟨rfl, rfl⟩
  go_wp2
  go_loopw [4, 6, 11] (fun b _ i wr => PackRel false l w (Obj.cells #[Value.string { data := #[] }, Value.bool false] 24) b i wr) (fun _ _ i _ => l.length - (intOf i).toNat)
  case atStart => exact ⟨0, Nat.zero_le _, rfl, World.ownsRow_nil _ _ _ _, Below.refl _ _⟩
  case round =>
    obtain ⟨k, hk, rfl, hown, hbel⟩ := hrel
    have hsz : w.heap.size + 1 ≤ wr.heap.size := by have := hbel.size; simpa using this
    by_cases hlt : k < l.length
    · have hx := (hcell k hlt).trans (runeV_get l k hlt)
      have hx2 : wr.cell? ⟨g, k, none⟩ = some (.int .i32 ((l[k] : Nat) : Int)) := by
        rw [hbel.cell (p := ⟨g, k, none⟩) (by show g < _; omega), World.cell?_alloc_past _ _ _ hg]
        exact hx
      clear hcell hx
      have hle := packW_le false l k
      have hcl := hc l[k] (List.getElem_mem hlt)
      go_wp2_with (at_builtin; refine wpList_append_own _ rfl _ _ 40 rfl (w.heap.size + 1) 5 i0 (.int .u8 0) 1 1 Tryd.underlying40 hi hz0 hz1 hz2 rfl (by decide) _ _ _ rfl (hown.alloc _) ⟨wr.heap.size, 0, none⟩ 1 1 [.int .u8 ((l[k] : Int) % 256)] rfl rfl ?c1 ?c2 ?c3 ?c4 ?c5 ?_)
      case c1 =>
        intro j u hj
        match j, hj with
        | 0, hj => simp at hj; subst hj; simp [Addr.add]
      case c2 => intro u hu; simp at hu; subst hu; rfl
      case c3 => unfold maxLen; omega
      case c4 => omega
      case c5 => simp; omega
      intro v' w1 hown' hgrow _
      have hb1 := below_append hbel (by simp) hown hgrow
      go_wp2
      go_roundw
      case rel =>
        refine ⟨k + 1, by omega, by go_num, ?_, hb1⟩
        rw [packW_snoc false l k hlt]
        simp only [Bool.false_eq_true, if_false, Lib.byteCells_append, one_cell, List.length_append, List.length_cons, List.length_nil]
        exact hown'
      case measure => simp [intOf]; omega
    · obtain rfl : k = l.length := by omega
      rw [List.take_length] at hown
      have hcv := convert_row hown
      have hd0 : wr.cell? ⟨w.heap.size, 0, none⟩ = some (.string ⟨#[]⟩) := by
        rw [hbel.cell (p := ⟨w.heap.size, 0, none⟩) (by show w.heap.size < _; omega), World.cell?_alloc_at _ _ _ _ rfl]; rfl
      have hd1 : wr.cell? ⟨w.heap.size, 1, none⟩ = some (.bool false) := by
        rw [hbel.cell (p := ⟨w.heap.size, 1, none⟩) (by show w.heap.size < _; omega), World.cell?_alloc_at _ _ _ _ rfl]; rfl
      have hf0 : wr.frozen? ⟨w.heap.size, 0, none⟩ = false := by
        rw [hbel.frozen (p := ⟨w.heap.size, 0, none⟩) (by show w.heap.size < _; omega)]; exact World.frozen?_alloc_at _ _ _ _ rfl
      have hf1 : wr.frozen? ⟨w.heap.size, 1, none⟩ = false := by
        rw [hbel.frozen (p := ⟨w.heap.size, 1, none⟩) (by show w.heap.size < _; omega)]; exact World.frozen?_alloc_at _ _ _ _ rfl
      clear hcell
      have hs0 := World.cell?_setCell_same wr ⟨w.heap.size, 0, none⟩ (.string ⟨(packW false l).toArray⟩) hd0
      have hs1 := cell_two wr w.heap.size (.string ⟨(packW false l).toArray⟩) (.bool false) hd1
      have hbw : Below w.heap.size w wr := ((Below.refl _ _).alloc (Nat.le_refl _) _).trans (hbel.mono (Nat.le_succ _))
      go_wp2
      refine bodyPost_ret (v := .agg #[.string ⟨(packW false l).toArray⟩, .bool false]) (by simp [results, Tryd.results31, go_sem, hs0, hs1]) rfl ⟨rfl, ?_⟩
      exact (hbw.setCell (p := ⟨w.heap.size, 0, none⟩) (Nat.le_refl _) _).setCell (p := ⟨w.heap.size, 1, none⟩) (Nat.le_refl _) _

set_option maxHeartbeats 1000000 in
theorem pack_wide (l : List Nat) (g cap base : Nat) (w : World) (hl : l.length ≤ 1000000000) (hc : ∀ c ∈ l, c < 16777216) (h : Runes w base (.slice (some ⟨g, 0, none⟩) l.length cap) l) (hc1 : l.length ≤ cap) (hc2 : cap ≤ maxLen) (hg : g < w.heap.size) (hcell : ∀ j, j < l.length → w.cell? ⟨g, j, none⟩ = (runeV l)[j]?) (hw : wideL l = true) :
    Calls Tryd.prog 31 #[.slice (some ⟨g, 0, none⟩) l.length cap] w fun e w' => e = .returned (.agg #[.string ⟨(packW true l).toArray⟩, .bool true]) ∧ Below w.heap.size w w' := by
  obtain ⟨i0, hi, hz0, hz1, hz2⟩ := info_parts infoByte
  go_enter Tryd.func31, Tryd.ntmps31
  go_wp2_with (go_at_call 50; refine (containsFunc_any l _ base _ hl ?_).mono ?_)
  case refine_1 => exact h.alloc _
  rintro e w' ⟨rfl, rfl⟩
  go_wp2
  go_loopw [4, 6, 11] (fun b _ i wr => PackRel true l w (Obj.cells #[Value.string { data := #[] }, Value.bool false] 24) b i wr) (fun _ _ i _ => l.length - (intOf i).toNat)
  case atStart => exact ⟨0, Nat.zero_le _, rfl, World.ownsRow_nil _ _ _ _, Below.refl _ _⟩
  case round =>
    obtain ⟨k, hk, rfl, hown, hbel⟩ := hrel
    have hsz : w.heap.size + 1 ≤ wr.heap.size := by have := hbel.size; simpa using this
    by_cases hlt : k < l.length
    · have hx := (hcell k hlt).trans (runeV_get l k hlt)
      have hx2 : wr.cell? ⟨g, k, none⟩ = some (.int .i32 ((l[k] : Nat) : Int)) := by
        rw [hbel.cell (p := ⟨g, k, none⟩) (by show g < _; omega), World.cell?_alloc_past _ _ _ hg]
        exact hx
      clear hcell hx
      have hle := packW_le true l k
      have hcl := hc l[k] (List.getElem_mem hlt)
      go_wp2_with (at_builtin; refine wpList_append_own _ rfl _ _ 40 rfl (w.heap.size + 1) 5 i0 (.int .u8 0) 1 1 Tryd.underlying40 hi hz0 hz1 hz2 rfl (by decide) _ _ _ rfl (hown.alloc _) ⟨wr.heap.size, 0, none⟩ 2 2 [.int .u8 ((l[k] : Int) / 65536), .int .u8 ((l[k] : Int) / 256 % 256)] rfl rfl ?c1 ?c2 ?c3 ?c4 ?c5 ?_)
      case c1 =>
        intro j u hj
        match j, hj with
        | 0, hj => simp at hj; subst hj; simp [Addr.add]
        | 1, hj => simp at hj; subst hj; simp [Addr.add]
        | (j + 2), hj => simp at hj
      case c2 => intro u hu; simp at hu; rcases hu with rfl | rfl <;> rfl
      case c3 => unfold maxLen; omega
      case c4 => omega
      case c5 => simp; omega
      intro v' w1 hown' hgrow _
      have hb1 := below_append hbel (by simp) hown hgrow
      have hsz1 : w.heap.size + 1 ≤ w1.heap.size := by have := hb1.size; simpa using this
      go_wp2_with (at_builtin; refine wpList_append_own _ rfl _ _ 40 rfl (w.heap.size + 1) 5 i0 (.int .u8 0) 1 1 Tryd.underlying40 hi hz0 hz1 hz2 rfl (by decide) _ _ _ rfl (hown'.alloc _) ⟨w1.heap.size, 0, none⟩ 1 1 [.int .u8 ((l[k] : Int) % 256)] rfl rfl ?c1 ?c2 ?c3 ?c4 ?c5 ?_)
      case c1 =>
        intro j u hj
        match j, hj with
        | 0, hj => simp at hj; subst hj; simp [Addr.add]
      case c2 => intro u hu; simp at hu; subst hu; rfl
      case c3 => unfold maxLen; omega
      case c4 => omega
      case c5 => simp; omega
      intro v2 w2 hown2 hgrow2 _
      have hb2 := below_append hb1 (by simp) hown' hgrow2
      go_wp2
      go_roundw
      case rel =>
        refine ⟨k + 1, by omega, by go_num, ?_, hb2⟩
        rw [packW_snoc true l k hlt]
        simp only [if_true, Lib.byteCells_append, three_cells _ hcl, List.length_append] at hown2 ⊢
        exact hown2
      case measure => simp [intOf]; omega
    · obtain rfl : k = l.length := by omega
      rw [List.take_length] at hown
      have hcv := convert_row hown
      have hd0 : wr.cell? ⟨w.heap.size, 0, none⟩ = some (.string ⟨#[]⟩) := by
        rw [hbel.cell (p := ⟨w.heap.size, 0, none⟩) (by show w.heap.size < _; omega), World.cell?_alloc_at _ _ _ _ rfl]; rfl
      have hd1 : wr.cell? ⟨w.heap.size, 1, none⟩ = some (.bool false) := by
        rw [hbel.cell (p := ⟨w.heap.size, 1, none⟩) (by show w.heap.size < _; omega), World.cell?_alloc_at _ _ _ _ rfl]; rfl
      have hf0 : wr.frozen? ⟨w.heap.size, 0, none⟩ = false := by
        rw [hbel.frozen (p := ⟨w.heap.size, 0, none⟩) (by show w.heap.size < _; omega)]; exact World.frozen?_alloc_at _ _ _ _ rfl
      have hf1 : wr.frozen? ⟨w.heap.size, 1, none⟩ = false := by
        rw [hbel.frozen (p := ⟨w.heap.size, 1, none⟩) (by show w.heap.size < _; omega)]; exact World.frozen?_alloc_at _ _ _ _ rfl
      clear hcell
      have hs0 := World.cell?_setCell_same wr ⟨w.heap.size, 0, none⟩ (.string ⟨(packW true l).toArray⟩) hd0
      have hs1 := cell_two wr w.heap.size (.string ⟨(packW true l).toArray⟩) (.bool true) hd1
      have hbw : Below w.heap.size w wr := ((Below.refl _ _).alloc (Nat.le_refl _) _).trans (hbel.mono (Nat.le_succ _))
      go_wp2
      refine bodyPost_ret (v := .agg #[.string ⟨(packW true l).toArray⟩, .bool true]) (by simp [results, Tryd.results31, go_sem, hs0, hs1]) rfl ⟨rfl, ?_⟩
      exact (hbw.setCell (p := ⟨w.heap.size, 0, none⟩) (Nat.le_refl _) _).setCell (p := ⟨w.heap.size, 1, none⟩) (Nat.le_refl _) _

theorem pack_any (l : List Nat) (v : Value) (base : Nat) (w : World) (hl : l.length ≤ 1000000000) (hc : ∀ c ∈ l, c < 16777216) (h : Runes w base v l) :
    Calls Tryd.prog 31 #[v] w fun e w' => e = .returned (strV l) ∧ Below w.heap.size w w' := by
  rcases row_form h with ⟨rfl, hn⟩ | ⟨g, cap, rfl, hc1, hc2, hb, hg, hcell⟩
  · obtain rfl := List.length_eq_zero_iff.1 hn
    exact pack_nil w
  · cases hw : wideL l
    · have e : strV l = .agg #[.string ⟨(packW false l).toArray⟩, .bool false] := by
        simp [strV, pk, packB, packW, hw]
      rw [e]
      exact pack_narrow l g cap base w hl hc h hc1 hc2 hg hcell hw
    · have e : strV l = .agg #[.string ⟨(packW true l).toArray⟩, .bool true] := by
        simp [strV, pk, packB, packW, hw]
      rw [e]
      exact pack_wide l g cap base w hl hc h hc1 hc2 hg hcell hw
end Go.Proofs.YtjpnkffdpcfnjaaDoor
