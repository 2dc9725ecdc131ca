/-
  text.Compare: by the characters.
-/
import Derived.Test.YtjpnkffdpcfnjaaDoorCmp
import Derived.Deep.RegionHeld3
set_option linter.unusedVariables false
namespace Go.Proofs.YtjpnkffdpcfnjaaDoor
open Go.RowKit

theorem pk_list (l : List Nat) : (pk l).data.toList = packB l := by simp [pk]

theorem wide_small (l : List Nat) (h : wideL l = false) : ∀ c ∈ l, c ≤ 255 := fun c hc => by
  have := List.any_eq_false.1 h c hc
  simpa using this

def CmpPost (l m : List Nat) (w : World) (e : Ending) (w' : World) : Prop := e = .returned (.int .i64 (cmpL l m)) ∧ Below w.heap.size w w'

set_option maxHeartbeats 1000000 in
theorem compare_eqw (l m : List Nat) (hl : Chars l) (hm : Chars m) (h : wideL l = wideL m) (w : World) :
    Calls Tryd.prog 12 #[strV l, strV m] w (CmpPost l m w) := by
  have hcmp : Lib.compareBytes (pk l).data.toList (pk m).data.toList = cmpL l m := by
    rw [pk_list, pk_list]
    unfold packB
    rw [← h]
    cases hw : wideL l
    · exact cmpBytes_narrow l m (wide_small l hw) (wide_small m (by rw [← h, hw]))
    · exact cmpBytes_three l m (fun c hc => by have := (hl c hc).1; omega) (fun c hc => by have := (hm c hc).1; omega)
  have hsc := Tryd.strings_Compare (pk l) (pk m)
  rw [hcmp] at hsc
  unfold strV
  rw [← h]
  generalize wideL l = wl at *
  generalize pk l = d at *
  generalize pk m = d' at *
  have HSC := Lib.hid hsc
  clear hsc hcmp h
  go_enter Tryd.func12, Tryd.ntmps12
  cases wl
  all_goals
    go_wp2_with fail
    refine (HSC.out _).mono ?_
    rintro e w2 ⟨rfl, rfl⟩
    go_wp2
    go_ret
    exact ⟨rfl, ((Below.refl _ _).alloc (Nat.le_refl _) _).alloc (by simp) _⟩

theorem cells_of_two {w w' : World} {b : Nat} {x y : Value} (h0 : w.cell? ⟨b, 0, none⟩ = some x) (h1 : w.cell? ⟨b, 1, none⟩ = some y) (hb : Below w.heap.size w w') : w'.cell? ⟨b, 0, none⟩ = some x ∧ w'.cell? ⟨b, 1, none⟩ = some y := by
  have hlt : b < w.heap.size := World.block_lt_of_cell? w _ h0
  exact ⟨(hb.cell (p := ⟨b, 0, none⟩) hlt).trans h0, (hb.cell (p := ⟨b, 1, none⟩) hlt).trans h1⟩

theorem keep4 {w w' : World} {b c : Nat} {x y z u : Value} (h0 : w.cell? ⟨b, 0, none⟩ = some x) (h1 : w.cell? ⟨b, 1, none⟩ = some y) (h2 : w.cell? ⟨c, 0, none⟩ = some z) (h3 : w.cell? ⟨c, 1, none⟩ = some u) (hb : Below w.heap.size w w') :
    w'.cell? ⟨b, 0, none⟩ = some x ∧ w'.cell? ⟨b, 1, none⟩ = some y ∧ w'.cell? ⟨c, 0, none⟩ = some z ∧ w'.cell? ⟨c, 1, none⟩ = some u :=
  ⟨(cells_of_two h0 h1 hb).1, (cells_of_two h0 h1 hb).2, (cells_of_two h2 h3 hb).1, (cells_of_two h2 h3 hb).2⟩

set_option maxHeartbeats 2000000 in
theorem compare_tf (l m : List Nat) (hl : Chars l) (hm : Chars m) (hl9 : l.length ≤ 1000000000) (hm9 : m.length ≤ 1000000000) (hbl : wideL l = true) (hbm : wideL m = false) (w : World) :
    Calls Tryd.prog 12 #[strV l, strV m] w (CmpPost l m w) := by
  have hcmp : Lib.compareBytes (⟨(packW true l).toArray⟩ : ByteArray).data.toList (⟨(packW true m).toArray⟩ : ByteArray).data.toList = cmpL l m := by
    show Lib.compareBytes (packW true l).toArray.toList (packW true m).toArray.toList = _
    exact cmpBytes_three l m (fun c hc => by have := (hl c hc).1; omega) (fun c hc => by have := (hm c hc).1; omega)
  have hsc := Tryd.strings_Compare ⟨(packW true l).toArray⟩ ⟨(packW true m).toArray⟩
  rw [hcmp] at hsc
  have hwl := widened_any l hl9
  have hwm := widened_any m hm9
  unfold strV at hwl hwm ⊢
  rw [hbl] at hwl ⊢
  rw [hbm] at hwm ⊢
  generalize pk l = d at *
  generalize pk m = d' at *
  generalize (⟨(packW true l).toArray⟩ : ByteArray) = t at *
  generalize (⟨(packW true m).toArray⟩ : ByteArray) = t' at *
  have HSC := Lib.hid hsc
  have HWL := Lib.hid hwl
  have HWM := Lib.hid hwm
  clear hsc hcmp hwl hwm hbl hbm
  go_enter Tryd.func12, Tryd.ntmps12
  go_wp2_with fail
  obtain ⟨W, hW⟩ : ∃ W, W = (w.alloc (Obj.cells #[Value.string d, Value.bool true] 24)).alloc (Obj.cells #[Value.string d', Value.bool false] 24) := ⟨_, rfl⟩
  have hB : Below w.heap.size w W := by rw [hW]; exact ((Below.refl _ _).alloc (Nat.le_refl _) _).alloc (by simp) _
  have c0 : W.cell? ⟨w.heap.size, 0, none⟩ = some (.string d) := by rw [hW, World.cell?_alloc_past _ _ _ (by simp), World.cell?_alloc_at _ _ _ _ rfl]; rfl
  have c1 : W.cell? ⟨w.heap.size, 1, none⟩ = some (.bool true) := by rw [hW, World.cell?_alloc_past _ _ _ (by simp), World.cell?_alloc_at _ _ _ _ rfl]; rfl
  have c2 : W.cell? ⟨w.heap.size + 1, 0, none⟩ = some (.string d') := by rw [hW, World.cell?_alloc_at _ _ _ _ (by simp)]; rfl
  have c3 : W.cell? ⟨w.heap.size + 1, 1, none⟩ = some (.bool false) := by rw [hW, World.cell?_alloc_at _ _ _ _ (by simp)]; rfl
  rw [← hW]
  clear hW
  go_region_held3 (fun w' => w'.cell? ⟨w.heap.size, 0, none⟩ = some (.string d) ∧ w'.cell? ⟨w.heap.size, 1, none⟩ = some (.bool true) ∧ w'.cell? ⟨w.heap.size + 1, 0, none⟩ = some (.string d') ∧ w'.cell? ⟨w.heap.size + 1, 1, none⟩ = some (.bool false))
    (first
      | go_keep
      | (go_split_ands; exact keep4 (by assumption) (by assumption) (by assumption) (by assumption) hb3)
      | (go_split_ands; exact keep4 (by assumption) (by assumption) (by assumption) (by assumption) hb4))
    (first
      | (go_at_call 35; ((with_reducible refine (HWL.out _).mono ?_); rintro e w3 ⟨rfl, hb3⟩))
      | (go_at_call 35; ((with_reducible refine (HWM.out _).mono ?_); rintro e w4 ⟨rfl, hb4⟩))
      | (go_at_call 34; refine (HSC.out _).mono ?_; rintro e w5 ⟨rfl, rfl⟩))
  have B3 := below_from hB (below_of_drew hb3) (Nat.le_refl _)
  have B5 := below_from B3 hb4 (Nat.le_refl _)
  clear hb3 hb4 hB B3
  go_wp2
  go_ret
  exact ⟨rfl, B5⟩

set_option maxHeartbeats 2000000 in
theorem compare_ft (l m : List Nat) (hl : Chars l) (hm : Chars m) (hl9 : l.length ≤ 1000000000) (hm9 : m.length ≤ 1000000000) (hbl : wideL l = false) (hbm : wideL m = true) (w : World) :
    Calls Tryd.prog 12 #[strV l, strV m] w (CmpPost l m w) := by
  have hcmp : Lib.compareBytes (⟨(packW true l).toArray⟩ : ByteArray).data.toList (⟨(packW true m).toArray⟩ : ByteArray).data.toList = cmpL l m := by
    show Lib.compareBytes (packW true l).toArray.toList (packW true m).toArray.toList = _
    exact cmpBytes_three l m (fun c hc => by have := (hl c hc).1; omega) (fun c hc => by have := (hm c hc).1; omega)
  have hsc := Tryd.strings_Compare ⟨(packW true l).toArray⟩ ⟨(packW true m).toArray⟩
  rw [hcmp] at hsc
  have hwl := widened_any l hl9
  have hwm := widened_any m hm9
  unfold strV at hwl hwm ⊢
  rw [hbl] at hwl ⊢
  rw [hbm] at hwm ⊢
  generalize pk l = d at *
  generalize pk m = d' at *
  generalize (⟨(packW true l).toArray⟩ : ByteArray) = t at *
  generalize (⟨(packW true m).toArray⟩ : ByteArray) = t' at *
  have HSC := Lib.hid hsc
  have HWL := Lib.hid hwl
  have HWM := Lib.hid hwm
  clear hsc hcmp hwl hwm hbl hbm
  go_enter Tryd.func12, Tryd.ntmps12
  go_wp2_with fail
  obtain ⟨W, hW⟩ : ∃ W, W = (w.alloc (Obj.cells #[Value.string d, Value.bool false] 24)).alloc (Obj.cells #[Value.string d', Value.bool true] 24) := ⟨_, rfl⟩
  have hB : Below w.heap.size w W := by rw [hW]; exact ((Below.refl _ _).alloc (Nat.le_refl _) _).alloc (by simp) _
  have c0 : W.cell? ⟨w.heap.size, 0, none⟩ = some (.string d) := by rw [hW, World.cell?_alloc_past _ _ _ (by simp), World.cell?_alloc_at _ _ _ _ rfl]; rfl
  have c1 : W.cell? ⟨w.heap.size, 1, none⟩ = some (.bool false) := by rw [hW, World.cell?_alloc_past _ _ _ (by simp), World.cell?_alloc_at _ _ _ _ rfl]; rfl
  have c2 : W.cell? ⟨w.heap.size + 1, 0, none⟩ = some (.string d') := by rw [hW, World.cell?_alloc_at _ _ _ _ (by simp)]; rfl
  have c3 : W.cell? ⟨w.heap.size + 1, 1, none⟩ = some (.bool true) := by rw [hW, World.cell?_alloc_at _ _ _ _ (by simp)]; rfl
  rw [← hW]
  clear hW
  go_region_held3 (fun w' => w'.cell? ⟨w.heap.size, 0, none⟩ = some (.string d) ∧ w'.cell? ⟨w.heap.size, 1, none⟩ = some (.bool false) ∧ w'.cell? ⟨w.heap.size + 1, 0, none⟩ = some (.string d') ∧ w'.cell? ⟨w.heap.size + 1, 1, none⟩ = some (.bool true))
    (first
      | go_keep
      | (go_split_ands; exact keep4 (by assumption) (by assumption) (by assumption) (by assumption) hb3)
      | (go_split_ands; exact keep4 (by assumption) (by assumption) (by assumption) (by assumption) hb4))
    (first
      | (go_at_call 35; ((with_reducible refine (HWL.out _).mono ?_); rintro e w3 ⟨rfl, hb3⟩))
      | (go_at_call 35; ((with_reducible refine (HWM.out _).mono ?_); rintro e w4 ⟨rfl, hb4⟩))
      | (go_at_call 34; refine (HSC.out _).mono ?_; rintro e w5 ⟨rfl, rfl⟩))
  have B3 := below_from hB (below_of_drew hb3) (Nat.le_refl _)
  have B5 := below_from B3 hb4 (Nat.le_refl _)
  clear hb3 hb4 hB B3
  go_wp2
  go_ret
  exact ⟨rfl, B5⟩

theorem compare_any (l m : List Nat) (hl : Chars l) (hm : Chars m) (hl9 : l.length ≤ 1000000000) (hm9 : m.length ≤ 1000000000) (w : World) :
    Calls Tryd.prog 12 #[strV l, strV m] w (CmpPost l m w) := by
  cases h1 : wideL l <;> cases h2 : wideL m
  · exact compare_eqw l m hl hm (by rw [h1, h2]) w
  · exact compare_ft l m hl hm hl9 hm9 h1 h2 w
  · exact compare_tf l m hl hm hl9 hm9 h1 h2 w
  · exact compare_eqw l m hl hm (by rw [h1, h2]) w
end Go.Proofs.YtjpnkffdpcfnjaaDoor
