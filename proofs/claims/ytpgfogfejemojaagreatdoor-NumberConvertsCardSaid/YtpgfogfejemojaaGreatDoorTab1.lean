/-
  number.tableOf by kinds: a table is a row of 21 cells.
-/
import Derived.Test.YtpgfogfejemojaaGreatDoorChecked
import Derived.Below
import Derived.WalkKit
import Derived.LoopN
import Derived.Outline
import Derived.Lib.Hide
import Derived.Deep.QuietTactic
import Derived.Deep.RegionWith
import Derived.Deep.WholeRow
import Derived.BigQuiet
import Derived.WalkSpells
import Derived.WalkLawsBesides
import Derived.IntWalk
import Derived.Laws.EntriesVeiled
import Derived.Laws.CopyOwn
import Derived.Carry
import Derived.Laws.Tables
set_option linter.unusedVariables false
namespace Go.Proofs.YtpgfogfejemojaaGreatDoor
open Go.RowKit

theorem wpList_build_as {P : Program} {ops : Array Oper} {rest : List Oper} {o : Oper} {a : Act} {w : World} {Q : Exit → Act → World → Prop} (t : TypeId) (parts : Array (Nat × Operand)) (cs : Array Value) (hg : o.guard = none) (ho : o.op = .build t parts)
    (hf : P.built t (parts.map fun (i, x) => (i, a.eval x)).toList = some cs)
    (h : wpList P ops Q rest (a.put o.dst (.agg cs)) w) : wpList P ops Q (o :: rest) a w :=
  wpList_build hg t parts ho (by rw [hf]; rfl) (by rw [hf]; exact h)
theorem heap_top (w : World) (o : Obj) : (w.alloc o).heap[w.heap.size]? = some o := by show (w.heap.push o)[w.heap.size]? = some o; simp

def zero21 : Array Value := #[.int .i64 0, .int .i64 0, .nilFunc, .nilFunc, .nilFunc, .nilFunc, .nilFunc, .nilFunc, .nilFunc, .nilFunc, .nilFunc, .nilFunc, .nilFunc, .nilFunc, .nilFunc, .nilFunc, .nilFunc, .nilFunc, .nilFunc, .nilFunc, .nilFunc]
def tab1 : Array Value := #[.int .i64 1, .int .i64 32, .func (.func 59) #[] #[], .func (.func 60) #[] #[], .func (.func 61) #[] #[], .func (.func 62) #[] #[], .func (.func 63) #[] #[], .func (.func 64) #[] #[], .func (.func 65) #[] #[], .func (.func 66) #[] #[], .func (.func 67) #[] #[], .func (.func 68) #[] #[], .func (.func 69) #[] #[], .func (.func 70) #[] #[], .func (.func 71) #[] #[], .nilFunc, .func (.func 72) #[] #[], .func (.func 73) #[] #[], .func (.func 74) #[] #[], .func (.func 75) #[] #[], .func (.func 76) #[] #[]]
def tab2a : Array Value := #[.int .i64 1, .int .i64 32, .func (.func 77) #[] #[], .func (.func 60) #[] #[], .func (.func 61) #[] #[], .func (.func 62) #[] #[], .func (.func 63) #[] #[], .func (.func 64) #[] #[], .func (.func 65) #[] #[], .func (.func 66) #[] #[], .func (.func 67) #[] #[], .func (.func 68) #[] #[], .func (.func 69) #[] #[], .func (.func 70) #[] #[], .func (.func 71) #[] #[], .nilFunc, .func (.func 72) #[] #[], .func (.func 73) #[] #[], .func (.func 74) #[] #[], .func (.func 75) #[] #[], .func (.func 76) #[] #[]]
def tab2 : Array Value := #[.int .i64 1, .int .i64 32, .func (.func 77) #[] #[], .func (.func 60) #[] #[], .func (.func 61) #[] #[], .func (.func 62) #[] #[], .func (.func 63) #[] #[], .func (.func 64) #[] #[], .func (.func 65) #[] #[], .func (.func 66) #[] #[], .func (.func 67) #[] #[], .func (.func 68) #[] #[], .func (.func 69) #[] #[], .func (.func 70) #[] #[], .func (.func 71) #[] #[], .func (.func 48) #[] #[], .func (.func 72) #[] #[], .func (.func 73) #[] #[], .func (.func 74) #[] #[], .func (.func 75) #[] #[], .func (.func 76) #[] #[]]
def tab3 : Array Value := #[.int .i64 1, .int .i64 64, .func (.func 78) #[] #[], .func (.func 60) #[] #[], .func (.func 61) #[] #[], .func (.func 62) #[] #[], .func (.func 63) #[] #[], .func (.func 64) #[] #[], .func (.func 65) #[] #[], .func (.func 66) #[] #[], .func (.func 67) #[] #[], .func (.func 68) #[] #[], .func (.func 69) #[] #[], .func (.func 70) #[] #[], .func (.func 71) #[] #[], .nilFunc, .func (.func 72) #[] #[], .func (.func 73) #[] #[], .func (.func 74) #[] #[], .func (.func 75) #[] #[], .func (.func 76) #[] #[]]
def tab4 : Array Value := #[.int .i64 4607182418800017408, .int .i64 64, .func (.func 79) #[] #[], .func (.func 82) #[] #[], .func (.func 83) #[] #[], .func (.func 84) #[] #[], .func (.func 85) #[] #[], .nilFunc, .nilFunc, .nilFunc, .nilFunc, .nilFunc, .nilFunc, .func (.func 86) #[] #[], .nilFunc, .nilFunc, .func (.func 87) #[] #[], .func (.func 81) #[] #[], .func (.func 89) #[] #[], .func (.func 90) #[] #[], .func (.func 91) #[] #[]]
/-- The table of a kind. -/
def tabV : Nat → Array Value
  | 1 => tab1
  | 2 => tab2
  | 3 => tab3
  | 4 => tab4
  | _ => zero21
theorem tabV_size (k : Nat) : (tabV k).size = 21 := by unfold tabV; split <;> rfl
theorem one1 : tab1.all (·.oneCell') = true := by simp [tab1, Value.oneCell']
theorem one2a : tab2a.all (·.oneCell') = true := by simp [tab2a, Value.oneCell']
theorem one2 : tab2.all (·.oneCell') = true := by simp [tab2, Value.oneCell']
theorem one3 : tab3.all (·.oneCell') = true := by simp [tab3, Value.oneCell']
theorem one4 : tab4.all (·.oneCell') = true := by simp [tab4, Value.oneCell']
theorem one0 : zero21.all (·.oneCell') = true := by simp [zero21, Value.oneCell']
theorem tabV_one (k : Nat) : (tabV k).all (·.oneCell') = true := by
  unfold tabV
  split
  · exact one1
  · exact one2
  · exact one3
  · exact one4
  · exact one0
theorem info62 : (Tryz.prog.info? 62).map (·.size) = some 21 := by kernel_rfl

theorem below_setRow {B : Nat} {a w : World} (h : Below B a w) {g : Nat} (hg : B ≤ g) (cs : Array Value) : Below B a (w.setRow g cs) :=
  ⟨h.os, h.tape, h.output, by simpa [World.setRow] using h.size, fun b hb => (setRow_other w g b cs (by omega)).trans (h.block b hb)⟩

set_option maxRecDepth 100000 in
theorem ints1_any (w : World) :
    Calls Tryz.prog 46 #[.int .i64 32] w fun e w' => e = .returned (.agg tab1) ∧ Below w.heap.size w w' := by
  go_enter Tryz.func46, Tryz.ntmps46
  go_wp2_with (first
    | (refine wpList_build_as 56 _ #[.func (.func 60) #[] #[], .func (.func 61) #[] #[], .func (.func 62) #[] #[], .func (.func 63) #[] #[], .func (.func 64) #[] #[], .func (.func 65) #[] #[], .func (.func 66) #[] #[], .func (.func 67) #[] #[], .func (.func 68) #[] #[], .func (.func 69) #[] #[]] rfl rfl ?b1 ?_; (case b1 => kernel_rfl))
    | (refine wpList_build_as 62 _ tab1 rfl rfl ?b2 ?_; (case b2 => kernel_rfl))
    | (refine wpList_store_row rfl 62 _ _ rfl w.heap.size tab1 rfl rfl 62 zero21 ?z1 ?z2 ?z3 ?z4 ?_; (case z1 => exact heap_top _ _); (case z2 => exact info62); (case z3 => rfl); (case z4 => exact one1)))
  refine bodyPost_ret (results_cell_row rfl _ _ w.heap.size 62 tab1 (0, 0) _ rfl (setRow_heap _ _ _ _ _ _ (heap_top _ _)) Tryz.underlying62 rfl info62) rfl ⟨rfl, ?_⟩
  exact below_setRow ((Below.refl _ _).alloc (Nat.le_refl _) _) (Nat.le_refl _) _

set_option maxRecDepth 100000 in
theorem ints2_any (w : World) :
    Calls Tryz.prog 47 #[.int .i64 32] w fun e w' => e = .returned (.agg tab2a) ∧ Below w.heap.size w w' := by
  go_enter Tryz.func47, Tryz.ntmps47
  go_wp2_with (first
    | (refine wpList_build_as 56 _ #[.func (.func 60) #[] #[], .func (.func 61) #[] #[], .func (.func 62) #[] #[], .func (.func 63) #[] #[], .func (.func 64) #[] #[], .func (.func 65) #[] #[], .func (.func 66) #[] #[], .func (.func 67) #[] #[], .func (.func 68) #[] #[], .func (.func 69) #[] #[]] rfl rfl ?b1 ?_; (case b1 => kernel_rfl))
    | (refine wpList_build_as 62 _ tab2a rfl rfl ?b2 ?_; (case b2 => kernel_rfl))
    | (refine wpList_store_row rfl 62 _ _ rfl w.heap.size tab2a rfl rfl 62 zero21 ?z1 ?z2 ?z3 ?z4 ?_; (case z1 => exact heap_top _ _); (case z2 => exact info62); (case z3 => rfl); (case z4 => exact one2a)))
  refine bodyPost_ret (results_cell_row rfl _ _ w.heap.size 62 tab2a (0, 0) _ rfl (setRow_heap _ _ _ _ _ _ (heap_top _ _)) Tryz.underlying62 rfl info62) rfl ⟨rfl, ?_⟩
  exact below_setRow ((Below.refl _ _).alloc (Nat.le_refl _) _) (Nat.le_refl _) _

set_option maxRecDepth 100000 in
theorem ints3_any (w : World) :
    Calls Tryz.prog 49 #[.int .i64 64] w fun e w' => e = .returned (.agg tab3) ∧ Below w.heap.size w w' := by
  go_enter Tryz.func49, Tryz.ntmps49
  go_wp2_with (first
    | (refine wpList_build_as 56 _ #[.func (.func 60) #[] #[], .func (.func 61) #[] #[], .func (.func 62) #[] #[], .func (.func 63) #[] #[], .func (.func 64) #[] #[], .func (.func 65) #[] #[], .func (.func 66) #[] #[], .func (.func 67) #[] #[], .func (.func 68) #[] #[], .func (.func 69) #[] #[]] rfl rfl ?b1 ?_; (case b1 => kernel_rfl))
    | (refine wpList_build_as 62 _ tab3 rfl rfl ?b2 ?_; (case b2 => kernel_rfl))
    | (refine wpList_store_row rfl 62 _ _ rfl w.heap.size tab3 rfl rfl 62 zero21 ?z1 ?z2 ?z3 ?z4 ?_; (case z1 => exact heap_top _ _); (case z2 => exact info62); (case z3 => rfl); (case z4 => exact one3)))
  refine bodyPost_ret (results_cell_row rfl _ _ w.heap.size 62 tab3 (0, 0) _ rfl (setRow_heap _ _ _ _ _ _ (heap_top _ _)) Tryz.underlying62 rfl info62) rfl ⟨rfl, ?_⟩
  exact below_setRow ((Below.refl _ _).alloc (Nat.le_refl _) _) (Nat.le_refl _) _

set_option maxRecDepth 100000 in
theorem reals_any (w : World) :
    Calls Tryz.prog 50 #[] w fun e w' => e = .returned (.agg tab4) ∧ Below w.heap.size w w' := by
  go_enter Tryz.func50, Tryz.ntmps50
  go_wp2_with (first
    | (refine wpList_build_as 56 _ #[.func (.func 82) #[] #[], .func (.func 83) #[] #[], .func (.func 84) #[] #[], .func (.func 85) #[] #[], .nilFunc, .nilFunc, .nilFunc, .nilFunc, .nilFunc, .nilFunc] rfl rfl ?b1 ?_; (case b1 => kernel_rfl))
    | (refine wpList_build_as 62 _ tab4 rfl rfl ?b2 ?_; (case b2 => kernel_rfl))
    | (refine wpList_store_row rfl 62 _ _ rfl w.heap.size tab4 rfl rfl 62 zero21 ?z1 ?z2 ?z3 ?z4 ?_; (case z1 => exact heap_top _ _); (case z2 => exact info62); (case z3 => rfl); (case z4 => exact one4)))
  refine bodyPost_ret (results_cell_row rfl _ _ w.heap.size 62 tab4 (0, 0) _ rfl (setRow_heap _ _ _ _ _ _ (heap_top _ _)) Tryz.underlying62 rfl info62) rfl ⟨rfl, ?_⟩
  exact below_setRow ((Below.refl _ _).alloc (Nat.le_refl _) _) (Nat.le_refl _) _


def tblV (k : Nat) : Value := .tuple #[.agg (tabV k), .int .i64 0]
theorem results_cell_row2 {P : Program} {fn : Func} {p q : Tmp} {ty : TypeId} (h : fn.results = #[.cell p ty, .tmp q]) (tmps : Array Value) (w : World) (g : Nat) (t : TypeId) (cs : Array Value) (fr : Nat × Nat) (d : TypeDesc) (v : Value)
    (hp : tmps.getD p undef = .pointer (some ⟨g, 0, none⟩)) (hq : tmps.getD q undef = v) (hg : w.heap[g]? = some (.cells cs t fr))
    (hu : P.underlying ty = some d) (hd : (match d with | .struct _ | .array _ _ => true | _ => false) = true) (hi : (P.info? ty).map (·.size) = some cs.size) :
    (results fn tmps).run P w = .ok (.tuple #[.agg cs, v]) w := by
  have hp' : tmps[p]?.getD undef = .pointer (some ⟨g, 0, none⟩) := by simpa using hp
  have hq' : tmps[q]?.getD undef = v := by simpa using hq
  simp [results, h, hp', hq', asAddr, run_loadVar_row w g t ty cs fr d hg hu hd hi]
set_option maxRecDepth 100000 in
theorem table1 (w : World) : Calls Tryz.prog 34 #[.int .i64 1] w fun e w' => e = .returned (tblV 1) ∧ Below w.heap.size w w' := by
  go_enter Tryz.func34, Tryz.ntmps34
  go_wp2_with fail
  refine (ints1_any _).mono ?_
  rintro e w1 ⟨rfl, hb⟩
  have hblk : w1.heap[w.heap.size]? = some (.cells zero21 62 (0, 0)) := (hb.block _ (by simp)).trans (heap_top _ _)
  have HB := Lib.hid hb
  have HK := Lib.hid hblk
  clear hb hblk
  go_wp2_with (first
    | (refine wpList_store_row rfl 62 _ _ rfl w.heap.size tab1 rfl rfl 62 zero21 ?z1 ?z2 ?z3 ?z4 ?_; (case z1 => exact HK.out); (case z2 => exact info62); (case z3 => rfl); (case z4 => exact one1)))
  exact bodyPost_ret (results_cell_row2 rfl _ _ w.heap.size 62 tab1 (0, 0) _ _ rfl rfl (setRow_heap _ _ _ _ _ _ HK.out) Tryz.underlying62 rfl info62) rfl ⟨rfl, below_setRow (((Below.refl _ _).alloc (Nat.le_refl _) _).trans (HB.out.mono (by simp))) (Nat.le_refl _) _⟩

set_option maxRecDepth 100000 in
theorem table3 (w : World) : Calls Tryz.prog 34 #[.int .i64 3] w fun e w' => e = .returned (tblV 3) ∧ Below w.heap.size w w' := by
  go_enter Tryz.func34, Tryz.ntmps34
  go_wp2_with fail
  refine (ints3_any _).mono ?_
  rintro e w1 ⟨rfl, hb⟩
  have hblk : w1.heap[w.heap.size]? = some (.cells zero21 62 (0, 0)) := (hb.block _ (by simp)).trans (heap_top _ _)
  have HB := Lib.hid hb
  have HK := Lib.hid hblk
  clear hb hblk
  go_wp2_with (first
    | (refine wpList_store_row rfl 62 _ _ rfl w.heap.size tab3 rfl rfl 62 zero21 ?z1 ?z2 ?z3 ?z4 ?_; (case z1 => exact HK.out); (case z2 => exact info62); (case z3 => rfl); (case z4 => exact one3)))
  exact bodyPost_ret (results_cell_row2 rfl _ _ w.heap.size 62 tab3 (0, 0) _ _ rfl rfl (setRow_heap _ _ _ _ _ _ HK.out) Tryz.underlying62 rfl info62) rfl ⟨rfl, below_setRow (((Below.refl _ _).alloc (Nat.le_refl _) _).trans (HB.out.mono (by simp))) (Nat.le_refl _) _⟩

set_option maxRecDepth 100000 in
theorem table4 (w : World) : Calls Tryz.prog 34 #[.int .i64 4] w fun e w' => e = .returned (tblV 4) ∧ Below w.heap.size w w' := by
  go_enter Tryz.func34, Tryz.ntmps34
  go_wp2_with fail
  refine (reals_any _).mono ?_
  rintro e w1 ⟨rfl, hb⟩
  have hblk : w1.heap[w.heap.size]? = some (.cells zero21 62 (0, 0)) := (hb.block _ (by simp)).trans (heap_top _ _)
  have HB := Lib.hid hb
  have HK := Lib.hid hblk
  clear hb hblk
  go_wp2_with (first
    | (refine wpList_store_row rfl 62 _ _ rfl w.heap.size tab4 rfl rfl 62 zero21 ?z1 ?z2 ?z3 ?z4 ?_; (case z1 => exact HK.out); (case z2 => exact info62); (case z3 => rfl); (case z4 => exact one4)))
  exact bodyPost_ret (results_cell_row2 rfl _ _ w.heap.size 62 tab4 (0, 0) _ _ rfl rfl (setRow_heap _ _ _ _ _ _ HK.out) Tryz.underlying62 rfl info62) rfl ⟨rfl, below_setRow (((Below.refl _ _).alloc (Nat.le_refl _) _).trans (HB.out.mono (by simp))) (Nat.le_refl _) _⟩

theorem set15 {w : World} {g : Nat} (h : w.heap[g]? = some (.cells tab2a 62 (0, 0))) : (w.setCell ⟨g, 15, none⟩ (.func (.func 48) #[] #[])).heap[g]? = some (.cells tab2 62 (0, 0)) := by
  have := heap_setCell_same w g 15 _ _ (.func (.func 48) #[] #[]) h
  rw [this]
  rfl
theorem cell15 {w : World} {g : Nat} (h : w.heap[g]? = some (.cells tab2a 62 (0, 0))) : w.cell? ⟨g, 15, none⟩ = some .nilFunc := by
  rw [cell_of_row w g 15 _ _ _ h]
  rfl
set_option maxRecDepth 100000 in
theorem table2 (w : World) : Calls Tryz.prog 34 #[.int .i64 2] w fun e w' => e = .returned (tblV 2) ∧ Below w.heap.size w w' := by
  go_enter Tryz.func34, Tryz.ntmps34
  go_wp2_with fail
  refine (ints2_any _).mono ?_
  rintro e w1 ⟨rfl, hb⟩
  have hblk : w1.heap[w.heap.size]? = some (.cells zero21 62 (0, 0)) := (hb.block _ (by simp)).trans (heap_top _ _)
  have hz : w.heap.size < w1.heap.size := by have := hb.size; simp at this; omega
  have HB := Lib.hid hb
  have HK := Lib.hid hblk
  have HZ := Lib.hid hz
  have HK2 := Lib.hid (setRow_heap (w1.alloc (.cells #[.int .i64 0, .int .i64 0, .nilFunc, .nilFunc, .nilFunc, .nilFunc, .nilFunc, .nilFunc, .nilFunc, .nilFunc, .nilFunc, .nilFunc, .nilFunc, .nilFunc, .nilFunc, .nilFunc, .nilFunc, .nilFunc, .nilFunc, .nilFunc, .nilFunc] 62)) w1.heap.size _ tab2a 62 (0, 0) (heap_top _ _))
  have hc2 := cell15 HK2.out
  have hf2 := frozen_of_row _ _ 15 _ _ HK2.out
  have HK3 := Lib.hid (set15 HK2.out)
  have hb3 := (below_setRow ((Below.refl w1.heap.size w1).alloc (Nat.le_refl _) (.cells #[.int .i64 0, .int .i64 0, .nilFunc, .nilFunc, .nilFunc, .nilFunc, .nilFunc, .nilFunc, .nilFunc, .nilFunc, .nilFunc, .nilFunc, .nilFunc, .nilFunc, .nilFunc, .nilFunc, .nilFunc, .nilFunc, .nilFunc, .nilFunc, .nilFunc] 62)) (Nat.le_refl _) tab2a).setCell (p := ⟨w1.heap.size, 15, none⟩) (Nat.le_refl _) (.func (.func 48) #[] #[])
  have HK4 := Lib.hid ((hb3.block _ hz).trans hblk)
  have HB3 := Lib.hid hb3
  clear hb hblk hz hb3
  go_wp2_with (first
    | (refine wpList_store_row rfl 62 _ _ rfl w1.heap.size tab2a rfl rfl 62 zero21 ?z1 ?z2 ?z3 ?z4 ?_; (case z1 => exact heap_top _ _); (case z2 => exact info62); (case z3 => rfl); (case z4 => exact one2a))
    | (refine wpList_load_row rfl 62 _ rfl w1.heap.size rfl 62 tab2 (0, 0) _ HK3.out Tryz.underlying62 rfl info62 ?_)
    | (refine wpList_store_row rfl 62 _ _ rfl w.heap.size tab2 rfl rfl 62 zero21 ?z1 ?z2 ?z3 ?z4 ?_; (case z1 => exact HK4.out); (case z2 => exact info62); (case z3 => rfl); (case z4 => exact one2)))
  exact bodyPost_ret (results_cell_row2 rfl _ _ w.heap.size 62 tab2 (0, 0) _ _ rfl rfl (setRow_heap _ _ _ _ _ _ HK4.out) Tryz.underlying62 rfl info62) rfl ⟨rfl, below_setRow ((((Below.refl _ _).alloc (Nat.le_refl _) _).trans (HB.out.mono (by simp))).trans (HB3.out.mono (by have := HZ.out; omega))) (Nat.le_refl _) _⟩

def kindB (k : Int) : Bool := decide (1 ≤ k ∧ k ≤ 4)
set_option maxRecDepth 100000 in
theorem table_no (k : Int) (hk : kindB k = false) (w : World) : Calls Tryz.prog 34 #[.int .i64 k] w fun e w' => e = .returned (.tuple #[.agg zero21, .int .i64 13]) ∧ Below w.heap.size w w' := by
  have h1 : (k == 1) = false := by simp [kindB] at hk ⊢; omega
  have h2 : (k == 2) = false := by simp [kindB] at hk ⊢; omega
  have h3 : (k == 3) = false := by simp [kindB] at hk ⊢; omega
  have h4 : (k == 4) = false := by simp [kindB] at hk ⊢; omega
  clear hk
  go_enter Tryz.func34, Tryz.ntmps34
  go_wp2_with (first
    | (refine wpList_build_as 62 _ zero21 rfl rfl ?b2 ?_; (case b2 => kernel_rfl))
    | (refine wpList_store_row rfl 62 _ _ rfl w.heap.size zero21 rfl rfl 62 zero21 ?z1 ?z2 ?z3 ?z4 ?_; (case z1 => exact heap_top _ _); (case z2 => exact info62); (case z3 => rfl); (case z4 => exact one0)))
  exact bodyPost_ret (results_cell_row2 rfl _ _ w.heap.size 62 zero21 (0, 0) _ _ rfl rfl (setRow_heap _ _ _ _ _ _ (heap_top _ _)) Tryz.underlying62 rfl info62) rfl ⟨rfl, below_setRow ((Below.refl _ _).alloc (Nat.le_refl _) _) (Nat.le_refl _) _⟩

theorem table_yes (k : Nat) (h0 : 1 ≤ k) (h1 : k ≤ 4) (w : World) : Calls Tryz.prog 34 #[.int .i64 (k : Int)] w fun e w' => e = .returned (tblV k) ∧ Below w.heap.size w w' := by
  match k, h0, h1 with
  | 1, _, _ => exact table1 w
  | 2, _, _ => exact table2 w
  | 3, _, _ => exact table3 w
  | 4, _, _ => exact table4 w
end Go.Proofs.YtpgfogfejemojaaGreatDoor
