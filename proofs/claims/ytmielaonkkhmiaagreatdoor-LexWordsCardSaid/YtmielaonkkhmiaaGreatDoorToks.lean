/-
  lex.Tokens of the example.
-/
import Derived.Test.YtmielaonkkhmiaaGreatDoorScan
import Derived.Tactics2
import Derived.Defers
import Derived.Recover
import Derived.Laws.Pointers
set_option linter.unusedVariables false
namespace Go.Proofs.YtmielaonkkhmiaaGreatDoor
open Go.RowKit

theorem run_assert_nil (w : World) : (Instr.typeAssert .nilIface 20 27 true).run Tryz.prog w = .ok (.tuple #[.agg #[.int .i64 0, .int .i64 0], .bool false]) w := by kernel_rfl
set_option maxRecDepth 100000 in
set_option maxHeartbeats 1000000 in
theorem catch_idle (p q : Addr) (w : World) :
    CallsD Tryz.prog 29 #[.pointer (some p), .pointer (some q)] .returning w fun e u' w' => e = .returned (.tuple #[]) ∧ u' = .returning ∧ w' = w.alloc (.cells #[.int .i64 0, .int .i64 0] 27) := by
  have ha := run_assert_nil
  refine callsD_of_wpS Tryz.func29 rfl fun c₀ cs hu => ?_
  apply wpS_seq
  apply wpS_region
  simp [wpOpsS, go_sem, recoverD, hu, Tryz.ntmps29, Exit.thenS, ha]
  apply wpS_seq
  apply wpS_region
  simp [wpOpsS, go_sem, Exit.thenS]
  refine wpS_cond (t := false) (by simp [Act.eval, Array.replicate]) ?_
  simp only [Bool.false_eq_true, if_false]
  refine wpS_of_wp (wp_skip ?_)
  cases c₀
  simp_all [bodyPostS, results, Tryz.results29]
set_option maxRecDepth 100000 in
set_option maxHeartbeats 4000000 in
theorem tokens_ex (w : World) (ht : TabX w) :
    Calls Tryz.prog 17 #[.string exT] w fun e w' => ∃ v, e = .returned (.tuple #[v, .agg #[.int .i64 0, .int .i64 0]]) ∧ w'.ownsRow (w.heap.size + 3) 34 4 v 5 (toksV 4 ++ [.int .i64 0, .string ⟨#[]⟩, .int .i64 0, .int .i64 18]) ∧ Below w.heap.size w w' := by
  have hmf : ∀ (fn : Fn) (first cap : Array Value) (w : World), (Instr.makeFunc fn first cap).run Tryz.prog w = .ok (.func fn first cap) w := fun _ _ _ _ => rfl
  have HSC := Lib.hid (fun b w h ht hb => scan_ex b w h ht hb)
  have hTe : exT.size = 18 := rfl
  have HT := Lib.hid ht
  clear ht
  generalize hT0 : exT = T0 at *
  go_enter_defers Tryz.func17, Tryz.ntmps17
  go_wp2_with fail
  have HB2 := Lib.hid (((Below.refl w.heap.size w).alloc (Nat.le_refl _) (.cells #[.slice none 0 0] 24)).alloc (by simp) (.cells #[.int .i64 0, .int .i64 0] 27))
  have HL : Hid (((w.alloc (.cells #[.slice none 0 0] 24)).alloc (.cells #[.int .i64 0, .int .i64 0] 27)).heap[w.heap.size]? = some (.cells #[.slice none 0 0] 24)) :=
    Lib.hid ((Below.heap_alloc _ _ _ (by simp)).trans (heap_top w _))
  have HF : Hid (((w.alloc (.cells #[.slice none 0 0] 24)).alloc (.cells #[.int .i64 0, .int .i64 0] 27)).heap[w.heap.size + 1]? = some (.cells #[.int .i64 0, .int .i64 0] 27)) :=
    Lib.hid (by have := heap_top (w.alloc (.cells #[.slice none 0 0] 24)) (.cells #[.int .i64 0, .int .i64 0] 27); simpa using this)
  have hsz : ((w.alloc (.cells #[.slice none 0 0] 24)).alloc (.cells #[.int .i64 0, .int .i64 0] 27)).heap.size = w.heap.size + 2 := by simp
  generalize (w.alloc (.cells #[.slice none 0 0] 24)).alloc (.cells #[.int .i64 0, .int .i64 0] 27) = W2 at *
  have hb3 : w.heap.size + 1 + 1 = W2.heap.size := by omega
  rw [hb3]
  have hpos := HT.out.pos
  have HSX : Hid (ScAt W2.heap.size T0 ((0 : Nat) : Int) (.slice none 0 0) (W2.alloc (.cells #[.string T0, .int .i64 0, .slice none 0 0] 48))) := Lib.hid (heap_top W2 _)
  have HT3 := Lib.hid (HT.out.below (HB2.out.alloc (by omega) (.cells #[.string T0, .int .i64 0, .slice none 0 0] 48)) hpos)
  refine (HSC.out _ _ HSX.out HT3.out (by omega)).mono ?_
  rintro e w5 ⟨rfl, v, a, hs, hrow, hbel⟩
  obtain ⟨g, cap, rfl⟩ : ∃ g cap, v = .slice (some ⟨g, 0, none⟩) 5 cap := by
    rcases hrow.2 with ⟨_, h5⟩ | ⟨g, cap, _, rfl, _⟩
    · cases h5
    · exact ⟨g, cap, rfl⟩
  have HS5 := Lib.hid hs
  have HR5 := Lib.hid hrow
  have hb5 : Below W2.heap.size W2 w5 := ((Below.refl W2.heap.size W2).alloc (Nat.le_refl _) _).trans hbel
  have HB5 := Lib.hid (HB2.out.trans (hb5.mono (by omega)))
  have HL5 := Lib.hid ((hb5.block w.heap.size (by omega)).trans HL.out)
  have HF5 := Lib.hid ((hb5.block (w.heap.size + 1) (by omega)).trans HF.out)
  have hs5 : W2.heap.size < w5.heap.size := hs.lt
  clear hs hrow hbel hb5
  have hc2 := HS5.out.c2
  have l0 : w5.cell? ⟨w.heap.size, 0, none⟩ = some (.slice none 0 0) := (cell_of_row _ _ 0 _ _ _ HL5.out).trans rfl
  have f0 : w5.cell? ⟨w.heap.size + 1, 0, none⟩ = some (.int .i64 0) := (cell_of_row _ _ 0 _ _ _ HF5.out).trans rfl
  have f1 : w5.cell? ⟨w.heap.size + 1, 1, none⟩ = some (.int .i64 0) := (cell_of_row _ _ 1 _ _ _ HF5.out).trans rfl
  have lz : ∀ j, w5.frozen? ⟨w.heap.size, j, none⟩ = false := fun j => by simp [World.frozen?, HL5.out]
  have fz : ∀ j, w5.frozen? ⟨w.heap.size + 1, j, none⟩ = false := fun j => by simp [World.frozen?, HF5.out]
  have HSZ := Lib.hid hsz
  have HS6 := Lib.hid hs5
  clear hsz hb3 hpos hs5
  go_wp2_with fail
  have HR6 : Hid ((((w5.setCell ⟨w.heap.size, 0, none⟩ (.slice (some ⟨g, 0, none⟩) 5 cap)).setCell ⟨w.heap.size + 1, 0, none⟩ (.int .i64 0)).setCell ⟨w.heap.size + 1, 1, none⟩ (.int .i64 0)).ownsRow (W2.heap.size + 1) 34 4 (.slice (some ⟨g, 0, none⟩) 5 cap) 5 (toksV 4 ++ [.int .i64 0, .string ⟨#[]⟩, .int .i64 0, .int .i64 18])) :=
    Lib.hid (ownsRow_setCell_below (ownsRow_setCell_below (ownsRow_setCell_below HR5.out (a := ⟨w.heap.size, 0, none⟩) (by have := HSZ.out; show w.heap.size < _; omega) _) (a := ⟨w.heap.size + 1, 0, none⟩) (by have := HSZ.out; show w.heap.size + 1 < _; omega) _) (a := ⟨w.heap.size + 1, 1, none⟩) (by have := HSZ.out; show w.heap.size + 1 < _; omega) _)
  have HB6 := Lib.hid (((HB5.out.setCell (p := ⟨w.heap.size, 0, none⟩) (Nat.le_refl _) (.slice (some ⟨g, 0, none⟩) 5 cap)).setCell (p := ⟨w.heap.size + 1, 0, none⟩) (Nat.le_succ _) (.int .i64 0)).setCell (p := ⟨w.heap.size + 1, 1, none⟩) (Nat.le_succ _) (.int .i64 0))
  have HL6 : Hid ((((w5.setCell ⟨w.heap.size, 0, none⟩ (.slice (some ⟨g, 0, none⟩) 5 cap)).setCell ⟨w.heap.size + 1, 0, none⟩ (.int .i64 0)).setCell ⟨w.heap.size + 1, 1, none⟩ (.int .i64 0)).heap[w.heap.size]? = some (.cells #[.slice (some ⟨g, 0, none⟩) 5 cap] 24)) :=
    Lib.hid (by
      rw [Below.heap_setCell _ ⟨w.heap.size + 1, 1, none⟩ _ _ (by show w.heap.size ≠ w.heap.size + 1; omega), Below.heap_setCell _ ⟨w.heap.size + 1, 0, none⟩ _ _ (by show w.heap.size ≠ w.heap.size + 1; omega)]
      have := HL5.out
      simp [World.setCell, Array.getElem?_modify, this])
  have HF6 : Hid ((((w5.setCell ⟨w.heap.size, 0, none⟩ (.slice (some ⟨g, 0, none⟩) 5 cap)).setCell ⟨w.heap.size + 1, 0, none⟩ (.int .i64 0)).setCell ⟨w.heap.size + 1, 1, none⟩ (.int .i64 0)).heap[w.heap.size + 1]? = some (.cells #[.int .i64 0, .int .i64 0] 27)) :=
    Lib.hid (by
      have h0 := (Below.heap_setCell w5 ⟨w.heap.size, 0, none⟩ (.slice (some ⟨g, 0, none⟩) 5 cap) (w.heap.size + 1) (by show w.heap.size + 1 ≠ w.heap.size; omega)).trans HF5.out
      generalize w5.setCell ⟨w.heap.size, 0, none⟩ (.slice (some ⟨g, 0, none⟩) 5 cap) = wz at *
      simp [World.setCell, Array.getElem?_modify, h0])
  clear l0 f0 f1 lz fz hc2
  generalize ((w5.setCell ⟨w.heap.size, 0, none⟩ (.slice (some ⟨g, 0, none⟩) 5 cap)).setCell ⟨w.heap.size + 1, 0, none⟩ (.int .i64 0)).setCell ⟨w.heap.size + 1, 1, none⟩ (.int .i64 0) = w6 at *
  refine leaves_cons (f := 29) (args := #[.pointer (some ⟨w.heap.size, 0, none⟩), .pointer (some ⟨w.heap.size + 1, 0, none⟩)]) (by simp) (by simp [go_sem]) ?_
  refine (catch_idle _ _ _).mono ?_
  rintro e u' w'' ⟨rfl, rfl, rfl⟩
  have hl6 : w.heap.size < w6.heap.size := (Array.getElem?_eq_some_iff.1 HL6.out).1
  have hf6 : w.heap.size + 1 < w6.heap.size := (Array.getElem?_eq_some_iff.1 HF6.out).1
  have HL7 := (Below.heap_alloc w6 (.cells #[.int .i64 0, .int .i64 0] 27) w.heap.size hl6).trans HL6.out
  have HF7 := (Below.heap_alloc w6 (.cells #[.int .i64 0, .int .i64 0] 27) (w.heap.size + 1) hf6).trans HF6.out
  have HR7 := HR6.out.alloc (.cells #[.int .i64 0, .int .i64 0] 27)
  have HB7 := HB6.out.alloc (Nat.le_of_lt hl6) (.cells #[.int .i64 0, .int .i64 0] 27)
  have hrow3 : W2.heap.size + 1 = w.heap.size + 3 := by rw [HSZ.out]
  rw [hrow3] at HR7
  clear HR6 HB6 HL6 HF6 hl6 hf6 hrow3
  generalize w6.alloc (.cells #[.int .i64 0, .int .i64 0] 27) = w7 at *
  have l0 : w7.cell? ⟨w.heap.size, 0, none⟩ = some (.slice (some ⟨g, 0, none⟩) 5 cap) := (cell_of_row _ _ 0 _ _ _ HL7).trans rfl
  have f0 : w7.cell? ⟨w.heap.size + 1, 0, none⟩ = some (.int .i64 0) := (cell_of_row _ _ 0 _ _ _ HF7).trans rfl
  have f1 : w7.cell? ⟨w.heap.size + 1, 1, none⟩ = some (.int .i64 0) := (cell_of_row _ _ 1 _ _ _ HF7).trans rfl
  simp [Leaves, settle, results, Tryz.results17, go_sem, l0, f0, f1]
  exact ⟨HR7, HB7⟩
end Go.Proofs.YtmielaonkkhmiaaGreatDoor
