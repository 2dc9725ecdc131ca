/-
  digest.rounds.
-/
import Derived.Test.YthhaofdnbemogaaDoorSched
set_option linter.unusedVariables false
namespace Go.Proofs.YthhaofdnbemogaaDoor
open Go.RowKit

/-- The two tables as the program lays them. -/
def TabD (w : World) : Prop :=
  (∀ j : Nat, j < 8 → w.cell? ⟨0, j, none⟩ = some (.int .u32 (wd sqL j))) ∧ (∀ j : Nat, j < 64 → w.cell? ⟨1, j, none⟩ = some (.int .u32 (wd cuL j)))
theorem TabD.of_block {w w' : World} (h : TabD w) (e0 : w'.heap[0]? = w.heap[0]?) (e1 : w'.heap[1]? = w.heap[1]?) : TabD w' := by
  unfold TabD at *
  simpa only [World.cell?_of_block (w := w) (w' := w') (a := ⟨_, _, none⟩) e0, World.cell?_of_block (w := w) (w' := w') (a := ⟨_, _, none⟩) e1] using h
theorem TabD.pos {w : World} (h : TabD w) : 1 < w.heap.size := World.block_lt_of_cell? w ⟨1, 0, none⟩ (h.2 0 (by omega))
theorem TabD.below {B : Nat} {w w' : World} (h : TabD w) (hb : Below B w w') (hB : 1 < B) : TabD w' := h.of_block (hb.block _ (by omega)) (hb.block _ (by omega))

theorem wd8 (o : Oct) : wd (octL o) 0 = o.a ∧ wd (octL o) 1 = o.b ∧ wd (octL o) 2 = o.c ∧ wd (octL o) 3 = o.d ∧ wd (octL o) 4 = o.e ∧ wd (octL o) 5 = o.f ∧ wd (octL o) 6 = o.g ∧ wd (octL o) 7 = o.h := ⟨rfl, rfl, rfl, rfl, rfl, rfl, rfl, rfl⟩

def rotI (n x : Int) : Int := rotR n.toNat x
theorem right_all (n x : Int) (hn : n = 2 ∨ n = 6 ∨ n = 11 ∨ n = 13 ∨ n = 22 ∨ n = 25) (w : World) :
    Calls Tryd.prog 83 #[.int .u32 x, .int .i64 n] w fun e w' => e = .returned (.int .u32 (rotI n x)) ∧ w' = w := by
  rcases hn with rfl | rfl | rfl | rfl | rfl | rfl
  · exact (right_2 x w).mono fun e w' ⟨he, hw⟩ => ⟨he, hw.symm⟩
  · exact (right_6 x w).mono fun e w' ⟨he, hw⟩ => ⟨he, hw.symm⟩
  · exact (right_11 x w).mono fun e w' ⟨he, hw⟩ => ⟨he, hw.symm⟩
  · exact (right_13 x w).mono fun e w' ⟨he, hw⟩ => ⟨he, hw.symm⟩
  · exact (right_22 x w).mono fun e w' ⟨he, hw⟩ => ⟨he, hw.symm⟩
  · exact (right_25 x w).mono fun e w' ⟨he, hw⟩ => ⟨he, hw.symm⟩

theorem below_drewN {B : Nat} {a w : World} (h : Below B a w) (n : Nat) : Below B a (w.drewN n) := ⟨h.os, h.tape, h.output, h.size, h.block⟩

def RndRel (w : World) (o : Oct) (W : List Int) (a b c d e f g h i : Value) (wr : World) : Prop :=
  ∃ k : Nat, k ≤ 64 ∧ i = .int .i64 (k : Int) ∧ a = .int .u32 (rnds o W k).a ∧ b = .int .u32 (rnds o W k).b ∧ c = .int .u32 (rnds o W k).c ∧ d = .int .u32 (rnds o W k).d ∧ e = .int .u32 (rnds o W k).e ∧ f = .int .u32 (rnds o W k).f ∧ g = .int .u32 (rnds o W k).g ∧ h = .int .u32 (rnds o W k).h ∧
    Row32 wr (w.heap.size + 1) 88 W ∧ Row32 wr (w.heap.size + 1 + 1) 25 (List.replicate 8 0) ∧ wr.heap.size = w.heap.size + 1 + 1 + 1 ∧ Below w.heap.size w wr

set_option maxHeartbeats 2000000 in
set_option maxRecDepth 100000 in
theorem rounds_any (V W : List Int) (hV : V.length = 8) (hW : W.length = 64) (w : World) (ht : TabD w) :
    Calls Tryd.prog 71 #[.agg (u32s V), .agg (u32s W)] w fun e w' => e = .returned (.agg (u32s (octL (rnds (octOf V) W 64)))) ∧ Below w.heap.size w w' := by
  have g0 := u32s_get V 0 (by omega)
  have g1 := u32s_get V 1 (by omega)
  have g2 := u32s_get V 2 (by omega)
  have g3 := u32s_get V 3 (by omega)
  have g4 := u32s_get V 4 (by omega)
  have g5 := u32s_get V 5 (by omega)
  have g6 := u32s_get V 6 (by omega)
  have g7 := u32s_get V 7 (by omega)
  have HV := Lib.hid hV
  have HW := Lib.hid hW
  have HT := Lib.hid ht
  clear hV hW ht
  go_enter Tryd.func71, Tryd.ntmps71
  go_wp2
  go_quiet (fail)
  go_wp2
  go_loopw [5, 6, 7, 8, 9, 10, 11, 12, 34] (fun a b c d e f g h i wr => RndRel w (octOf V) W a b c d e f g h i wr) (fun _ _ _ _ _ _ _ _ i _ => 64 - (intOf i).toNat)
  case atStart =>
    refine ⟨0, by omega, rfl, rfl, rfl, rfl, rfl, rfl, rfl, rfl, rfl, ?_, ?_, ?_, ?_⟩
    · show Row32 (((w.alloc _).alloc _).alloc _) _ _ _
      unfold Row32
      rw [heap_alloc_old _ _ (by simp)]
      exact heap_alloc2_new _ _ _
    · show Row32 (((w.alloc _).alloc _).alloc _) _ _ _
      unfold Row32
      rw [show w.heap.size + 1 + 1 = (w.alloc (.cells (u32s V) 25)).heap.size + 1 by simp]
      exact heap_alloc2_new (w.alloc (.cells (u32s V) 25)) (.cells (u32s W) 88) (.cells (u32s (List.replicate 8 0)) 25)
    · simp
    · have hb := ((((Below.refl w.heap.size w).alloc (Nat.le_refl _) (.cells (u32s V) 25)).alloc (by simp) (.cells (u32s W) 88)).alloc (by simp <;> omega) (.cells (u32s (List.replicate 8 0)) 25))
      exact below_drewN hb _
  case round =>
    obtain ⟨k, hk, rfl, e1, e2, e3, e4, e5, e6, e7, e8, hrw, hrr, hsz, hbel⟩ := hrel
    obtain ⟨o, ho⟩ : ∃ o : Oct, o = rnds (octOf V) W k := ⟨_, rfl⟩
    rw [← ho] at e1 e2 e3 e4 e5 e6 e7 e8
    obtain ⟨a, b, c, d, e, f, g, hx⟩ := o
    subst e1 e2 e3 e4 e5 e6 e7 e8
    have HO := Lib.hid ho
    have HRW := Lib.hid hrw
    have HRR := Lib.hid hrr
    have HSZ := Lib.hid hsz
    have HBL := Lib.hid hbel
    clear ho
    by_cases hlt : k < 64
    · have hwc := hrw.cell (j := k) (by have := HW.out; omega)
      have htc := ((HT.out.below hbel (by have := HT.out.pos; omega)).2 k hlt)
      have hltI : (k : Int) < 64 := by omega
      clear hrw hrr hbel hsz
      go_wp2_with fail
      go_quiet ((go_at_call 83; exact Calls.quiet_of_same (right_all _ _ (by simp) _)))
      go_wp2_with (go_at_call 83; refine (right_all _ _ (by simp) _).mono ?_; rintro e w' ⟨rfl, rfl⟩)
      go_roundw
      case rel =>
        have hr : rnds (octOf V) W (k + 1) = rnd ⟨a, b, c, d, e, f, g, hx⟩ (wd cuL k) (wd W k) := by rw [rnds, ← HO.out]
        refine ⟨k + 1, by omega, by go_num, ?_, ?_, ?_, ?_, ?_, ?_, ?_, ?_, ?_, ?_, ?_, ?_⟩
        iterate 8 (rw [hr]; rfl)
        · exact HRW.out
        · exact HRR.out
        · exact HSZ.out
        · exact below_drewN HBL.out _
      case measure => simp [intOf]; omega
    · obtain rfl : k = 64 := by omega
      have HRE := Lib.hid (show wr.heap[w.heap.size + 1 + 1]? = some (.cells (u32s (List.replicate 8 0)) 25 (0, 0)) from hrr)
      clear hrw hrr hbel hsz
      go_wp2_with (refine wpList_store_row rfl 25 _ _ rfl (w.heap.size + 1 + 1) (u32s (octL ⟨a, b, c, d, e, f, g, hx⟩)) rfl rfl 25 _ HRE.out ?z2 ?z3 (u32s_one _) ?_; (case z2 => kernel_rfl); (case z3 => rfl))
      refine bodyPost_ret (results_cell_row rfl _ _ (w.heap.size + 1 + 1) 25 (u32s (octL ⟨a, b, c, d, e, f, g, hx⟩)) (0, 0) _ rfl (setRow_heap _ _ _ _ _ _ HRE.out) Tryd.underlying25 rfl ?z1) rfl ⟨?_, ?_⟩
      case z1 => kernel_rfl
      · rw [← HO.out]
      · exact below_setRow HBL.out (by omega) _
end Go.Proofs.YthhaofdnbemogaaDoor
