/-
  acheronref03: start, constants; what the reference's digest keeps in memory.
-/
import Derived.Test.YthhaofdnbemogaaDoorRsB
import Derived.ArgAppend
import Derived.Deep.DeepCutAuto
set_option linter.unusedVariables false
namespace Go.Proofs.YthhaofdnbemogaaDoor
open Go.RowKit

set_option maxRecDepth 100000 in
theorem refStart_any (w : World) : Calls Tryd.prog 51 #[] w fun e w' => e = .returned (.slice (some ⟨w.heap.size, 0, none⟩) 8 8) ∧ Row32 w' w.heap.size 24 sqL ∧ w'.heap.size = w.heap.size + 1 ∧ Below w.heap.size w w' := by
  go_enter Tryd.func51, Tryd.ntmps51
  go_wp2
  go_ret
  exact ⟨rfl, heap_alloc_new w _, by simp, (Below.refl _ _).alloc (Nat.le_refl _) _⟩
set_option maxRecDepth 100000 in
theorem refConstants_any (w : World) : Calls Tryd.prog 52 #[] w fun e w' => e = .returned (.slice (some ⟨w.heap.size, 0, none⟩) 64 64) ∧ Row32 w' w.heap.size 24 cuL ∧ w'.heap.size = w.heap.size + 1 ∧ Below w.heap.size w w' := by
  go_enter Tryd.func52, Tryd.ntmps52
  go_wp2
  go_ret
  exact ⟨rfl, heap_alloc_new w _, by simp, (Below.refl _ _).alloc (Nat.le_refl _) _⟩

/-- A slice of eight words, from block B on. -/
def VAt (w : World) (B : Nat) (v : Value) (L : List Int) : Prop :=
  ∃ b c : Nat, v = .slice (some ⟨b, 0, none⟩) 8 c ∧ B ≤ b ∧ b < w.heap.size ∧ ∀ j, j < 8 → w.cell? ⟨b, j, none⟩ = some (.int .u32 (wd L j))
/-- A row of words in a block of its own, whatever lies behind them. -/
theorem VAt.of_own {w : World} {B : Nat} {v : Value} {L : List Int} (hL : L.length = 8) (h : w.ownsRow B 24 1 v 8 (L.map (Value.int .u32))) : VAt w B v L := by
  obtain ⟨g, cap, hv, h1, h2⟩ := h.form (by omega)
  subst hv
  refine ⟨g, cap, rfl, (h.lt g rfl).1, (h.lt g rfl).2, fun j hj => ?_⟩
  have := h.cells (g := g) rfl j (.int .u32 (wd L j)) (by simp [wd, List.getD_eq_getElem?_getD, List.getElem?_eq_getElem (show j < L.length by omega)])
  rwa [addr_at] at this
theorem VAt.of_row {w : World} {b : Nat} {T : TypeId} {L : List Int} (hL : L.length = 8) (h : Row32 w b T L) (B : Nat) (hB : B ≤ b) (c : Nat) : VAt w B (.slice (some ⟨b, 0, none⟩) 8 c) L :=
  ⟨b, c, rfl, hB, by unfold Row32 at h; exact (Array.getElem?_eq_some_iff.1 h).1, fun j hj => h.cell (by omega)⟩
theorem VAt.new8 (w : World) (n B : Nat) (T : TypeId) (a b c d e f g h : Int) (hB : B ≤ w.heap.size) (cap : Nat) :
    VAt ((w.drewN n).alloc (.cells #[.int .u32 a, .int .u32 b, .int .u32 c, .int .u32 d, .int .u32 e, .int .u32 f, .int .u32 g, .int .u32 h] T)) B (.slice (some ⟨w.heap.size, 0, none⟩) 8 cap) (octL ⟨a, b, c, d, e, f, g, h⟩) :=
  VAt.of_row (b := w.heap.size) (T := T) rfl (show Row32 ((w.drewN n).alloc _) (w.drewN n).heap.size T (octL ⟨a, b, c, d, e, f, g, h⟩) from heap_alloc_new (w.drewN n) _) B hB cap
theorem Row32.lt {w : World} {b : Nat} {T : TypeId} {L : List Int} (h : Row32 w b T L) : b < w.heap.size := by
  unfold Row32 at h; exact (Array.getElem?_eq_some_iff.1 h).1
end Go.Proofs.YthhaofdnbemogaaDoor
