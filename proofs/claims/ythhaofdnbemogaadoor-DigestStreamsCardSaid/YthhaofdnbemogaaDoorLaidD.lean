/-
  The two tables of the digest, as the row lays them, read cell by cell; and that the start's own memory holds them.
-/
import Derived.Test.YthhaofdnbemogaaDoorRows
import Derived.Test.YthhaofdnbemogaaDoorRounds
import Derived.LaidMore
import Derived.OpenShut
import Derived.ProofKit
import Derived.Stop.Joined
set_option linter.unusedVariables false
namespace Go.Proofs.YthhaofdnbemogaaDoor
open Go.ChangeShapes Go.WideShapes Go.ChangeAt Go.WideMaps Go.WideElems Go.RowKit

def laid2 : List (String × DataW Unit) := [("acheron/digest.squares", Rows.laid_acheron_digest_squares), ("acheron/digest.cubes", Rows.laid_acheron_digest_cubes)]
theorem gSq : Tryd.prog.globalNamed "acheron/digest.squares" = some 0 := by kernel_rfl
theorem gCu : Tryd.prog.globalNamed "acheron/digest.cubes" = some 1 := by kernel_rfl
theorem tSq : (Tryd.prog.globals[0]?).map (·.type) = some 25 := by kernel_rfl
theorem tCu : (Tryd.prog.globals[1]?).map (·.type) = some 88 := by kernel_rfl

theorem door_met (os : Os) (args : Array Value) : laidMetH Tryd.prog laid2 ((World.doorLaid Tryd.prog 400 os).forCall (fun _ _ => 0) ⟨#[], args, []⟩).memory :=
  laidMetH_of_parts3 (fuel := 8) (laidMet_of_run' 8 (by kernel_rfl) (by kernel_rfl)) (by kernel_rfl) (by kernel_rfl)

def litsOf {H : Type} (L : List Int) : List (DataW H) := L.map fun n => .lit (.int .u32 n)
theorem sq_lits {H : Type} : (Rows.laid_acheron_digest_squares : DataW H) = .agg (litsOf sqL) := rfl
theorem cu_lits {H : Type} : (Rows.laid_acheron_digest_cubes : DataW H) = .agg (litsOf cuL) := rfl

theorem open_u32s {H : Type} {enc : TypeId × Value → H} {W : World} {base : Nat} {sp : Nat → Bool} {held : Bool} {fuel n : Nat} {T : TypeId} {cs : List Value} {x : DataW H × List MemPlace} {L : List Int}
    (hu : Tryd.prog.underlying T = some (.array n 24)) (h : DataW.trod enc Tryd.prog W base sp held fuel T cs = some x) (hx : x.1 = .agg (litsOf L)) (hn : L.length = n) :
    ∀ j : Nat, j < n → cs[j]? = some (.int .u32 (wd L j)) := by
  intro j hj
  obtain ⟨xs, m, _, rfl, hl, hlen, hf⟩ := DataW.trod_array hu h
  have c1 : Tryd.prog.cellsOf 24 = 1 := by kernel_rfl
  have f := hf j hj
  rw [c1, Nat.mul_one] at f
  have hxs : xs[j]? = some (xs[j]'(by omega)) := List.getElem?_eq_getElem (by omega)
  rw [hxs] at f
  obtain ⟨k, e, g, _⟩ := DataW.trod_int Tryd.underlying24 f
  have h1 : xs.map (·.1) = litsOf L := by
    simp only [DataW.agg.injEq] at hx
    exact hx
  have h2 : (xs.map (·.1))[j]? = (litsOf L)[j]? := by rw [h1]
  have hjl : j < L.length := by omega
  rw [List.getElem?_map, hxs, g, litsOf, List.getElem?_map, List.getElem?_eq_getElem hjl] at h2
  simp only [Option.map_some, Option.some.injEq, DataW.lit.injEq, Lit.int.injEq, true_and] at h2
  have h3 := congrArg (fun l => l[0]?) e
  simp at h3
  rw [h3, h2]
  simp [wd, List.getD_eq_getElem?_getD, List.getElem?_eq_getElem hjl]

set_option maxRecDepth 100000 in
theorem of_laid {W : World} (h : laidMetH Tryd.prog laid2 W) : TabD W := by
  rw [MakeChecks.laidMetH_plain _ _ _ (by kernel_rfl)] at h
  obtain ⟨ps, ⟨g0, t0, cs0, f0, p0, q0, hg0, ht0, hv0, hd0, hrest, _⟩, _⟩ := h
  obtain ⟨g1, t1, cs1, f1, p1, q1, hg1, ht1, hv1, hd1, _⟩ := hrest
  obtain rfl := Option.some.inj (gSq.symm.trans hg0)
  obtain rfl := Option.some.inj (tSq.symm.trans ht0)
  obtain rfl := Option.some.inj (gCu.symm.trans hg1)
  obtain rfl := Option.some.inj (tCu.symm.trans ht1)
  have hc0 := World.var?_cell hg0 hv0
  have hc1 := World.var?_cell hg1 hv1
  have a0 := open_u32s (L := sqL) Tryd.underlying25 hd0 sq_lits rfl
  have a1 := open_u32s (L := cuL) Tryd.underlying88 hd1 cu_lits rfl
  unfold TabD
  refine ⟨fun j hj => ?_, fun j hj => ?_⟩
  · rw [hc0]
    have := a0 j hj
    simpa using this
  · rw [hc1]
    have := a1 j hj
    simpa using this
end Go.Proofs.YthhaofdnbemogaaDoor
