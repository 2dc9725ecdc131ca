/-
  The table of wire's forms, as the row lays it, read cell by cell; and that the start's own memory holds it.
-/
import Derived.Test.YtjjdfodjkoiedaaDoorRows
import Derived.Test.YtjjdfodjkoiedaaDoorWForm
import Derived.LaidMore
import Derived.OpenShut
import Derived.ProofKit
import Derived.Stop.Joined
set_option linter.unusedVariables false
namespace Go.Proofs.YtjjdfodjkoiedaaDoor
open Go.ChangeShapes Go.WideShapes Go.ChangeAt Go.WideMaps Go.WideElems Go.RowKit

def laid1 : List (String × DataW Unit) := [("acheron/wire.shapes", Rows.laid_acheron_wire_shapes)]
theorem gShapes : Tryd.prog.globalNamed "acheron/wire.shapes" = some 0 := by kernel_rfl
theorem tShapes : (Tryd.prog.globals[0]?).map (·.type) = some 121 := by kernel_rfl

theorem door_met (os : Os) (args : Array Value) : laidMetH Tryd.prog laid1 ((World.doorLaid Tryd.prog 400 os).forCall (fun _ _ => 0) ⟨#[], args, []⟩).memory :=
  laidMetH_of_parts3 (fuel := 8) (laidMet_of_run' 8 (by kernel_rfl) (by kernel_rfl)) (by kernel_rfl) (by kernel_rfl)

theorem open_form {H : Type} {enc : TypeId × Value → H} {W : World} {base : Nat} {sp : Nat → Bool} {held : Bool} {fuel : Nat} {cs : List Value} {x : DataW H × List MemPlace} {s b k m : Int}
    (h : DataW.trod enc Tryd.prog W base sp held fuel 96 cs = some x) (hx : x.1 = .agg [.lit (.int .i64 s), .lit (.int .i64 b), .lit (.int .u8 k), .lit (.int .u8 m)]) :
    cs[0]? = some (.int .i64 s) ∧ cs[1]? = some (.int .i64 b) ∧ cs[2]? = some (.int .u8 k) ∧ cs[3]? = some (.int .u8 m) := by
  obtain ⟨xs, n, _, rfl, hl, hlen, hf⟩ := DataW.trod_struct Tryd.underlying96 h
  have c3 : Tryd.prog.cellsOf 3 = 1 := by kernel_rfl
  have c5 : Tryd.prog.cellsOf 5 = 1 := by kernel_rfl
  have f0 := hf 0 _ rfl
  have f1 := hf 1 _ rfl
  have f2 := hf 2 _ rfl
  have f3 := hf 3 _ rfl
  match xs, hlen, hx, f0, f1, f2, f3 with
  | [x0, x1, x2, x3], _, hx, f0, f1, f2, f3 =>
    simp only [List.map_cons, List.map_nil, DataW.agg.injEq, List.cons.injEq] at hx
    obtain ⟨h0, h1, h2, h3, _⟩ := hx
    obtain ⟨n0, e0, g0, _⟩ := DataW.trod_int Tryd.underlying3 (show DataW.trod enc Tryd.prog W base sp held n 3 _ = some x0 from f0)
    obtain ⟨n1, e1, g1, _⟩ := DataW.trod_int Tryd.underlying3 (show DataW.trod enc Tryd.prog W base sp held n 3 _ = some x1 from f1)
    obtain ⟨n2, e2, g2, _⟩ := DataW.trod_int Tryd.underlying5 (show DataW.trod enc Tryd.prog W base sp held n 5 _ = some x2 from f2)
    obtain ⟨n3, e3, g3, _⟩ := DataW.trod_int Tryd.underlying5 (show DataW.trod enc Tryd.prog W base sp held n 5 _ = some x3 from f3)
    rw [g0] at h0; rw [g1] at h1; rw [g2] at h2; rw [g3] at h3
    simp only [DataW.lit.injEq, Lit.int.injEq, true_and] at h0 h1 h2 h3
    subst h0 h1 h2 h3
    have e0 : (cs.drop 0).take (Tryd.prog.cellsOf 3) = [.int .i64 n0] := e0
    have e1 : (cs.drop 1).take (Tryd.prog.cellsOf 3) = [.int .i64 n1] := e1
    have e2 : (cs.drop 2).take (Tryd.prog.cellsOf 5) = [.int .u8 n2] := e2
    have e3 : (cs.drop 3).take (Tryd.prog.cellsOf 5) = [.int .u8 n3] := e3
    rw [c3] at e0 e1
    rw [c5] at e2 e3
    refine ⟨?_, ?_, ?_, ?_⟩
    · have := congrArg (fun l => l[0]?) e0; simpa using this
    · have := congrArg (fun l => l[0]?) e1; simpa using this
    · have := congrArg (fun l => l[0]?) e2; simpa using this
    · have := congrArg (fun l => l[0]?) e3; simpa using this

set_option maxRecDepth 100000 in
theorem of_laid {W : World} (h : laidMetH Tryd.prog laid1 W) : Tab W := by
  rw [MakeChecks.laidMetH_plain _ _ _ (by kernel_rfl)] at h
  obtain ⟨ps, ⟨g0, t0, cs0, f0, p0, q0, hg0, ht0, hv0, hd0, _⟩, _⟩ := h
  obtain rfl := Option.some.inj (gShapes.symm.trans hg0)
  obtain rfl := Option.some.inj (tShapes.symm.trans ht0)
  obtain ⟨xs, m1, rfl, hx1, hlen, hn, hel⟩ := DataW.trod_array Tryd.underlying121 hd0
  have c96 : Tryd.prog.cellsOf 96 = 4 := by kernel_rfl
  have h0 := hel 0 (by decide)
  have h1 := hel 1 (by decide)
  have h2 := hel 2 (by decide)
  have h3 := hel 3 (by decide)
  rw [c96] at h0 h1 h2 h3
  unfold Rows.laid_acheron_wire_shapes at hx1
  simp only [Prod.mk.injEq, DataW.agg.injEq] at hx1
  match xs, hn, hx1, h0, h1, h2, h3 with
  | [x0, x1, x2, x3], _, hx1, h0, h1, h2, h3 =>
    simp only [List.map_cons, List.map_nil, List.cons.injEq] at hx1
    obtain ⟨⟨k0, k1, k2, k3, _⟩, _⟩ := hx1
    have a0 := open_form (show DataW.trod _ Tryd.prog W _ _ _ m1 96 _ = some x0 from h0) k0.symm
    have a1 := open_form (show DataW.trod _ Tryd.prog W _ _ _ m1 96 _ = some x1 from h1) k1.symm
    have a2 := open_form (show DataW.trod _ Tryd.prog W _ _ _ m1 96 _ = some x2 from h2) k2.symm
    have a3 := open_form (show DataW.trod _ Tryd.prog W _ _ _ m1 96 _ = some x3 from h3) k3.symm
    have hc := World.var?_cell hg0 hv0
    simp at a0 a1 a2 a3
    unfold Tab
    simp only [hc]
    refine ⟨⟨?_, ?_, ?_, ?_⟩, ⟨?_, ?_, ?_, ?_⟩, ⟨?_, ?_, ?_, ?_⟩, ⟨?_, ?_, ?_, ?_⟩⟩
    all_goals simp [a0, a1, a2, a3]
end Go.Proofs.YtjjdfodjkoiedaaDoor
