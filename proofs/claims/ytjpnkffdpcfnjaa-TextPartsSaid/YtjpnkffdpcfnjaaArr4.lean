/-
  An array of four ints that came in by value, opened.
-/
import Derived.Test.YtjpnkffdpcfnjaaProg
import Derived.OpenShut
import Derived.WideShapes
import Derived.Lib.SmallJoins
set_option linter.unusedVariables false
namespace Go.Proofs.Ytjpnkffdpcfnjaa
open Go.WideShapes

theorem open_int4 {H : Type} {enc : TypeId × Value → H} {P : Program} {w : World} {r : Reach} {b0 base : Nat} {spare : Nat → Bool} {held : Bool} {t e : TypeId} {v : Value} {d : DataW H} {p : List MemPlace}
    (hs : P.underlying t = some (.array 4 e)) (he : P.underlying e = some (.int .i64)) (hce : P.cellsOf e = 1) (hct : P.cellsOf t = 4)
    (hv : Value.okWide P w r b0 t v) (h : DataW.Trod enc P w base spare held t v d p) :
    ∃ n0 n1 n2 n3 : Int, v = .agg #[.int .i64 n0, .int .i64 n1, .int .i64 n2, .int .i64 n3] ∧ (Lit.int .i64 n0).wf = true ∧ (Lit.int .i64 n1).wf = true ∧ (Lit.int .i64 n2).wf = true ∧ (Lit.int .i64 n3).wf = true := by
  obtain ⟨cs, rfl, hsz⟩ : ∃ cs, v = .agg cs ∧ cs.size = P.cellsOf t := by
    unfold Value.okWide at hv
    rw [hs] at hv
    obtain ⟨cs, h1, h2, _⟩ := hv
    exact ⟨cs, h1, h2⟩
  obtain ⟨c0, c1, c2, c3, rfl⟩ := Joins.array4 (hsz.trans hct)
  obtain ⟨fuel, hf⟩ := h
  obtain ⟨xs, m, _, _, _, hl, hx⟩ := DataW.trod_array hs hf
  have key : ∀ i (h : i < 4) (c : Value), ((#[c0, c1, c2, c3] : Array Value).toList.drop i).take 1 = [c] → ∃ n : Int, c = .int .i64 n ∧ (Lit.int .i64 n).wf = true := by
    intro i hi c hc
    have hxi := hx i hi
    rw [hce, Nat.mul_one] at hxi
    have e2 : (Value.agg #[c0, c1, c2, c3]).cells.toList = [c0, c1, c2, c3] := rfl
    rw [List.getElem?_eq_getElem (by omega)] at hxi
    have : DataW.trod enc P w base spare held m e [c] = some xs[i] := by
      rw [← hxi]
      congr 1
      exact hc.symm
    obtain ⟨a, h1, _, h3⟩ := DataW.trod_int he this
    simp at h1
    exact ⟨a, h1, h3⟩
  obtain ⟨n0, rfl, w0⟩ := key 0 (by omega) c0 rfl
  obtain ⟨n1, rfl, w1⟩ := key 1 (by omega) c1 rfl
  obtain ⟨n2, rfl, w2⟩ := key 2 (by omega) c2 rfl
  obtain ⟨n3, rfl, w3⟩ := key 3 (by omega) c3 rfl
  exact ⟨n0, n1, n2, n3, rfl, w0, w1, w2, w3⟩
end Go.Proofs.Ytjpnkffdpcfnjaa
