/-
  The tables of lex, as the rows lay them; and that the start's own memory holds them.
-/
import Derived.Test.YtmielaonkkhmiaaGreatDoorRows
import Derived.Test.YtmielaonkkhmiaaGreatDoorKw
import Derived.LaidMore
import Derived.OpenShut
import Derived.ProofKit
import Derived.Stop.Joined
import Derived.Lay
import Derived.Shelf.Vars
import Derived.HandedShaped
set_option linter.unusedVariables false
namespace Go.Proofs.YtmielaonkkhmiaaGreatDoor
open Go.ChangeShapes Go.WideShapes Go.ChangeAt Go.WideMaps Go.WideElems Go.RowKit

def laidN : List (String × DataW Unit) := [("math/bits.deBruijn32tab", Rows.laid_math_bits_deBruijn32tab), ("math/bits.deBruijn64tab", Rows.laid_math_bits_deBruijn64tab), ("internal/strconv.float32info", Rows.laid_internal_strconv_float32info), ("internal/strconv.float64info", Rows.laid_internal_strconv_float64info), ("internal/strconv.optimize", Rows.laid_internal_strconv_optimize), ("internal/strconv.powtab", Rows.laid_internal_strconv_powtab), ("internal/strconv.float64pow10", Rows.laid_internal_strconv_float64pow10), ("internal/strconv.float32pow10", Rows.laid_internal_strconv_float32pow10), ("internal/strconv.uint64pow10", Rows.laid_internal_strconv_uint64pow10), ("unicode/utf8.acceptRanges", Rows.laid_unicode_utf8_acceptRanges), ("strconv.ErrRange", Rows.laid_strconv_ErrRange), ("strconv.ErrSyntax", Rows.laid_strconv_ErrSyntax), ("acheron/lex.keywords", Rows.laid_acheron_lex_keywords), ("acheron/lex.signs", Rows.laid_acheron_lex_signs), ("acheron/lex.escapes", Rows.laid_acheron_lex_escapes), ("internal/strconv.leftcheats", Rows.laid_internal_strconv_leftcheats), ("internal/strconv.pow10Tab", Rows.laid_internal_strconv_pow10Tab), ("unicode/utf8.first", Rows.laid_unicode_utf8_first)]
section
variable {H : Type} {enc : TypeId × Value → H}
/-- The frame of a row whose premise lists variables, with the shape of the start's memory beside it. -/
theorem returnsInHanded_and_shaped {a : Assume} {C : Checked} {os : Os} {f : FuncId} {fn : Func} {s : ChangeSpec} {conds : List PathCond} {apart fresh handsOn again : Bool} {X : World → Array Value → Prop}
    (hX : ∀ (w w' : World) (args : Array Value), w.heap = w'.heap → X w args → X w' args)
    (own : ownKnob C.prog.godebug = none) (started : os.Started) (noInit : C.prog.inits.idxOf? f = none) (hfn : C.prog.funcs[f]? = some fn)
    (witness : ∃ (w : World) (tape : Tape) (i : Input), w.os = os ∧ (w.forCall tape i).Shaped C.prog ∧ i.vars = [] ∧ Input.okWide C.prog (w.forCall tape i) .any w.heap.size f i ∧
      ((s.pre enc C.prog fn conds apart (w.forCall tape i).memory i.args ∧ X (w.forCall tape i).memory i.args) ∧ sizedMet enc C.prog fn (OpenSpec.ofChange s) apart (w.forCall tape i).memory i.args) ∧ a.holds C.prog (lone (Frame.enter C.prog f i.args .normal) [] (w.forCall tape i)))
    (contract : ∀ (W : World) (base : Nat) (args : Array Value) (ds gs : List (DataW H)) (before : List MemPlace),
      (∀ (j : Nat) t v, fn.params[j]? = some t → args[j]? = some v → Value.okWide C.prog W .any base t v) →
      DataW.Whole enc C.prog fn.params.toList s.vars apart W args.toList ds gs before → X W args → W.ShapedOpen C.prog →
      Calls C.prog f args W fun e W' => ∃ v, e = .returned v ∧ s.post enc C.prog fn apart fresh handsOn again W args v W') :
    ReturnsInHanded a C os f .any (fun w args => (s.pre enc C.prog fn conds apart w args ∧ X w args) ∧ sizedMet enc C.prog fn (OpenSpec.ofChange s) apart w args) (s.post enc C.prog fn apart fresh handsOn again) := by
  refine returnsInHanded_of_calls own started noInit witness ?_
  intro w tape i _ hsh _ hok hpre hholds
  obtain ⟨_, _, _, fn', hfn', _, _, _, _, hval⟩ := hok
  have e : fn' = fn := Option.some.inj (hfn'.symm.trans hfn)
  subst e
  obtain ⟨⟨⟨ds, gs, before, hw, hc⟩, hx⟩, hz⟩ := hpre
  have hw' := DataW.Whole.of_heap (w' := w.forCall tape i) (by rfl) hw
  refine (contract (w.forCall tape i) w.heap.size i.args ds gs before hval hw' (hX _ _ _ (by rfl) hx) hsh).mono fun e W' ⟨v, he, hp⟩ => ?_
  subst he
  exact ChangeSpec.post_blind hp
end

theorem shaped_all (os : Os) (args : Array Value) : ((World.laidAll Tryz.prog os laidN).forCall (fun _ _ => 0) ⟨#[], args, []⟩).Shaped Tryz.prog :=
  World.shaped_of_ZipB (by kernel_rfl) (by kernel_rfl)
theorem met_all (os : Os) (args : Array Value) : laidMetH Tryz.prog laidN ((World.laidAll Tryz.prog os laidN).forCall (fun _ _ => 0) ⟨#[], args, []⟩).memory := by
  rw [MakeChecks.laidMetH_plain _ _ _ (by kernel_rfl)]
  exact laidMet_laidAll _ (by kernel_rfl) (by kernel_rfl)

theorem laid_mem {P : Program} {W : World} : ∀ (l : List (String × DataW Unit)) (ps : List MemPlace), DataW.LaidVars P W l ps → ∀ n d, (n, d) ∈ l → ∃ g t cs fuel p, P.globalNamed n = some g ∧ (P.globals[g]?).map (·.type) = some t ∧ W.var? P n = some cs ∧ DataW.trod (fun _ => ()) P W 0 (fun _ => true) false fuel t cs.toList = some (d, p) := by
  intro l
  induction l with
  | nil => intro _ _ n d h; cases h
  | cons x l ih =>
    intro ps h n d hm
    obtain ⟨g, t, cs, f, p, q, h1, h2, h3, h4, hr, _⟩ := h
    cases hm with
    | head => exact ⟨g, t, cs, f, p, h1, h2, h3, h4⟩
    | tail _ hm => exact ih _ hr n d hm

/-- One cell of an array of strings, as it is laid. -/
theorem open_strs {H : Type} {enc : TypeId × Value → H} {W : World} {base : Nat} {sp : Nat → Bool} {held : Bool} {fuel n : Nat} {T : TypeId} {cs : List Value} {x : DataW H × List MemPlace} {L : List ByteArray}
    (hu : Tryz.prog.underlying T = some (.array n 9)) (h : DataW.trod enc Tryz.prog W base sp held fuel T cs = some x) (hx : x.1 = .agg (L.map fun s => .lit (.string s.data.toList))) (hn : L.length = n) (hT : Tryz.prog.cellsOf T = n) :
    cs = L.map Value.string := by
  obtain ⟨xs, m, _, rfl, hl, hlen, hf⟩ := DataW.trod_array hu h
  have c1 : Tryz.prog.cellsOf 9 = 1 := by kernel_rfl
  have h1 : xs.map (·.1) = L.map fun s => .lit (.string s.data.toList) := by
    simp only [DataW.agg.injEq] at hx
    exact hx
  apply List.ext_getElem?
  intro j
  rcases Nat.lt_or_ge j n with hj | hj
  · have f := hf j hj
    rw [c1, Nat.mul_one] at f
    have hxs : xs[j]? = some (xs[j]'(by omega)) := List.getElem?_eq_getElem (by omega)
    rw [hxs] at f
    obtain ⟨z, e, g, _⟩ := DataW.trod_string Tryz.underlying9 f
    have h2 : (xs.map (·.1))[j]? = (L.map fun s => (DataW.lit (.string s.data.toList) : DataW H))[j]? := by rw [h1]
    have hjl : j < L.length := by omega
    rw [List.getElem?_map, hxs, g, List.getElem?_map, List.getElem?_eq_getElem hjl] at h2
    simp only [Option.map_some, Option.some.injEq, DataW.lit.injEq, Lit.string.injEq] at h2
    have h3 := congrArg (fun l => l[0]?) e
    simp at h3
    have h4 : L[j] = z := ByteArray.ext (Array.toList_inj.1 h2.symm)
    rw [h3, List.getElem?_map, List.getElem?_eq_getElem hjl, Option.map_some, h4]
  · rw [List.getElem?_eq_none (by omega), List.getElem?_eq_none (by simp; omega)]
theorem gN_kw : Tryz.prog.globalNamed "acheron/lex.keywords" = some 0 := by kernel_rfl
theorem tN_kw : (Tryz.prog.globals[0]?).map (·.type) = some 42 := by kernel_rfl
theorem gN_sg : Tryz.prog.globalNamed "acheron/lex.signs" = some 1 := by kernel_rfl
theorem tN_sg : (Tryz.prog.globals[1]?).map (·.type) = some 66 := by kernel_rfl
theorem kw_lits : (Rows.laid_acheron_lex_keywords : DataW Unit) = .agg (keysL.map fun s => .lit (.string s.data.toList)) := rfl
theorem sg_lits : (Rows.laid_acheron_lex_signs : DataW Unit) = .agg (signsL.map fun s => .lit (.string s.data.toList)) := rfl
theorem var_block {P : Program} {W : World} {n : String} {g : Nat} {cs : Array Value} (hg : P.globalNamed n = some g) (h : W.var? P n = some cs) : ∃ t fr, W.heap[g]? = some (.cells cs t fr) := by
  unfold World.var? at h
  rw [hg] at h
  simp only [Option.bind_some] at h
  split at h
  · rename_i cs' t fr hh
    rw [Option.some.injEq] at h
    subst h
    exact ⟨t, fr, hh⟩
  · cases h
set_option maxRecDepth 100000 in
theorem of_laid {W : World} (hs : W.ShapedOpen Tryz.prog) (h : laidMetH Tryz.prog laidN W) : TabX W := by
  rw [MakeChecks.laidMetH_plain _ _ _ (by kernel_rfl)] at h
  obtain ⟨ps, hl, _⟩ := h
  have M := laid_mem laidN ps hl
  constructor
  · obtain ⟨g, t, cs, f, p, h1, h2, h3, h4⟩ := M "acheron/lex.keywords" _ (by simp [laidN]; rfl)
    obtain rfl := Option.some.inj (gN_kw.symm.trans h1)
    obtain rfl := Option.some.inj (tN_kw.symm.trans h2)
    have hc := open_strs (L := keysL) Tryz.underlying42 h4 kw_lits rfl (by kernel_rfl)
    have hcs : cs = kwV := Array.toList_inj.1 (by rw [hc]; rfl)
    rw [hcs] at h3
    exact var_block gN_kw h3
  · obtain ⟨g, t, cs, f, p, h1, h2, h3, h4⟩ := M "acheron/lex.signs" _ (by simp [laidN]; rfl)
    obtain rfl := Option.some.inj (gN_sg.symm.trans h1)
    obtain rfl := Option.some.inj (tN_sg.symm.trans h2)
    have hc := open_strs (L := signsL) Tryz.underlying66 h4 sg_lits rfl (by kernel_rfl)
    have hcs : cs = sgV := Array.toList_inj.1 (by rw [hc]; rfl)
    rw [hcs] at h3
    exact var_block gN_sg h3
end Go.Proofs.YtmielaonkkhmiaaGreatDoor
