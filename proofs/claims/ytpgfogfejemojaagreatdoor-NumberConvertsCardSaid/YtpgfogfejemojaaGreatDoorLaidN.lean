/-
  The tables of the library, as the rows lay them, read cell by cell; and that the start's own memory holds them.
-/
import Derived.Test.YtpgfogfejemojaaGreatDoorRows
import Derived.Test.YtpgfogfejemojaaGreatDoorTabN
import Derived.LaidMore
import Derived.OpenShut
import Derived.ProofKit
import Derived.Stop.Joined
import Derived.Lay
import Derived.Shelf.Vars
import Derived.HandedShaped
set_option linter.unusedVariables false
namespace Go.Proofs.YtpgfogfejemojaaGreatDoor
open Go.ChangeShapes Go.WideShapes Go.ChangeAt Go.WideMaps Go.WideElems Go.RowKit

def laidN : List (String × DataW Unit) := [("math/bits.deBruijn32tab", Rows.laid_math_bits_deBruijn32tab), ("math/bits.deBruijn64tab", Rows.laid_math_bits_deBruijn64tab), ("internal/strconv.float32info", Rows.laid_internal_strconv_float32info), ("internal/strconv.float64info", Rows.laid_internal_strconv_float64info), ("internal/strconv.optimize", Rows.laid_internal_strconv_optimize), ("internal/strconv.powtab", Rows.laid_internal_strconv_powtab), ("internal/strconv.float64pow10", Rows.laid_internal_strconv_float64pow10), ("internal/strconv.float32pow10", Rows.laid_internal_strconv_float32pow10), ("internal/strconv.uint64pow10", Rows.laid_internal_strconv_uint64pow10), ("unicode/utf8.acceptRanges", Rows.laid_unicode_utf8_acceptRanges), ("strconv.ErrRange", Rows.laid_strconv_ErrRange), ("strconv.ErrSyntax", Rows.laid_strconv_ErrSyntax), ("internal/strconv.leftcheats", Rows.laid_internal_strconv_leftcheats), ("internal/strconv.pow10Tab", Rows.laid_internal_strconv_pow10Tab), ("unicode/utf8.first", Rows.laid_unicode_utf8_first)]
section
variable {H : Type} {enc : TypeId × Value → H}
/-- The frame of a row whose premise lists variables, with the shape of the start's memory beside it. -/
theorem returnsInHanded_and_shaped {a : Assume} {C : Checked} {os : Os} {f : FuncId} {fn : Func} {s : ChangeSpec} {conds : List PathCond} {apart fresh handsOn again : Bool} {X : World → Array Value → Prop}
    (hX : ∀ (w w' : World) (args : Array Value), w.heap = w'.heap → X w args → X w' args)
    (own : ownKnob C.prog.godebug = none) (started : os.Started) (noInit : C.prog.inits.idxOf? f = none) (hfn : C.prog.funcs[f]? = some fn)
    (witness : ∃ (w : World) (tape : Tape) (i : Input), w.os = os ∧ (w.forCall tape i).Shaped C.prog ∧ i.vars = [] ∧ Input.okWide C.prog (w.forCall tape i) .any w.heap.size f i ∧
      ((s.pre enc C.prog fn conds apart (w.forCall tape i).memory i.args ∧ X (w.forCall tape i).memory i.args) ∧ sizedMet enc C.prog fn (OpenSpec.ofChange s) apart (w.forCall tape i).memory i.args) ∧ a.holds C.prog (lone (Frame.enter C.prog f i.args .normal) [] (w.forCall tape i)))
    (contract : ∀ (W : World) (base : Nat) (args : Array Value) (ds gs : List (DataW H)) (before : List MemPlace),
      (∀ (j : Nat) t v, fn.params[j]? = some t → args[j]? = some v → Value.okWide C.prog W .any base t v) →
      DataW.Whole enc C.prog fn.params.toList s.vars apart W args.toList ds gs before → X W args → W.ShapedOpen C.prog →
      Calls C.prog f args W fun e W' => ∃ v, e = .returned v ∧ s.post enc C.prog fn apart fresh handsOn again W args v W') :
    ReturnsInHanded a C os f .any (fun w args => (s.pre enc C.prog fn conds apart w args ∧ X w args) ∧ sizedMet enc C.prog fn (OpenSpec.ofChange s) apart w args) (s.post enc C.prog fn apart fresh handsOn again) := by
  refine returnsInHanded_of_calls own started noInit witness ?_
  intro w tape i _ hsh _ hok hpre hholds
  obtain ⟨_, _, _, fn', hfn', _, _, _, _, hval⟩ := hok
  have e : fn' = fn := Option.some.inj (hfn'.symm.trans hfn)
  subst e
  obtain ⟨⟨⟨ds, gs, before, hw, hc⟩, hx⟩, hz⟩ := hpre
  have hw' := DataW.Whole.of_heap (w' := w.forCall tape i) (by rfl) hw
  refine (contract (w.forCall tape i) w.heap.size i.args ds gs before hval hw' (hX _ _ _ (by rfl) hx) hsh).mono fun e W' ⟨v, he, hp⟩ => ?_
  subst he
  exact ChangeSpec.post_blind hp
end

theorem shaped_all (os : Os) (args : Array Value) : ((World.laidAll Tryz.prog os laidN).forCall (fun _ _ => 0) ⟨#[], args, []⟩).Shaped Tryz.prog :=
  World.shaped_of_ZipB (by kernel_rfl) (by kernel_rfl)
theorem met_all (os : Os) (args : Array Value) : laidMetH Tryz.prog laidN ((World.laidAll Tryz.prog os laidN).forCall (fun _ _ => 0) ⟨#[], args, []⟩).memory := by
  rw [MakeChecks.laidMetH_plain _ _ _ (by kernel_rfl)]
  exact laidMet_laidAll _ (by kernel_rfl) (by kernel_rfl)

theorem max_len {W : World} (h : W.ShapedOpen Tryz.prog) : ∃ m : Int, W.cell? ⟨16, 0, none⟩ = some (.int .i64 m) :=
  Go.Proofs.cell_of_shapedOpen_int (zero := #[.int .i64 0]) (t := 3) h (of_decide_eq_true (by kernel_rfl)) (by kernel_rfl) rfl (by kernel_rfl) (by kernel_rfl) Tryz.underlying3

/-- One cell of an array of integers, as it is laid. -/
theorem open_ints' {H : Type} {enc : TypeId × Value → H} {W : World} {base : Nat} {sp : Nat → Bool} {held : Bool} {fuel n : Nat} {T E : TypeId} {k : IntKind} {cs : List Value} {x : DataW H × List MemPlace} {L : List Int}
    (hu : Tryz.prog.underlying T = some (.array n E)) (hE : Tryz.prog.underlying E = some (.int k)) (c1 : Tryz.prog.cellsOf E = 1) (h : DataW.trod enc Tryz.prog W base sp held fuel T cs = some x) (hx : x.1 = .agg (L.map fun n => .lit (.int k n))) (hn : L.length = n) :
    ∀ j : Nat, j < n → cs[j]? = some (.int k (L.getD j 0)) := by
  intro j hj
  obtain ⟨xs, m, _, rfl, hl, hlen, hf⟩ := DataW.trod_array hu h
  have f := hf j hj
  rw [c1, Nat.mul_one] at f
  have hxs : xs[j]? = some (xs[j]'(by omega)) := List.getElem?_eq_getElem (by omega)
  rw [hxs] at f
  obtain ⟨z, e, g, _⟩ := DataW.trod_int hE f
  have h1 : xs.map (·.1) = L.map fun n => .lit (.int k n) := by
    simp only [DataW.agg.injEq] at hx
    exact hx
  have h2 : (xs.map (·.1))[j]? = (L.map fun n => (DataW.lit (.int k n) : DataW H))[j]? := by rw [h1]
  have hjl : j < L.length := by omega
  rw [List.getElem?_map, hxs, g, List.getElem?_map, List.getElem?_eq_getElem hjl] at h2
  simp only [Option.map_some, Option.some.injEq, DataW.lit.injEq, Lit.int.injEq, true_and] at h2
  have h3 := congrArg (fun l => l[0]?) e
  simp at h3
  rw [h3, h2]
  simp [List.getD_eq_getElem?_getD, List.getElem?_eq_getElem hjl]

/-- One entry of the table of powers. -/
theorem open_hl {H : Type} {enc : TypeId × Value → H} {W : World} {base : Nat} {sp : Nat → Bool} {held : Bool} {fuel : Nat} {cs : List Value} {x : DataW H × List MemPlace} {a b : Int}
    (h : DataW.trod enc Tryz.prog W base sp held fuel 217 cs = some x) (hx : x.1 = .agg [.lit (.int .u64 a), .lit (.int .u64 b)]) :
    cs[0]? = some (.int .u64 a) ∧ cs[1]? = some (.int .u64 b) := by
  obtain ⟨xs, n, _, rfl, hl, hlen, hf⟩ := DataW.trod_struct Tryz.underlying217 h
  have c1 : Tryz.prog.cellsOf 51 = 1 := by kernel_rfl
  have f0 := hf 0 _ rfl
  have f1 := hf 1 _ rfl
  match xs, hlen, hx, f0, f1 with
  | [x0, x1], _, hx, f0, f1 =>
    simp only [List.map_cons, List.map_nil, DataW.agg.injEq, List.cons.injEq] at hx
    obtain ⟨h0, h1, _⟩ := hx
    obtain ⟨n0, e0, g0, _⟩ := DataW.trod_int Tryz.underlying51 (show DataW.trod enc Tryz.prog W base sp held n 51 _ = some x0 from f0)
    obtain ⟨n1, e1, g1, _⟩ := DataW.trod_int Tryz.underlying51 (show DataW.trod enc Tryz.prog W base sp held n 51 _ = some x1 from f1)
    rw [g0] at h0; rw [g1] at h1
    simp only [DataW.lit.injEq, Lit.int.injEq, true_and] at h0 h1
    subst h0 h1
    have e0 : (cs.drop 0).take (Tryz.prog.cellsOf 51) = [.int .u64 n0] := e0
    have e1 : (cs.drop 1).take (Tryz.prog.cellsOf 51) = [.int .u64 n1] := e1
    rw [c1] at e0 e1
    exact ⟨by have := congrArg (fun l => l[0]?) e0; simpa using this, by have := congrArg (fun l => l[0]?) e1; simpa using this⟩

theorem open_info {H : Type} {enc : TypeId × Value → H} {W : World} {base : Nat} {sp : Nat → Bool} {held : Bool} {fuel : Nat} {cs : List Value} {x : DataW H × List MemPlace} {a b c : Int}
    (h : DataW.trod enc Tryz.prog W base sp held fuel 182 cs = some x) (hx : x.1 = .agg [.lit (.int .u64 a), .lit (.int .u64 b), .lit (.int .i64 c)]) :
    cs[0]? = some (.int .u64 a) := by
  obtain ⟨xs, n, _, rfl, hl, hlen, hf⟩ := DataW.trod_struct Tryz.underlying182 h
  have c1 : Tryz.prog.cellsOf 52 = 1 := by kernel_rfl
  have f0 := hf 0 _ rfl
  match xs, hlen, hx, f0 with
  | [x0, x1, x2], _, hx, f0 =>
    simp only [List.map_cons, List.map_nil, DataW.agg.injEq, List.cons.injEq] at hx
    obtain ⟨h0, _⟩ := hx
    obtain ⟨n0, e0, g0, _⟩ := DataW.trod_int Tryz.underlying52 (show DataW.trod enc Tryz.prog W base sp held n 52 _ = some x0 from f0)
    rw [g0] at h0
    simp only [DataW.lit.injEq, Lit.int.injEq, true_and] at h0
    subst h0
    have e0 : (cs.drop 0).take (Tryz.prog.cellsOf 52) = [.int .u64 n0] := e0
    rw [c1] at e0
    have := congrArg (fun l => l[0]?) e0
    simpa using this

theorem laid_mem {P : Program} {W : World} : ∀ (l : List (String × DataW Unit)) (ps : List MemPlace), DataW.LaidVars P W l ps → ∀ n d, (n, d) ∈ l → ∃ g t cs fuel p, P.globalNamed n = some g ∧ (P.globals[g]?).map (·.type) = some t ∧ W.var? P n = some cs ∧ DataW.trod (fun _ => ()) P W 0 (fun _ => true) false fuel t cs.toList = some (d, p) := by
  intro l
  induction l with
  | nil => intro _ _ n d h; cases h
  | cons x l ih =>
    intro ps h n d hm
    obtain ⟨g, t, cs, f, p, q, h1, h2, h3, h4, hr, _⟩ := h
    cases hm with
    | head => exact ⟨g, t, cs, f, p, h1, h2, h3, h4⟩
    | tail _ hm => exact ih _ hr n d hm

theorem gN_opt : Tryz.prog.globalNamed "internal/strconv.optimize" = some 1 := by kernel_rfl
theorem tN_opt : (Tryz.prog.globals[1]?).map (·.type) = some 4 := by kernel_rfl
theorem gN_inf : Tryz.prog.globalNamed "internal/strconv.float64info" = some 6 := by kernel_rfl
theorem tN_inf : (Tryz.prog.globals[6]?).map (·.type) = some 182 := by kernel_rfl
theorem gN_pw : Tryz.prog.globalNamed "internal/strconv.uint64pow10" = some 4 := by kernel_rfl
theorem tN_pw : (Tryz.prog.globals[4]?).map (·.type) = some 170 := by kernel_rfl
theorem gN_tab : Tryz.prog.globalNamed "internal/strconv.pow10Tab" = some 7 := by kernel_rfl
theorem tN_tab : (Tryz.prog.globals[7]?).map (·.type) = some 218 := by kernel_rfl
theorem gN_fl : Tryz.prog.globalNamed "internal/strconv.float64pow10" = some 11 := by kernel_rfl
theorem tN_fl : (Tryz.prog.globals[11]?).map (·.type) = some 230 := by kernel_rfl
theorem pw_lits : (Rows.laid_internal_strconv_uint64pow10 : DataW Unit) = .agg (Lib.pow10Tab.map fun n => .lit (.int .u64 n)) := rfl
theorem rows_len : Go.Pinned.pow10Rows.length = 696 := by kernel_rfl
theorem fl_lits : (Rows.laid_internal_strconv_float64pow10 : DataW Unit) = .slice (p10L.map fun b => .lit (.float .f64 b)) [] := rfl

theorem trod_float {H : Type} {enc : TypeId × Value → H} {P : Program} {W : World} {base : Nat} {sp : Nat → Bool} {held : Bool} {fuel : Nat} {t : TypeId} {k : FloatKind} {cs : List Value} {x : DataW H × List MemPlace}
    (ht : P.underlying t = some (.float k)) (h : DataW.trod enc P W base sp held fuel t cs = some x) : ∃ b, cs = [.float k b] ∧ x.1 = .lit (.float k b) := by
  cases fuel with
  | zero => simp [DataW.trod] at h
  | succ n =>
    unfold DataW.trod at h
    rw [ht] at h
    split at h
    all_goals try simp_all
    rename_i h; rw [← h.2]

set_option maxRecDepth 100000 in
theorem of_laid {W : World} (hs : W.ShapedOpen Tryz.prog) (h : laidMetH Tryz.prog laidN W) : TabN W := by
  rw [MakeChecks.laidMetH_plain _ _ _ (by kernel_rfl)] at h
  obtain ⟨ps, hl, _⟩ := h
  have M := laid_mem laidN ps hl
  have hpwc : ∃ cs : Array Value, W.var? Tryz.prog "internal/strconv.uint64pow10" = some cs ∧ cs = (Lib.pow10Tab.map fun z => Value.int .u64 z).toArray := by
    obtain ⟨g, t, cs, f, p, h1, h2, h3, h4⟩ := M "internal/strconv.uint64pow10" _ (by simp [laidN]; rfl)
    obtain rfl := Option.some.inj (gN_pw.symm.trans h1)
    obtain rfl := Option.some.inj (tN_pw.symm.trans h2)
    have hc := open_ints' (L := Lib.pow10Tab) Tryz.underlying170 Tryz.underlying51 (by kernel_rfl) h4 pw_lits rfl
    refine ⟨cs, h3, ?_⟩
    obtain ⟨xs, m, _, _, hl, hlen, hf⟩ := DataW.trod_array Tryz.underlying170 h4
    have hcl : cs.toList.length = 20 := hl.trans (by kernel_rfl)
    apply Array.toList_inj.1
    apply List.ext_getElem?
    intro j
    rcases Nat.lt_or_ge j 20 with hj | hj
    · rw [hc j hj]
      have : ∀ k : Fin 20, some (Value.int .u64 (Lib.pow10Tab.getD k.val 0)) = (Lib.pow10Tab.map fun z => Value.int .u64 z).toArray.toList[k.val]? := by
        intro k
        have hk : k.val < Lib.pow10Tab.length := k.isLt
        simp [List.getD_eq_getElem?_getD, List.getElem?_eq_getElem hk]
      exact this ⟨j, hj⟩
    · rw [List.getElem?_eq_none (by omega), List.getElem?_eq_none (by simp [Lib.pow10Tab]; omega)]
  have hti : Lib.TabIs Tryz.prog W "internal/strconv.uint64pow10" .u64 Lib.pow10Tab := by
    obtain ⟨cs, h1, h2⟩ := hpwc
    unfold Lib.TabIs
    rw [h1, h2]
  have tabc : ∀ j, j < 696 → W.cell? ⟨7, j * 2, none⟩ = some (.int .u64 (hiT j : Int)) ∧ W.cell? ⟨7, j * 2 + 1, none⟩ = some (.int .u64 (loT j : Int)) := by
    intro j hj
    obtain ⟨g, t, cs, f, p, h1, h2, h3, h4⟩ := M "internal/strconv.pow10Tab" _ (by simp [laidN]; rfl)
    obtain rfl := Option.some.inj (gN_tab.symm.trans h1)
    obtain rfl := Option.some.inj (tN_tab.symm.trans h2)
    obtain ⟨xs, m, _, hx, hl, hlen, hf⟩ := DataW.trod_array Tryz.underlying218 h4
    have c2 : Tryz.prog.cellsOf 217 = 2 := by kernel_rfl
    have he := hf j hj
    rw [c2, List.getElem?_eq_getElem (by omega)] at he
    have hmap : xs.map (·.1) = Go.Pinned.pow10Rows.map fun x => (DataW.agg [.lit (.int .u64 x.1), .lit (.int .u64 x.2)] : DataW Unit) := by
      have h := (Prod.mk.inj hx).1
      simp only [Rows.laid_internal_strconv_pow10Tab, Go.Pinned.pow10Tab, DataW.agg.injEq] at h
      exact h.symm
    have hjl : j < Go.Pinned.pow10Rows.length := by rw [rows_len]; exact hj
    have h5 : (xs.map (·.1))[j]? = (Go.Pinned.pow10Rows.map fun x => (DataW.agg [.lit (.int .u64 x.1), .lit (.int .u64 x.2)] : DataW Unit))[j]? := by rw [hmap]
    rw [List.getElem?_map, List.getElem?_map, List.getElem?_eq_getElem (by omega), List.getElem?_eq_getElem hjl, Option.map_some, Option.map_some] at h5
    obtain ⟨k0, k1⟩ := open_hl he (Option.some.inj h5)
    have e1 : hiT j = (Go.Pinned.pow10Rows[j]'hjl).1 := by simp [hiT, List.getElem?_eq_getElem hjl]
    have e2 : loT j = (Go.Pinned.pow10Rows[j]'hjl).2 := by simp [loT, List.getElem?_eq_getElem hjl]
    rw [World.var?_cell gN_tab h3, World.var?_cell gN_tab h3, e1, e2]
    simp at k0 k1
    exact ⟨by simpa using k0, by simpa using k1⟩
  refine ⟨?_, ?_, ?_, hti, ?_, ?_, ?_, max_len hs⟩
  · obtain ⟨g, t, cs, f, p, h1, h2, h3, h4⟩ := M "internal/strconv.optimize" _ (by simp [laidN]; rfl)
    obtain rfl := Option.some.inj (gN_opt.symm.trans h1)
    obtain rfl := Option.some.inj (tN_opt.symm.trans h2)
    obtain ⟨b, e1, e2⟩ := DataW.trod_bool Tryz.underlying4 h4
    have : b = true := by
      have h := (Prod.mk.inj e2).1
      simp only [Rows.laid_internal_strconv_optimize, DataW.lit.injEq, Lit.bool.injEq] at h
      exact h.symm
    rw [World.var?_cell gN_opt h3 0]
    have h0 : cs.toList[0]? = some (.bool b) := by rw [e1]; rfl
    rw [this] at h0
    simpa using h0
  · obtain ⟨g, t, cs, f, p, h1, h2, h3, h4⟩ := M "internal/strconv.float64info" _ (by simp [laidN]; rfl)
    obtain rfl := Option.some.inj (gN_inf.symm.trans h1)
    obtain rfl := Option.some.inj (tN_inf.symm.trans h2)
    have h0 := open_info h4 rfl
    rw [World.var?_cell gN_inf h3 0]
    simpa using h0
  · intro j hj
    have all : ∀ k : Fin 20, Lib.pow10Tab.getD k.val 0 = ((10 ^ k.val : Nat) : Int) := by decide +kernel
    have := Lib.TabIs.cell hti gN_pw j hj
    rw [this, all ⟨j, hj⟩]
  · exact fun j hj => (tabc j hj).1
  · exact fun j hj => (tabc j hj).2
  · obtain ⟨g, t, cs, f, p, h1, h2, h3, h4⟩ := M "internal/strconv.float64pow10" _ (by simp [laidN]; rfl)
    obtain rfl := Option.some.inj (gN_fl.symm.trans h1)
    obtain rfl := Option.some.inj (tN_fl.symm.trans h2)
    rw [fl_lits] at h4
    have c1 : Tryz.prog.cellsOf 69 = 1 := by kernel_rfl
    rcases DataW.trod_slice Tryz.underlying230 h4 with ⟨_, h0⟩ | ⟨a, len, cap, elems, rest, n, _, hcs, hx, hb, hlc, hm, hlen, hel, _, _⟩
    · cases (Prod.mk.inj h0).1
    · have hmap : elems.map (·.1) = p10L.map fun b => (DataW.lit (.float .f64 b) : DataW Unit) := by
        have h := (Prod.mk.inj hx).1
        simp only [DataW.slice.injEq] at h
        exact h.1.symm
      have hl23 : elems.length = 23 := by have := congrArg List.length hmap; simpa [p10L] using this
      obtain rfl : len = 23 := by omega
      refine ⟨a, cap, ?_, ?_⟩
      · rw [World.var?_cell gN_fl h3 0]
        have h0 : cs.toList[0]? = some (.slice (some a) 23 cap) := by rw [hcs]; rfl
        simpa using h0
      · intro j hj
        have he := hel j hj
        rw [c1, Nat.mul_one, List.getElem?_eq_getElem (by omega)] at he
        cases hcc : W.cells? 0 (a.add j) 1 with
        | none => rw [hcc] at he; cases he
        | some vs =>
          rw [hcc] at he
          obtain ⟨b, e1, e2⟩ := trod_float Tryz.underlying69 (show DataW.trod _ Tryz.prog W _ _ _ n 69 vs = some _ from he)
          have h2 : (elems.map (·.1))[j]? = (p10L.map fun b => (DataW.lit (.float .f64 b) : DataW Unit))[j]? := by rw [hmap]
          have hj2 : j < p10L.length := hj
          rw [List.getElem?_map, List.getElem?_map, List.getElem?_eq_getElem (by omega), List.getElem?_eq_getElem hj2, Option.map_some, Option.map_some, e2] at h2
          simp only [Option.some.injEq, DataW.lit.injEq, Lit.float.injEq, true_and] at h2
          rw [e1] at hcc
          rw [cell_of_cells?_one hcc, h2]
          simp [p10F, List.getD_eq_getElem?_getD, List.getElem?_eq_getElem hj2]
end Go.Proofs.YtpgfogfejemojaaGreatDoor
