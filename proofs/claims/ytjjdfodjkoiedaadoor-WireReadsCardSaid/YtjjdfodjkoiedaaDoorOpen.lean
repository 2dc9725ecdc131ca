/-
  Arguments opened to cells: an item, a question, slices of them.
-/
import Derived.Test.YtjjdfodjkoiedaaDoorSame
import Derived.Test.YtjjdfodjkoiedaaDoorLaid
import Derived.Deep.Slices
import Derived.Lib.SmallJoins
set_option linter.unusedVariables false
set_option maxRecDepth 100000
namespace Go.Proofs.YtjjdfodjkoiedaaDoor
open Go.ChangeShapes Go.WideShapes Go.ChangeAt Go.WideElems Go.RowKit Go.Deep

theorem spot_none {w : World} {x : Addr} {v : Value} (h : w.cell? x = some v) : x.spot = none ∧ x.block < w.heap.size := by
  refine ⟨?_, World.block_lt_of_cell? w _ h⟩
  unfold World.cell? at h
  split at h
  · split at h
    · cases h
    · rename_i hs; simpa using hs
  · cases h
theorem addr_of {w : World} {x : Addr} {v : Value} (h : w.cell? x = some v) : ∃ b o, x = ⟨b, o, none⟩ ∧ b < w.heap.size := by
  obtain ⟨hs, hb⟩ := spot_none h
  obtain ⟨b, o, sp⟩ := x
  simp only at hs hb
  subst hs
  exact ⟨b, o, rfl, hb⟩
theorem add_none (b o j : Nat) : (⟨b, o, none⟩ : Addr).add j = ⟨b, o + j, none⟩ := by unfold Addr.add; split <;> simp_all

instance : Inhabited It := ⟨⟨0, 0, 0, ⟨#[]⟩, none, 0, 0⟩⟩

/-- What comes in lies in blocks that are there. -/
def Old (W : World) (b : Nat) : Prop := b < W.heap.size

section
variable {H : Type} {enc : TypeId × Value → H} {W : World} {sp : Nat → Bool} {held : Bool}

theorem open_bools {fuel : Nat} {cs : List Value} {x : DataW H × List MemPlace} (h : DataW.trod enc Tryd.prog W 0 (fun _ => true) held fuel 29 cs = some x) :
    ∃ a n c l, cs = [.slice a n c] ∧ BoolsAt (Old W) W (.slice a n c) l := by
  rcases open_slice1 Tryd.underlying29 (by kernel_rfl) h with ⟨hcs, _⟩ | ⟨a, len, cap, m, n, V, D, Pl, hcs, _, hl, _, hm, _, hi⟩
  · exact ⟨none, 0, 0, [], hcs, none, 0, rfl, .inl rfl⟩
  · have hm' : m = cap := by simpa using hm
    obtain ⟨B, hB⟩ := choose_lt (α := Bool) (n := len) (p := fun i b => W.cell? (a.add i) = some (.bool b)) (fun i hi' => by
      obtain ⟨hc, ht⟩ := hi i (by omega)
      obtain ⟨b, hb, _⟩ := DataW.trod_bool Tryd.underlying4 ht
      injection hb with hb
      exact ⟨b, by rw [hc, hb]⟩)
    refine ⟨some a, len, cap, (List.range len).map B, hcs, some a, cap, by simp, ?_⟩
    by_cases h0 : len = 0
    · left; subst h0; rfl
    · right
      have h00 := hB 0 (by omega)
      rw [show a.add 0 = a from rfl] at h00
      obtain ⟨b, o, rfl, hlt⟩ := addr_of h00
      refine ⟨b, o, rfl, hlt, hlt, fun j hj => ?_⟩
      have hj' : j < len := by simpa using hj
      rw [← add_none, hB j hj']
      simp

theorem open_item {fuel : Nat} {cs : List Value} {y : DataW H × List MemPlace} (h : DataW.trod enc Tryd.prog W 0 (fun _ => true) held fuel 31 cs = some y) :
    ∃ (x : It) (l : List Bool), cs = [.int .i64 x.k, .int .i64 x.z, .int .i64 x.n, .string x.s, .slice x.la x.ll x.lc] ∧ BoolsAt (Old W) W (.slice x.la x.ll x.lc) l ∧ (Lit.int .i64 x.n).wf = true := by
  obtain ⟨xs, n, _, _, hl, hlen, hf⟩ := DataW.trod_struct Tryd.underlying31 h
  have c5 : Tryd.prog.cellsOf 31 = 5 := by kernel_rfl
  have i1 : Tryd.prog.cellsOf 3 = 1 := by kernel_rfl
  have i2 : Tryd.prog.cellsOf 2 = 1 := by kernel_rfl
  have i3 : Tryd.prog.cellsOf 9 = 1 := by kernel_rfl
  have i4 : Tryd.prog.cellsOf 29 = 1 := by kernel_rfl
  rw [c5] at hl
  have f0 := hf 0 _ rfl
  have f1 := hf 1 _ rfl
  have f2 := hf 2 _ rfl
  have f3 := hf 3 _ rfl
  have f4 := hf 4 _ rfl
  match cs, hl, xs, hlen, f0, f1, f2, f3, f4 with
  | [c0, c1, c2, c3, c4], _, [x0, x1, x2, x3, x4], _, f0, f1, f2, f3, f4 =>
    have f0 : DataW.trod enc Tryd.prog W 0 (fun _ => true) held n 3 (List.take (Tryd.prog.cellsOf 3) [c0, c1, c2, c3, c4]) = some x0 := f0
    have f1 : DataW.trod enc Tryd.prog W 0 (fun _ => true) held n 3 (List.take (Tryd.prog.cellsOf 3) [c1, c2, c3, c4]) = some x1 := f1
    have f2 : DataW.trod enc Tryd.prog W 0 (fun _ => true) held n 2 (List.take (Tryd.prog.cellsOf 2) [c2, c3, c4]) = some x2 := f2
    have f3 : DataW.trod enc Tryd.prog W 0 (fun _ => true) held n 9 (List.take (Tryd.prog.cellsOf 9) [c3, c4]) = some x3 := f3
    have f4 : DataW.trod enc Tryd.prog W 0 (fun _ => true) held n 29 (List.take (Tryd.prog.cellsOf 29) [c4]) = some x4 := f4
    rw [i1] at f0 f1
    rw [i2] at f2
    rw [i3] at f3
    rw [i4] at f4
    obtain ⟨k, e0, _, _⟩ := DataW.trod_int Tryd.underlying3 f0
    obtain ⟨z, e1, _, _⟩ := DataW.trod_int Tryd.underlying3 f1
    obtain ⟨m, e2, _, wf⟩ := DataW.trod_int Tryd.underlying2 f2
    obtain ⟨s, e3, _, _⟩ := DataW.trod_string Tryd.underlying9 f3
    obtain ⟨a, ll, lc, l, e4, hb⟩ := open_bools f4
    simp at e0 e1 e2 e3 e4
    subst e0 e1 e2 e3 e4
    exact ⟨⟨k, z, m, s, a, ll, lc⟩, l, rfl, hb, wf⟩

theorem open_ask {fuel : Nat} {cs : List Value} {y : DataW H × List MemPlace} (h : DataW.trod enc Tryd.prog W 0 (fun _ => true) held fuel 42 cs = some y) :
    ∃ k n : Int, cs = [.int .i64 k, .int .i64 n] := by
  obtain ⟨xs, n, _, _, hl, hlen, hf⟩ := DataW.trod_struct Tryd.underlying42 h
  have c5 : Tryd.prog.cellsOf 42 = 2 := by kernel_rfl
  have i1 : Tryd.prog.cellsOf 3 = 1 := by kernel_rfl
  rw [c5] at hl
  have f0 := hf 0 _ rfl
  have f1 := hf 1 _ rfl
  match cs, hl, xs, hlen, f0, f1 with
  | [c0, c1], _, [x0, x1], _, f0, f1 =>
    have f0 : DataW.trod enc Tryd.prog W 0 (fun _ => true) held n 3 (List.take (Tryd.prog.cellsOf 3) [c0, c1]) = some x0 := f0
    have f1 : DataW.trod enc Tryd.prog W 0 (fun _ => true) held n 3 (List.take (Tryd.prog.cellsOf 3) [c1]) = some x1 := f1
    rw [i1] at f0 f1
    obtain ⟨k, e0, _, _⟩ := DataW.trod_int Tryd.underlying3 f0
    obtain ⟨z, e1, _, _⟩ := DataW.trod_int Tryd.underlying3 f1
    simp at e0 e1
    subst e0 e1
    exact ⟨k, z, rfl⟩

theorem open_item_val {r : Reach} {b0 : Nat} {v : Value} {d : DataW H} {p : List MemPlace} (hv : Value.okWide Tryd.prog W r b0 31 v) (h : DataW.Trod enc Tryd.prog W 0 (fun _ => true) held 31 v d p) :
    ∃ (x : It) (l : List Bool), v = x.val ∧ BoolsAt (Old W) W (.slice x.la x.ll x.lc) l ∧ (Lit.int .i64 x.n).wf = true := by
  obtain ⟨cs, rfl, _⟩ := okWide_struct Tryd.underlying31 hv
  obtain ⟨fuel, hf⟩ := h
  obtain ⟨x, l, e, hb, wf⟩ := open_item hf
  obtain ⟨cs⟩ := cs
  simp [Value.cells] at e
  exact ⟨x, l, by rw [e]; rfl, hb, wf⟩

theorem open_ask_val {r : Reach} {b0 : Nat} {v : Value} {d : DataW H} {p : List MemPlace} (hv : Value.okWide Tryd.prog W r b0 42 v) (h : DataW.Trod enc Tryd.prog W 0 (fun _ => true) held 42 v d p) :
    ∃ k n : Int, v = .agg #[.int .i64 k, .int .i64 n] := by
  obtain ⟨cs, rfl, _⟩ := okWide_struct Tryd.underlying42 hv
  obtain ⟨fuel, hf⟩ := h
  obtain ⟨k, n, e⟩ := open_ask hf
  obtain ⟨cs⟩ := cs
  simp [Value.cells] at e
  exact ⟨k, n, by rw [e]⟩

/-- A slice of questions. -/
def AsksAt (w : World) (v : Value) (xs : List (Int × Int)) : Prop :=
  ∃ a cap, v = .slice a xs.length cap ∧ (xs = [] ∨ ∃ b o, a = some ⟨b, o, none⟩ ∧ b < w.heap.size ∧ ∀ j (h : j < xs.length),
    w.cell? ⟨b, o + j * 2, none⟩ = some (.int .i64 xs[j].1) ∧ w.cell? ⟨b, o + j * 2 + 1, none⟩ = some (.int .i64 xs[j].2))

theorem open_asks {r : Reach} {b0 : Nat} {v : Value} {d : DataW H} {p : List MemPlace} (hv : Value.okWide Tryd.prog W r b0 36 v) (h : DataW.Trod enc Tryd.prog W 0 (fun _ => true) held 36 v d p) :
    ∃ xs, AsksAt W v xs := by
  obtain ⟨a0, len0, cap0, rfl⟩ := okWide_slice Tryd.underlying36 hv
  obtain ⟨fuel, hf⟩ := h
  rcases open_slice Tryd.underlying36 hf with ⟨hcs, _⟩ | ⟨a, len, cap, m, n, D, Pl, hcs, _, hl, _, hm, _, hi⟩
  · simp [Value.cells] at hcs
    obtain ⟨rfl, rfl, rfl⟩ := hcs
    exact ⟨[], none, 0, rfl, .inl rfl⟩
  · simp [Value.cells] at hcs
    obtain ⟨rfl, rfl, rfl⟩ := hcs
    have hm' : m = cap0 := by simpa using hm
    have c2 : Tryd.prog.cellsOf 42 = 2 := by kernel_rfl
    obtain ⟨B, hB⟩ := choose_lt (α := Int × Int) (n := len0) (p := fun i q => W.cell? ((a.add (i * 2)).add 0) = some (.int .i64 q.1) ∧ W.cell? ((a.add (i * 2)).add 1) = some (.int .i64 q.2)) (fun i hi' => by
      obtain ⟨cs', h1, ht⟩ := hi i (by omega)
      obtain ⟨k, n, e⟩ := open_ask ht
      obtain ⟨_, _, hat⟩ := World.cells?_some h1
      rw [c2] at hat
      have g0 := hat 0 (by omega)
      have g1 := hat 1 (by omega)
      rw [e] at g0 g1
      exact ⟨(k, n), g0, g1⟩)
    refine ⟨(List.range len0).map B, some a, cap0, by simp, ?_⟩
    by_cases h0 : len0 = 0
    · left; subst h0; rfl
    · right
      have h00 := (hB 0 (by omega)).1
      rw [show (a.add (0 * 2)).add 0 = a from rfl] at h00
      obtain ⟨b, o, rfl, hlt⟩ := addr_of h00
      refine ⟨b, o, rfl, hlt, fun j hj => ?_⟩
      have hj' : j < len0 := by simpa using hj
      obtain ⟨g0, g1⟩ := hB j hj'
      rw [add_none, add_none] at g0 g1
      simp only [List.getElem_map, List.getElem_range]
      exact ⟨g0, g1⟩

/-- A slice of items, with what their bit maps hold. -/
theorem open_items {r : Reach} {b0 : Nat} {v : Value} {d : DataW H} {p : List MemPlace} (hv : Value.okWide Tryd.prog W r b0 22 v) (h : DataW.Trod enc Tryd.prog W 0 (fun _ => true) held 22 v d p) :
    ∃ (xs : List It) (ls : List (List Bool)), ItemsAt W v xs ∧ ls.length = xs.length ∧ (∀ j (h : j < xs.length) (h' : j < ls.length), BoolsAt (Old W) W (.slice xs[j].la xs[j].ll xs[j].lc) ls[j]) ∧ ∀ x ∈ xs, (Lit.int .i64 x.n).wf = true := by
  obtain ⟨a0, len0, cap0, rfl⟩ := okWide_slice Tryd.underlying22 hv
  obtain ⟨fuel, hf⟩ := h
  rcases open_slice Tryd.underlying22 hf with ⟨hcs, _⟩ | ⟨a, len, cap, m, n, D, Pl, hcs, _, hl, _, hm, _, hi⟩
  · simp [Value.cells] at hcs
    obtain ⟨rfl, rfl, rfl⟩ := hcs
    exact ⟨[], [], ⟨none, 0, rfl, .inl rfl⟩, rfl, fun j h => absurd h (Nat.not_lt_zero _), by simp⟩
  · simp [Value.cells] at hcs
    obtain ⟨rfl, rfl, rfl⟩ := hcs
    have hm' : m = cap0 := by simpa using hm
    have c5 : Tryd.prog.cellsOf 31 = 5 := by kernel_rfl
    obtain ⟨B, hB⟩ := choose_lt (α := It × List Bool) (n := len0) (p := fun i q => (W.cell? ((a.add (i * 5)).add 0) = some (.int .i64 q.1.k) ∧ W.cell? ((a.add (i * 5)).add 1) = some (.int .i64 q.1.z) ∧ W.cell? ((a.add (i * 5)).add 2) = some (.int .i64 q.1.n) ∧
        W.cell? ((a.add (i * 5)).add 3) = some (.string q.1.s) ∧ W.cell? ((a.add (i * 5)).add 4) = some (.slice q.1.la q.1.ll q.1.lc)) ∧ BoolsAt (Old W) W (.slice q.1.la q.1.ll q.1.lc) q.2 ∧ (Lit.int .i64 q.1.n).wf = true) (fun i hi' => by
      obtain ⟨cs', h1, ht⟩ := hi i (by omega)
      obtain ⟨x, l, e, hb, wf⟩ := open_item ht
      obtain ⟨_, _, hat⟩ := World.cells?_some h1
      rw [c5] at hat
      have g0 := hat 0 (by omega)
      have g1 := hat 1 (by omega)
      have g2 := hat 2 (by omega)
      have g3 := hat 3 (by omega)
      have g4 := hat 4 (by omega)
      rw [e] at g0 g1 g2 g3 g4
      exact ⟨(x, l), ⟨g0, g1, g2, g3, g4⟩, hb, wf⟩)
    refine ⟨(List.range len0).map (fun i => (B i).1), (List.range len0).map (fun i => (B i).2), ⟨some a, cap0, by simp, ?_⟩, by simp, ?_, ?_⟩
    · by_cases h0 : len0 = 0
      · left; subst h0; rfl
      · right
        have h00 := (hB 0 (by omega)).1.1
        rw [show (a.add (0 * 5)).add 0 = a from rfl] at h00
        obtain ⟨b, o, rfl, hlt⟩ := addr_of h00
        refine ⟨b, o, rfl, hlt, fun j hj => ?_⟩
        have hj' : j < len0 := by simpa using hj
        obtain ⟨⟨g0, g1, g2, g3, g4⟩, _⟩ := hB j hj'
        rw [add_none, add_none] at g0 g1 g2 g3 g4
        simp only [List.getElem_map, List.getElem_range]
        exact ⟨g0, g1, g2, g3, g4⟩
    · intro j hj hj2
      have hj' : j < len0 := by simpa using hj
      simp only [List.getElem_map, List.getElem_range]
      exact (hB j hj').2.1
    · intro x hx
      obtain ⟨i, hi', rfl⟩ := List.mem_map.1 hx
      exact (hB i (by simpa using hi')).2.2
end
end Go.Proofs.YtjjdfodjkoiedaaDoor
