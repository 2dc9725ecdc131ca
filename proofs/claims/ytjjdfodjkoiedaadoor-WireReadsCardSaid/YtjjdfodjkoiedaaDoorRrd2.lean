/-
  acheronlaw02.referRead: by kinds.
-/
import Derived.Test.YtjjdfodjkoiedaaDoorRrd
import Derived.Test.YtjjdfodjkoiedaaDoorRr8
import Derived.Deep.DeepCutAuto
set_option linter.unusedVariables false
namespace Go.Proofs.YtjjdfodjkoiedaaDoor
open Go.RowKit

theorem cs_same {w : World} {p : Addr} {x v : Value} (h : w.cell? p = some v) : (w.setCell p x).cell? p = some x := World.cell?_setCell_same _ _ _ h
theorem cs_off {w : World} {b c : Nat} {i k : Nat} {x v : Value} (hne : b ≠ c ∨ i ≠ k) (h : w.cell? ⟨c, k, none⟩ = some v) : (w.setCell ⟨b, i, none⟩ x).cell? ⟨c, k, none⟩ = some v :=
  (World.cell?_setCell_other _ _ _ _ (fun e => by injection e with e1 e2 e3; rcases hne with h | h; exact h e1; exact h e2)).trans h
theorem cs_frz {w : World} {p q : Addr} {x : Value} (h : w.frozen? q = false) : (w.setCell p x).frozen? q = false := by rw [World.frozen?_setCell]; exact h

/-- What lies in memory when referRead comes to its end. -/
structure Mid (w wr : World) (S : ByteArray) (j : Nat) (x : Int) (u2 u3 u4 u0 u1 : Value) : Prop where
  r : wr.cell? ⟨w.heap.size, 0, none⟩ = some (.string S) ∧ wr.cell? ⟨w.heap.size, 1, none⟩ = some (.int .i64 (j : Int)) ∧ wr.cell? ⟨w.heap.size, 2, none⟩ = some (.int .i64 x)
  out : wr.cell? ⟨w.heap.size + 1 + 1 + 1 + 1, 0, none⟩ = some u0 ∧ wr.cell? ⟨w.heap.size + 1 + 1 + 1 + 1, 1, none⟩ = some u1 ∧ wr.cell? ⟨w.heap.size + 1 + 1 + 1 + 1, 2, none⟩ = some u2 ∧ wr.cell? ⟨w.heap.size + 1 + 1 + 1 + 1, 3, none⟩ = some u3 ∧ wr.cell? ⟨w.heap.size + 1 + 1 + 1 + 1, 4, none⟩ = some u4
  five : Five wr (w.heap.size + 1 + 1)
  trip : Trip wr (w.heap.size + 1 + 1 + 1) (.string ⟨#[]⟩) (.int .i64 0) (.int .i64 0)
  below : Below w.heap.size w wr

theorem trip_same {w w' : World} {b : Nat} {u0 u1 u2 : Value} (h : w'.heap[b]? = w.heap[b]?) (t : Trip w b u0 u1 u2) : Trip w' b u0 u1 u2 := by
  unfold Trip at *
  simpa only [fun i => World.cell?_of_block (w := w) (w' := w') (a := ⟨b, i, none⟩) h, fun i => World.frozen?_of_block (w := w) (w' := w') (a := ⟨b, i, none⟩) h] using t
theorem five_same {w w' : World} {b : Nat} (h : w'.heap[b]? = w.heap[b]?) (t : Five w b) : Five w' b := by
  unfold Five at *
  simpa only [fun i => World.cell?_of_block (w := w) (w' := w') (a := ⟨b, i, none⟩) h, fun i => World.frozen?_of_block (w := w) (w' := w') (a := ⟨b, i, none⟩) h] using t
theorem set_other {w : World} {b c i : Nat} {x : Value} (h : b ≠ c) : (w.setCell ⟨b, i, none⟩ x).heap[c]? = w.heap[c]? := Below.heap_setCell _ _ _ _ (fun e => h e.symm)
/-- One store into out, three into the reader. -/
def st4 (w : World) (o b f : Nat) (v : Value) (S : ByteArray) (j : Nat) (x : Int) : World :=
  (((w.setCell ⟨o, f, none⟩ v).setCell ⟨b, 0, none⟩ (.string S)).setCell ⟨b, 1, none⟩ (.int .i64 (j : Int))).setCell ⟨b, 2, none⟩ (.int .i64 x)
def st4' (w : World) (o b f : Nat) (v : Value) (S : ByteArray) (j : Nat) (x : Int) : World :=
  (((w.setCell ⟨b, 0, none⟩ (.string S)).setCell ⟨b, 1, none⟩ (.int .i64 (j : Int))).setCell ⟨b, 2, none⟩ (.int .i64 x)).setCell ⟨o, f, none⟩ v
theorem st4_block {w : World} {o b f c : Nat} {v : Value} {S : ByteArray} {j : Nat} {x : Int} (h1 : o ≠ c) (h2 : b ≠ c) : (st4 w o b f v S j x).heap[c]? = w.heap[c]? ∧ (st4' w o b f v S j x).heap[c]? = w.heap[c]? := by
  unfold st4 st4'
  exact ⟨by rw [set_other h2, set_other h2, set_other h2, set_other h1], by rw [set_other h1, set_other h2, set_other h2, set_other h2]⟩
theorem st4_r {w : World} {o b f : Nat} {v u0 u1 u2 : Value} {S : ByteArray} {j : Nat} {x : Int} (hne : o ≠ b) (h0 : w.cell? ⟨b, 0, none⟩ = some u0) (h1 : w.cell? ⟨b, 1, none⟩ = some u1) (h2 : w.cell? ⟨b, 2, none⟩ = some u2) :
    ((st4 w o b f v S j x).cell? ⟨b, 0, none⟩ = some (.string S) ∧ (st4 w o b f v S j x).cell? ⟨b, 1, none⟩ = some (.int .i64 (j : Int)) ∧ (st4 w o b f v S j x).cell? ⟨b, 2, none⟩ = some (.int .i64 x)) ∧
    ((st4' w o b f v S j x).cell? ⟨b, 0, none⟩ = some (.string S) ∧ (st4' w o b f v S j x).cell? ⟨b, 1, none⟩ = some (.int .i64 (j : Int)) ∧ (st4' w o b f v S j x).cell? ⟨b, 2, none⟩ = some (.int .i64 x)) := by
  have n01 : (b ≠ b ∨ 0 ≠ 1) := .inr (by decide)
  have n02 : (b ≠ b ∨ 0 ≠ 2) := .inr (by decide)
  have n12 : (b ≠ b ∨ 1 ≠ 2) := .inr (by decide)
  have n10 : (b ≠ b ∨ 1 ≠ 0) := .inr (by decide)
  have n20 : (b ≠ b ∨ 2 ≠ 0) := .inr (by decide)
  have n21 : (b ≠ b ∨ 2 ≠ 1) := .inr (by decide)
  unfold st4 st4'
  exact ⟨⟨cs_off n20 (cs_off n10 (cs_same (cs_off (.inl hne) h0))), cs_off n21 (cs_same (cs_off n01 (cs_off (.inl hne) h1))), cs_same (cs_off n12 (cs_off n02 (cs_off (.inl hne) h2)))⟩,
    ⟨cs_off (.inl hne) (cs_off n20 (cs_off n10 (cs_same h0))), cs_off (.inl hne) (cs_off n21 (cs_same (cs_off n01 h1))), cs_off (.inl hne) (cs_same (cs_off n12 (cs_off n02 h2)))⟩⟩
theorem st4_out {w : World} {o b f k : Nat} {v u : Value} {S : ByteArray} {j : Nat} {x : Int} (hne : b ≠ o) (h : w.cell? ⟨o, k, none⟩ = some u) :
    (st4 w o b f v S j x).cell? ⟨o, k, none⟩ = some (if k = f then v else u) ∧ (st4' w o b f v S j x).cell? ⟨o, k, none⟩ = some (if k = f then v else u) := by
  unfold st4 st4'
  by_cases e : k = f
  · subst e
    rw [if_pos rfl]
    exact ⟨cs_off (.inl hne) (cs_off (.inl hne) (cs_off (.inl hne) (cs_same h))), cs_same (cs_off (.inl hne) (cs_off (.inl hne) (cs_off (.inl hne) h)))⟩
  · rw [if_neg e]
    have e' : o ≠ o ∨ f ≠ k := .inr (fun h => e h.symm)
    exact ⟨cs_off (.inl hne) (cs_off (.inl hne) (cs_off (.inl hne) (cs_off e' h))), cs_off e' (cs_off (.inl hne) (cs_off (.inl hne) (cs_off (.inl hne) h)))⟩
theorem st4_below {n : Nat} {w0 w : World} {o b f : Nat} {v : Value} {S : ByteArray} {j : Nat} {x : Int} (h : Below n w0 w) (h1 : n ≤ o) (h2 : n ≤ b) : Below n w0 (st4 w o b f v S j x) ∧ Below n w0 (st4' w o b f v S j x) :=
  ⟨(((h.setCell (p := ⟨o, f, none⟩) h1 _).setCell (p := ⟨b, 0, none⟩) h2 _).setCell (p := ⟨b, 1, none⟩) h2 _).setCell (p := ⟨b, 2, none⟩) h2 _,
   (((h.setCell (p := ⟨b, 0, none⟩) h2 _).setCell (p := ⟨b, 1, none⟩) h2 _).setCell (p := ⟨b, 2, none⟩) h2 _).setCell (p := ⟨o, f, none⟩) h1 _⟩

theorem mid_of {w w1 : World} {S : ByteArray} {i e k n : Int} (hb : Below (V5 w S i e k n).heap.size (V5 w S i e k n) w1) (j : Nat) (x : Int) (f : Nat) (v : Value) :
    Mid w (st4 w1 (w.heap.size + 1 + 1 + 1 + 1) w.heap.size f v S j x) S j x (if 2 = f then v else .int .i64 0) (if 3 = f then v else .string ⟨#[]⟩) (if 4 = f then v else .slice none 0 0) (if 0 = f then v else .int .i64 0) (if 1 = f then v else .int .i64 0) ∧
    Mid w (st4' w1 (w.heap.size + 1 + 1 + 1 + 1) w.heap.size f v S j x) S j x (if 2 = f then v else .int .i64 0) (if 3 = f then v else .string ⟨#[]⟩) (if 4 = f then v else .slice none 0 0) (if 0 = f then v else .int .i64 0) (if 1 = f then v else .int .i64 0) := by
  obtain ⟨⟨⟨p0, p1, p2⟩, _⟩, five, trip, ⟨⟨d0, d1, d2, d3, d4⟩, _⟩, hlt, hbel⟩ := v5_facts (S := S) (i := i) (e := e) (k := k) (n := n) hb
  have n1 : w.heap.size + 1 + 1 + 1 + 1 ≠ w.heap.size := by omega
  have n2 : w.heap.size + 1 + 1 + 1 + 1 ≠ w.heap.size + 1 + 1 := by omega
  have n3 : w.heap.size + 1 + 1 + 1 + 1 ≠ w.heap.size + 1 + 1 + 1 := by omega
  have n4 : w.heap.size ≠ w.heap.size + 1 + 1 := by omega
  have n5 : w.heap.size ≠ w.heap.size + 1 + 1 + 1 := by omega
  have hr := st4_r (f := f) (v := v) (S := S) (j := j) (x := x) n1 p0 p1 p2
  have hbb := st4_below (f := f) (v := v) (S := S) (j := j) (x := x) (o := w.heap.size + 1 + 1 + 1 + 1) (b := w.heap.size) hbel (by omega) (Nat.le_refl _)
  exact ⟨⟨hr.1, ⟨(st4_out n1.symm d0).1, (st4_out n1.symm d1).1, (st4_out n1.symm d2).1, (st4_out n1.symm d3).1, (st4_out n1.symm d4).1⟩, five_same (st4_block n2 n4).1 five, trip_same (st4_block n3 n5).1 trip, hbb.1⟩,
    ⟨hr.2, ⟨(st4_out n1.symm d0).2, (st4_out n1.symm d1).2, (st4_out n1.symm d2).2, (st4_out n1.symm d3).2, (st4_out n1.symm d4).2⟩, five_same (st4_block n2 n4).2 five, trip_same (st4_block n3 n5).2 trip, hbb.2⟩⟩

-- ST8
theorem bools_drew {P : Nat → Prop} {w : World} {v : Value} {l : List Bool} (h : BoolsAt P w v l) : BoolsAt P w.drew v l := h
theorem below_far {n : Nat} {w0 w : World} {b i : Nat} {v : Value} (h : Below n w0 w) (hb : n ≤ b) : Below n w0 (w.setCell ⟨b, i, none⟩ v) := h.setCell (p := ⟨b, i, none⟩) hb v
theorem bools_far {n : Nat} {w : World} {b i : Nat} {v x : Value} {l : List Bool} (h : BoolsAt (fun b => n ≤ b) w v l) (hb : b < n) : BoolsAt (fun b => n ≤ b) (w.setCell ⟨b, i, none⟩ x) v l := h.far (p := ⟨b, i, none⟩) (fun c hc => by have hc : n ≤ c := hc; show c ≠ b; omega)
def st8_0 (w : World) (b c : Nat) (u0 u1 u2 u3 u4 s0 s1 s2 : Value) : World := ((((((((w.setCell ⟨b, 0, none⟩ u0).setCell ⟨b, 1, none⟩ u1).setCell ⟨b, 2, none⟩ u2).setCell ⟨b, 3, none⟩ u3).setCell ⟨b, 4, none⟩ u4).setCell ⟨c, 0, none⟩ s0).setCell ⟨c, 1, none⟩ s1).setCell ⟨c, 2, none⟩ s2)
theorem st8_0_cells {w : World} {b c : Nat} {u0 u1 u2 u3 u4 s0 s1 s2 a0 a1 a2 a3 a4 r0 r1 r2 : Value} (hne : b ≠ c) (h0 : w.cell? ⟨b, 0, none⟩ = some a0) (h1 : w.cell? ⟨b, 1, none⟩ = some a1) (h2 : w.cell? ⟨b, 2, none⟩ = some a2) (h3 : w.cell? ⟨b, 3, none⟩ = some a3) (h4 : w.cell? ⟨b, 4, none⟩ = some a4) (g0 : w.cell? ⟨c, 0, none⟩ = some r0) (g1 : w.cell? ⟨c, 1, none⟩ = some r1) (g2 : w.cell? ⟨c, 2, none⟩ = some r2) :
    (st8_0 w b c u0 u1 u2 u3 u4 s0 s1 s2).cell? ⟨b, 0, none⟩ = some u0 ∧ (st8_0 w b c u0 u1 u2 u3 u4 s0 s1 s2).cell? ⟨b, 1, none⟩ = some u1 ∧ (st8_0 w b c u0 u1 u2 u3 u4 s0 s1 s2).cell? ⟨b, 2, none⟩ = some u2 ∧ (st8_0 w b c u0 u1 u2 u3 u4 s0 s1 s2).cell? ⟨b, 3, none⟩ = some u3 ∧ (st8_0 w b c u0 u1 u2 u3 u4 s0 s1 s2).cell? ⟨b, 4, none⟩ = some u4 ∧ (st8_0 w b c u0 u1 u2 u3 u4 s0 s1 s2).cell? ⟨c, 0, none⟩ = some s0 ∧ (st8_0 w b c u0 u1 u2 u3 u4 s0 s1 s2).cell? ⟨c, 1, none⟩ = some s1 ∧ (st8_0 w b c u0 u1 u2 u3 u4 s0 s1 s2).cell? ⟨c, 2, none⟩ = some s2 := by
  have hne' : c ≠ b := hne.symm
  unfold st8_0
  have nb01 : (b ≠ b ∨ 0 ≠ 1) := .inr (by decide)
  have nb02 : (b ≠ b ∨ 0 ≠ 2) := .inr (by decide)
  have nb03 : (b ≠ b ∨ 0 ≠ 3) := .inr (by decide)
  have nb04 : (b ≠ b ∨ 0 ≠ 4) := .inr (by decide)
  have nb10 : (b ≠ b ∨ 1 ≠ 0) := .inr (by decide)
  have nb12 : (b ≠ b ∨ 1 ≠ 2) := .inr (by decide)
  have nb13 : (b ≠ b ∨ 1 ≠ 3) := .inr (by decide)
  have nb14 : (b ≠ b ∨ 1 ≠ 4) := .inr (by decide)
  have nb20 : (b ≠ b ∨ 2 ≠ 0) := .inr (by decide)
  have nb21 : (b ≠ b ∨ 2 ≠ 1) := .inr (by decide)
  have nb23 : (b ≠ b ∨ 2 ≠ 3) := .inr (by decide)
  have nb24 : (b ≠ b ∨ 2 ≠ 4) := .inr (by decide)
  have nb30 : (b ≠ b ∨ 3 ≠ 0) := .inr (by decide)
  have nb31 : (b ≠ b ∨ 3 ≠ 1) := .inr (by decide)
  have nb32 : (b ≠ b ∨ 3 ≠ 2) := .inr (by decide)
  have nb34 : (b ≠ b ∨ 3 ≠ 4) := .inr (by decide)
  have nb40 : (b ≠ b ∨ 4 ≠ 0) := .inr (by decide)
  have nb41 : (b ≠ b ∨ 4 ≠ 1) := .inr (by decide)
  have nb42 : (b ≠ b ∨ 4 ≠ 2) := .inr (by decide)
  have nb43 : (b ≠ b ∨ 4 ≠ 3) := .inr (by decide)
  have nc01 : (c ≠ c ∨ 0 ≠ 1) := .inr (by decide)
  have nc02 : (c ≠ c ∨ 0 ≠ 2) := .inr (by decide)
  have nc10 : (c ≠ c ∨ 1 ≠ 0) := .inr (by decide)
  have nc12 : (c ≠ c ∨ 1 ≠ 2) := .inr (by decide)
  have nc20 : (c ≠ c ∨ 2 ≠ 0) := .inr (by decide)
  have nc21 : (c ≠ c ∨ 2 ≠ 1) := .inr (by decide)
  exact ⟨cs_off (.inl hne') (cs_off (.inl hne') (cs_off (.inl hne') (cs_off nb40 (cs_off nb30 (cs_off nb20 (cs_off nb10 (cs_same (h0)))))))),
    cs_off (.inl hne') (cs_off (.inl hne') (cs_off (.inl hne') (cs_off nb41 (cs_off nb31 (cs_off nb21 (cs_same (cs_off nb01 (h1)))))))),
    cs_off (.inl hne') (cs_off (.inl hne') (cs_off (.inl hne') (cs_off nb42 (cs_off nb32 (cs_same (cs_off nb12 (cs_off nb02 (h2)))))))),
    cs_off (.inl hne') (cs_off (.inl hne') (cs_off (.inl hne') (cs_off nb43 (cs_same (cs_off nb23 (cs_off nb13 (cs_off nb03 (h3)))))))),
    cs_off (.inl hne') (cs_off (.inl hne') (cs_off (.inl hne') (cs_same (cs_off nb34 (cs_off nb24 (cs_off nb14 (cs_off nb04 (h4)))))))),
    cs_off nc20 (cs_off nc10 (cs_same (cs_off (.inl hne) (cs_off (.inl hne) (cs_off (.inl hne) (cs_off (.inl hne) (cs_off (.inl hne) (g0)))))))),
    cs_off nc21 (cs_same (cs_off nc01 (cs_off (.inl hne) (cs_off (.inl hne) (cs_off (.inl hne) (cs_off (.inl hne) (cs_off (.inl hne) (g1)))))))),
    cs_same (cs_off nc12 (cs_off nc02 (cs_off (.inl hne) (cs_off (.inl hne) (cs_off (.inl hne) (cs_off (.inl hne) (cs_off (.inl hne) (g2))))))))⟩
theorem st8_0_below {n : Nat} {w0 w : World} {b c : Nat} {u0 u1 u2 u3 u4 s0 s1 s2 : Value} (h : Below n w0 w) (hb : n ≤ b) (hc : n ≤ c) : Below n w0 (st8_0 w b c u0 u1 u2 u3 u4 s0 s1 s2) := below_far (below_far (below_far (below_far (below_far (below_far (below_far (below_far (h) hb) hb) hb) hb) hb) hc) hc) hc
theorem st8_0_bools {n : Nat} {w : World} {b c : Nat} {v u0 u1 u2 u3 u4 s0 s1 s2 : Value} {l : List Bool} (h : BoolsAt (fun b => n ≤ b) w v l) (hb : b < n) (hc : c < n) : BoolsAt (fun b => n ≤ b) (st8_0 w b c u0 u1 u2 u3 u4 s0 s1 s2) v l := bools_far (bools_far (bools_far (bools_far (bools_far (bools_far (bools_far (bools_far (h) hb) hb) hb) hb) hb) hc) hc) hc
def st8_1 (w : World) (b c : Nat) (u0 u1 u2 u3 u4 s0 s1 s2 : Value) : World := ((((((((w.setCell ⟨c, 0, none⟩ s0).setCell ⟨c, 1, none⟩ s1).setCell ⟨c, 2, none⟩ s2).setCell ⟨b, 0, none⟩ u0).setCell ⟨b, 1, none⟩ u1).setCell ⟨b, 2, none⟩ u2).setCell ⟨b, 3, none⟩ u3).setCell ⟨b, 4, none⟩ u4)
theorem st8_1_cells {w : World} {b c : Nat} {u0 u1 u2 u3 u4 s0 s1 s2 a0 a1 a2 a3 a4 r0 r1 r2 : Value} (hne : b ≠ c) (h0 : w.cell? ⟨b, 0, none⟩ = some a0) (h1 : w.cell? ⟨b, 1, none⟩ = some a1) (h2 : w.cell? ⟨b, 2, none⟩ = some a2) (h3 : w.cell? ⟨b, 3, none⟩ = some a3) (h4 : w.cell? ⟨b, 4, none⟩ = some a4) (g0 : w.cell? ⟨c, 0, none⟩ = some r0) (g1 : w.cell? ⟨c, 1, none⟩ = some r1) (g2 : w.cell? ⟨c, 2, none⟩ = some r2) :
    (st8_1 w b c u0 u1 u2 u3 u4 s0 s1 s2).cell? ⟨b, 0, none⟩ = some u0 ∧ (st8_1 w b c u0 u1 u2 u3 u4 s0 s1 s2).cell? ⟨b, 1, none⟩ = some u1 ∧ (st8_1 w b c u0 u1 u2 u3 u4 s0 s1 s2).cell? ⟨b, 2, none⟩ = some u2 ∧ (st8_1 w b c u0 u1 u2 u3 u4 s0 s1 s2).cell? ⟨b, 3, none⟩ = some u3 ∧ (st8_1 w b c u0 u1 u2 u3 u4 s0 s1 s2).cell? ⟨b, 4, none⟩ = some u4 ∧ (st8_1 w b c u0 u1 u2 u3 u4 s0 s1 s2).cell? ⟨c, 0, none⟩ = some s0 ∧ (st8_1 w b c u0 u1 u2 u3 u4 s0 s1 s2).cell? ⟨c, 1, none⟩ = some s1 ∧ (st8_1 w b c u0 u1 u2 u3 u4 s0 s1 s2).cell? ⟨c, 2, none⟩ = some s2 := by
  have hne' : c ≠ b := hne.symm
  unfold st8_1
  have nb01 : (b ≠ b ∨ 0 ≠ 1) := .inr (by decide)
  have nb02 : (b ≠ b ∨ 0 ≠ 2) := .inr (by decide)
  have nb03 : (b ≠ b ∨ 0 ≠ 3) := .inr (by decide)
  have nb04 : (b ≠ b ∨ 0 ≠ 4) := .inr (by decide)
  have nb10 : (b ≠ b ∨ 1 ≠ 0) := .inr (by decide)
  have nb12 : (b ≠ b ∨ 1 ≠ 2) := .inr (by decide)
  have nb13 : (b ≠ b ∨ 1 ≠ 3) := .inr (by decide)
  have nb14 : (b ≠ b ∨ 1 ≠ 4) := .inr (by decide)
  have nb20 : (b ≠ b ∨ 2 ≠ 0) := .inr (by decide)
  have nb21 : (b ≠ b ∨ 2 ≠ 1) := .inr (by decide)
  have nb23 : (b ≠ b ∨ 2 ≠ 3) := .inr (by decide)
  have nb24 : (b ≠ b ∨ 2 ≠ 4) := .inr (by decide)
  have nb30 : (b ≠ b ∨ 3 ≠ 0) := .inr (by decide)
  have nb31 : (b ≠ b ∨ 3 ≠ 1) := .inr (by decide)
  have nb32 : (b ≠ b ∨ 3 ≠ 2) := .inr (by decide)
  have nb34 : (b ≠ b ∨ 3 ≠ 4) := .inr (by decide)
  have nb40 : (b ≠ b ∨ 4 ≠ 0) := .inr (by decide)
  have nb41 : (b ≠ b ∨ 4 ≠ 1) := .inr (by decide)
  have nb42 : (b ≠ b ∨ 4 ≠ 2) := .inr (by decide)
  have nb43 : (b ≠ b ∨ 4 ≠ 3) := .inr (by decide)
  have nc01 : (c ≠ c ∨ 0 ≠ 1) := .inr (by decide)
  have nc02 : (c ≠ c ∨ 0 ≠ 2) := .inr (by decide)
  have nc10 : (c ≠ c ∨ 1 ≠ 0) := .inr (by decide)
  have nc12 : (c ≠ c ∨ 1 ≠ 2) := .inr (by decide)
  have nc20 : (c ≠ c ∨ 2 ≠ 0) := .inr (by decide)
  have nc21 : (c ≠ c ∨ 2 ≠ 1) := .inr (by decide)
  exact ⟨cs_off nb40 (cs_off nb30 (cs_off nb20 (cs_off nb10 (cs_same (cs_off (.inl hne') (cs_off (.inl hne') (cs_off (.inl hne') (h0)))))))),
    cs_off nb41 (cs_off nb31 (cs_off nb21 (cs_same (cs_off nb01 (cs_off (.inl hne') (cs_off (.inl hne') (cs_off (.inl hne') (h1)))))))),
    cs_off nb42 (cs_off nb32 (cs_same (cs_off nb12 (cs_off nb02 (cs_off (.inl hne') (cs_off (.inl hne') (cs_off (.inl hne') (h2)))))))),
    cs_off nb43 (cs_same (cs_off nb23 (cs_off nb13 (cs_off nb03 (cs_off (.inl hne') (cs_off (.inl hne') (cs_off (.inl hne') (h3)))))))),
    cs_same (cs_off nb34 (cs_off nb24 (cs_off nb14 (cs_off nb04 (cs_off (.inl hne') (cs_off (.inl hne') (cs_off (.inl hne') (h4)))))))),
    cs_off (.inl hne) (cs_off (.inl hne) (cs_off (.inl hne) (cs_off (.inl hne) (cs_off (.inl hne) (cs_off nc20 (cs_off nc10 (cs_same (g0)))))))),
    cs_off (.inl hne) (cs_off (.inl hne) (cs_off (.inl hne) (cs_off (.inl hne) (cs_off (.inl hne) (cs_off nc21 (cs_same (cs_off nc01 (g1)))))))),
    cs_off (.inl hne) (cs_off (.inl hne) (cs_off (.inl hne) (cs_off (.inl hne) (cs_off (.inl hne) (cs_same (cs_off nc12 (cs_off nc02 (g2))))))))⟩
theorem st8_1_below {n : Nat} {w0 w : World} {b c : Nat} {u0 u1 u2 u3 u4 s0 s1 s2 : Value} (h : Below n w0 w) (hb : n ≤ b) (hc : n ≤ c) : Below n w0 (st8_1 w b c u0 u1 u2 u3 u4 s0 s1 s2) := below_far (below_far (below_far (below_far (below_far (below_far (below_far (below_far (h) hc) hc) hc) hb) hb) hb) hb) hb
theorem st8_1_bools {n : Nat} {w : World} {b c : Nat} {v u0 u1 u2 u3 u4 s0 s1 s2 : Value} {l : List Bool} (h : BoolsAt (fun b => n ≤ b) w v l) (hb : b < n) (hc : c < n) : BoolsAt (fun b => n ≤ b) (st8_1 w b c u0 u1 u2 u3 u4 s0 s1 s2) v l := bools_far (bools_far (bools_far (bools_far (bools_far (bools_far (bools_far (bools_far (h) hc) hc) hc) hb) hb) hb) hb) hb
set_option maxHeartbeats 4000000 in
set_option maxRecDepth 100000 in
theorem rrd_lit (S : ByteArray) (i j : Nat) (e x n : Int) (v : Int) (w : World)
    (hn : ∀ w, Calls Tryd.prog 48 #[rdr S i e, .int .i64 n] w fun en w' => en = .returned (.tuple #[.int .i64 v, rdr S j x]) ∧ Below w.heap.size w w') :
    Calls Tryd.prog 19 #[rdr S i e, .agg #[.int .i64 0, .int .i64 n]] w fun en w' => en = .returned (.tuple #[.agg #[.int .i64 0, .int .i64 0, .int .i64 v, .string ⟨#[]⟩, .slice none 0 0], rdr S j x]) ∧ Below w.heap.size w w' := by
  unfold rdr at *
  have HN := Lib.hid hn
  clear hn
  go_enter Tryd.func19, Tryd.ntmps19
  go_wp2_with fail
  refine (HN.out _).mono ?_
  rintro en w1 ⟨rfl, hb⟩
  have hM := (mid_of (S := S) (i := i) (e := e) (k := 0) (n := n) hb j x 2 (.int .i64 v)).1
  obtain ⟨⟨⟨p0, p1, p2⟩, ⟨t0, t1, t2⟩⟩, _, _, ⟨⟨d0, d1, d2, d3, d4⟩, ⟨k0, k1, k2, k3, k4⟩⟩, hlt, _⟩ := v5_facts (S := S) (i := i) (e := e) (k := 0) (n := n) hb
  unfold st4 at hM
  have HM := Lib.hid hM
  clear hb hM
  go_wp2_with fail
  have hM := HM.out
  clear HM p0 p1 p2 t0 t1 t2 d0 d1 d2 d3 d4 k0 k1 k2 k3 k4 hlt
  generalize ((((w1.setCell ⟨w.heap.size + 1 + 1 + 1 + 1, 2, none⟩ (.int .i64 v)).setCell ⟨w.heap.size, 0, none⟩ (.string S)).setCell ⟨w.heap.size, 1, none⟩ (.int .i64 (j : Int))).setCell ⟨w.heap.size, 2, none⟩ (.int .i64 x)) = wr at hM ⊢
  obtain ⟨⟨p0, p1, p2⟩, ⟨d0, d1, d2, d3, d4⟩, ⟨⟨a0, a1, a2, a3, a4⟩, ⟨f0, f1, f2, f3, f4⟩⟩, ⟨⟨c0, c1, c2⟩, ⟨g0, g1, g2⟩⟩, hbel⟩ := hM
  simp only [if_true, if_false, Nat.reduceEqDiff] at d0 d1 d2 d3 d4
  have HB := Lib.hid hbel
  have H0 := Lib.hid (st8_0_cells (w := wr) (u0 := .int .i64 0) (u1 := .int .i64 0) (u2 := .int .i64 v) (u3 := .string ⟨#[]⟩) (u4 := .slice none 0 0) (s0 := .string S) (s1 := .int .i64 (j : Int)) (s2 := .int .i64 x) (show w.heap.size + 1 + 1 ≠ w.heap.size + 1 + 1 + 1 by omega) a0 a1 a2 a3 a4 c0 c1 c2)
  have L0 := Lib.hid (st8_0_below (b := w.heap.size + 1 + 1) (c := w.heap.size + 1 + 1 + 1) (u0 := .int .i64 0) (u1 := .int .i64 0) (u2 := .int .i64 v) (u3 := .string ⟨#[]⟩) (u4 := .slice none 0 0) (s0 := .string S) (s1 := .int .i64 (j : Int)) (s2 := .int .i64 x) hbel (by omega) (by omega))
  have H1 := Lib.hid (st8_1_cells (w := wr) (u0 := .int .i64 0) (u1 := .int .i64 0) (u2 := .int .i64 v) (u3 := .string ⟨#[]⟩) (u4 := .slice none 0 0) (s0 := .string S) (s1 := .int .i64 (j : Int)) (s2 := .int .i64 x) (show w.heap.size + 1 + 1 ≠ w.heap.size + 1 + 1 + 1 by omega) a0 a1 a2 a3 a4 c0 c1 c2)
  have L1 := Lib.hid (st8_1_below (b := w.heap.size + 1 + 1) (c := w.heap.size + 1 + 1 + 1) (u0 := .int .i64 0) (u1 := .int .i64 0) (u2 := .int .i64 v) (u3 := .string ⟨#[]⟩) (u4 := .slice none 0 0) (s0 := .string S) (s1 := .int .i64 (j : Int)) (s2 := .int .i64 x) hbel (by omega) (by omega))
  clear hbel
  go_region
  all_goals
    go_wp2
    clear p0 p1 p2 d0 d1 d2 d3 d4 a0 a1 a2 a3 a4 f0 f1 f2 f3 f4 c0 c1 c2 g0 g1 g2
    first
      | (rw [show ((((((((wr.setCell ⟨w.heap.size + 1 + 1, 0, none⟩ (.int .i64 0)).setCell ⟨w.heap.size + 1 + 1, 1, none⟩ (.int .i64 0)).setCell ⟨w.heap.size + 1 + 1, 2, none⟩ (.int .i64 v)).setCell ⟨w.heap.size + 1 + 1, 3, none⟩ (.string ⟨#[]⟩)).setCell ⟨w.heap.size + 1 + 1, 4, none⟩ (.slice none 0 0)).setCell ⟨w.heap.size + 1 + 1 + 1, 0, none⟩ (.string S)).setCell ⟨w.heap.size + 1 + 1 + 1, 1, none⟩ (.int .i64 (j : Int))).setCell ⟨w.heap.size + 1 + 1 + 1, 2, none⟩ (.int .i64 x)) = st8_0 wr (w.heap.size + 1 + 1) (w.heap.size + 1 + 1 + 1) (.int .i64 0) (.int .i64 0) (.int .i64 v) (.string ⟨#[]⟩) (.slice none 0 0) (.string S) (.int .i64 (j : Int)) (.int .i64 x) from rfl]
         obtain ⟨x0, x1, x2, x3, x4, y0, y1, y2⟩ := H0.out
         have hB := L0.out.drew
         refine bodyPost_ret (v := .tuple #[.agg #[.int .i64 0, .int .i64 0, .int .i64 v, .string ⟨#[]⟩, .slice none 0 0], .agg #[.string S, .int .i64 (j : Int), .int .i64 x]]) (by simp [results, Tryd.results19, go_sem, x0, x1, x2, x3, x4, y0, y1, y2]) rfl ?_
         exact ⟨rfl, hB⟩)
      | (rw [show ((((((((wr.setCell ⟨w.heap.size + 1 + 1 + 1, 0, none⟩ (.string S)).setCell ⟨w.heap.size + 1 + 1 + 1, 1, none⟩ (.int .i64 (j : Int))).setCell ⟨w.heap.size + 1 + 1 + 1, 2, none⟩ (.int .i64 x)).setCell ⟨w.heap.size + 1 + 1, 0, none⟩ (.int .i64 0)).setCell ⟨w.heap.size + 1 + 1, 1, none⟩ (.int .i64 0)).setCell ⟨w.heap.size + 1 + 1, 2, none⟩ (.int .i64 v)).setCell ⟨w.heap.size + 1 + 1, 3, none⟩ (.string ⟨#[]⟩)).setCell ⟨w.heap.size + 1 + 1, 4, none⟩ (.slice none 0 0)) = st8_1 wr (w.heap.size + 1 + 1) (w.heap.size + 1 + 1 + 1) (.int .i64 0) (.int .i64 0) (.int .i64 v) (.string ⟨#[]⟩) (.slice none 0 0) (.string S) (.int .i64 (j : Int)) (.int .i64 x) from rfl]
         obtain ⟨x0, x1, x2, x3, x4, y0, y1, y2⟩ := H1.out
         have hB := L1.out.drew
         refine bodyPost_ret (v := .tuple #[.agg #[.int .i64 0, .int .i64 0, .int .i64 v, .string ⟨#[]⟩, .slice none 0 0], .agg #[.string S, .int .i64 (j : Int), .int .i64 x]]) (by simp [results, Tryd.results19, go_sem, x0, x1, x2, x3, x4, y0, y1, y2]) rfl ?_
         exact ⟨rfl, hB⟩)

set_option maxHeartbeats 4000000 in
set_option maxRecDepth 100000 in
theorem rrd_sig (S : ByteArray) (i j : Nat) (e x n : Int) (v : Int) (w : World)
    (hn : ∀ w, Calls Tryd.prog 49 #[rdr S i e, .int .i64 n] w fun en w' => en = .returned (.tuple #[.int .i64 v, rdr S j x]) ∧ Below w.heap.size w w') :
    Calls Tryd.prog 19 #[rdr S i e, .agg #[.int .i64 1, .int .i64 n]] w fun en w' => en = .returned (.tuple #[.agg #[.int .i64 0, .int .i64 0, .int .i64 v, .string ⟨#[]⟩, .slice none 0 0], rdr S j x]) ∧ Below w.heap.size w w' := by
  unfold rdr at *
  have HN := Lib.hid hn
  clear hn
  go_enter Tryd.func19, Tryd.ntmps19
  go_wp2_with fail
  refine (HN.out _).mono ?_
  rintro en w1 ⟨rfl, hb⟩
  have hM := (mid_of (S := S) (i := i) (e := e) (k := 1) (n := n) hb j x 2 (.int .i64 v)).1
  obtain ⟨⟨⟨p0, p1, p2⟩, ⟨t0, t1, t2⟩⟩, _, _, ⟨⟨d0, d1, d2, d3, d4⟩, ⟨k0, k1, k2, k3, k4⟩⟩, hlt, _⟩ := v5_facts (S := S) (i := i) (e := e) (k := 1) (n := n) hb
  unfold st4 at hM
  have HM := Lib.hid hM
  clear hb hM
  go_wp2_with fail
  have hM := HM.out
  clear HM p0 p1 p2 t0 t1 t2 d0 d1 d2 d3 d4 k0 k1 k2 k3 k4 hlt
  generalize ((((w1.setCell ⟨w.heap.size + 1 + 1 + 1 + 1, 2, none⟩ (.int .i64 v)).setCell ⟨w.heap.size, 0, none⟩ (.string S)).setCell ⟨w.heap.size, 1, none⟩ (.int .i64 (j : Int))).setCell ⟨w.heap.size, 2, none⟩ (.int .i64 x)) = wr at hM ⊢
  obtain ⟨⟨p0, p1, p2⟩, ⟨d0, d1, d2, d3, d4⟩, ⟨⟨a0, a1, a2, a3, a4⟩, ⟨f0, f1, f2, f3, f4⟩⟩, ⟨⟨c0, c1, c2⟩, ⟨g0, g1, g2⟩⟩, hbel⟩ := hM
  simp only [if_true, if_false, Nat.reduceEqDiff] at d0 d1 d2 d3 d4
  have HB := Lib.hid hbel
  have H0 := Lib.hid (st8_0_cells (w := wr) (u0 := .int .i64 0) (u1 := .int .i64 0) (u2 := .int .i64 v) (u3 := .string ⟨#[]⟩) (u4 := .slice none 0 0) (s0 := .string S) (s1 := .int .i64 (j : Int)) (s2 := .int .i64 x) (show w.heap.size + 1 + 1 ≠ w.heap.size + 1 + 1 + 1 by omega) a0 a1 a2 a3 a4 c0 c1 c2)
  have L0 := Lib.hid (st8_0_below (b := w.heap.size + 1 + 1) (c := w.heap.size + 1 + 1 + 1) (u0 := .int .i64 0) (u1 := .int .i64 0) (u2 := .int .i64 v) (u3 := .string ⟨#[]⟩) (u4 := .slice none 0 0) (s0 := .string S) (s1 := .int .i64 (j : Int)) (s2 := .int .i64 x) hbel (by omega) (by omega))
  have H1 := Lib.hid (st8_1_cells (w := wr) (u0 := .int .i64 0) (u1 := .int .i64 0) (u2 := .int .i64 v) (u3 := .string ⟨#[]⟩) (u4 := .slice none 0 0) (s0 := .string S) (s1 := .int .i64 (j : Int)) (s2 := .int .i64 x) (show w.heap.size + 1 + 1 ≠ w.heap.size + 1 + 1 + 1 by omega) a0 a1 a2 a3 a4 c0 c1 c2)
  have L1 := Lib.hid (st8_1_below (b := w.heap.size + 1 + 1) (c := w.heap.size + 1 + 1 + 1) (u0 := .int .i64 0) (u1 := .int .i64 0) (u2 := .int .i64 v) (u3 := .string ⟨#[]⟩) (u4 := .slice none 0 0) (s0 := .string S) (s1 := .int .i64 (j : Int)) (s2 := .int .i64 x) hbel (by omega) (by omega))
  clear hbel
  go_region
  all_goals
    go_wp2
    clear p0 p1 p2 d0 d1 d2 d3 d4 a0 a1 a2 a3 a4 f0 f1 f2 f3 f4 c0 c1 c2 g0 g1 g2
    first
      | (rw [show ((((((((wr.setCell ⟨w.heap.size + 1 + 1, 0, none⟩ (.int .i64 0)).setCell ⟨w.heap.size + 1 + 1, 1, none⟩ (.int .i64 0)).setCell ⟨w.heap.size + 1 + 1, 2, none⟩ (.int .i64 v)).setCell ⟨w.heap.size + 1 + 1, 3, none⟩ (.string ⟨#[]⟩)).setCell ⟨w.heap.size + 1 + 1, 4, none⟩ (.slice none 0 0)).setCell ⟨w.heap.size + 1 + 1 + 1, 0, none⟩ (.string S)).setCell ⟨w.heap.size + 1 + 1 + 1, 1, none⟩ (.int .i64 (j : Int))).setCell ⟨w.heap.size + 1 + 1 + 1, 2, none⟩ (.int .i64 x)) = st8_0 wr (w.heap.size + 1 + 1) (w.heap.size + 1 + 1 + 1) (.int .i64 0) (.int .i64 0) (.int .i64 v) (.string ⟨#[]⟩) (.slice none 0 0) (.string S) (.int .i64 (j : Int)) (.int .i64 x) from rfl]
         obtain ⟨x0, x1, x2, x3, x4, y0, y1, y2⟩ := H0.out
         have hB := L0.out.drew
         refine bodyPost_ret (v := .tuple #[.agg #[.int .i64 0, .int .i64 0, .int .i64 v, .string ⟨#[]⟩, .slice none 0 0], .agg #[.string S, .int .i64 (j : Int), .int .i64 x]]) (by simp [results, Tryd.results19, go_sem, x0, x1, x2, x3, x4, y0, y1, y2]) rfl ?_
         exact ⟨rfl, hB⟩)
      | (rw [show ((((((((wr.setCell ⟨w.heap.size + 1 + 1 + 1, 0, none⟩ (.string S)).setCell ⟨w.heap.size + 1 + 1 + 1, 1, none⟩ (.int .i64 (j : Int))).setCell ⟨w.heap.size + 1 + 1 + 1, 2, none⟩ (.int .i64 x)).setCell ⟨w.heap.size + 1 + 1, 0, none⟩ (.int .i64 0)).setCell ⟨w.heap.size + 1 + 1, 1, none⟩ (.int .i64 0)).setCell ⟨w.heap.size + 1 + 1, 2, none⟩ (.int .i64 v)).setCell ⟨w.heap.size + 1 + 1, 3, none⟩ (.string ⟨#[]⟩)).setCell ⟨w.heap.size + 1 + 1, 4, none⟩ (.slice none 0 0)) = st8_1 wr (w.heap.size + 1 + 1) (w.heap.size + 1 + 1 + 1) (.int .i64 0) (.int .i64 0) (.int .i64 v) (.string ⟨#[]⟩) (.slice none 0 0) (.string S) (.int .i64 (j : Int)) (.int .i64 x) from rfl]
         obtain ⟨x0, x1, x2, x3, x4, y0, y1, y2⟩ := H1.out
         have hB := L1.out.drew
         refine bodyPost_ret (v := .tuple #[.agg #[.int .i64 0, .int .i64 0, .int .i64 v, .string ⟨#[]⟩, .slice none 0 0], .agg #[.string S, .int .i64 (j : Int), .int .i64 x]]) (by simp [results, Tryd.results19, go_sem, x0, x1, x2, x3, x4, y0, y1, y2]) rfl ?_
         exact ⟨rfl, hB⟩)

set_option maxHeartbeats 4000000 in
set_option maxRecDepth 100000 in
theorem rrd_num (S : ByteArray) (i j : Nat) (e x n : Int) (v : Int) (w : World)
    (hn : ∀ w, Calls Tryd.prog 50 #[rdr S i e] w fun en w' => en = .returned (.tuple #[.int .i64 v, rdr S j x]) ∧ Below w.heap.size w w') :
    Calls Tryd.prog 19 #[rdr S i e, .agg #[.int .i64 2, .int .i64 n]] w fun en w' => en = .returned (.tuple #[.agg #[.int .i64 0, .int .i64 0, .int .i64 v, .string ⟨#[]⟩, .slice none 0 0], rdr S j x]) ∧ Below w.heap.size w w' := by
  unfold rdr at *
  have HN := Lib.hid hn
  clear hn
  go_enter Tryd.func19, Tryd.ntmps19
  go_wp2_with fail
  refine (HN.out _).mono ?_
  rintro en w1 ⟨rfl, hb⟩
  have hM := (mid_of (S := S) (i := i) (e := e) (k := 2) (n := n) hb j x 2 (.int .i64 v)).1
  obtain ⟨⟨⟨p0, p1, p2⟩, ⟨t0, t1, t2⟩⟩, _, _, ⟨⟨d0, d1, d2, d3, d4⟩, ⟨k0, k1, k2, k3, k4⟩⟩, hlt, _⟩ := v5_facts (S := S) (i := i) (e := e) (k := 2) (n := n) hb
  unfold st4 at hM
  have HM := Lib.hid hM
  clear hb hM
  go_wp2_with fail
  have hM := HM.out
  clear HM p0 p1 p2 t0 t1 t2 d0 d1 d2 d3 d4 k0 k1 k2 k3 k4 hlt
  generalize ((((w1.setCell ⟨w.heap.size + 1 + 1 + 1 + 1, 2, none⟩ (.int .i64 v)).setCell ⟨w.heap.size, 0, none⟩ (.string S)).setCell ⟨w.heap.size, 1, none⟩ (.int .i64 (j : Int))).setCell ⟨w.heap.size, 2, none⟩ (.int .i64 x)) = wr at hM ⊢
  obtain ⟨⟨p0, p1, p2⟩, ⟨d0, d1, d2, d3, d4⟩, ⟨⟨a0, a1, a2, a3, a4⟩, ⟨f0, f1, f2, f3, f4⟩⟩, ⟨⟨c0, c1, c2⟩, ⟨g0, g1, g2⟩⟩, hbel⟩ := hM
  simp only [if_true, if_false, Nat.reduceEqDiff] at d0 d1 d2 d3 d4
  have HB := Lib.hid hbel
  have H0 := Lib.hid (st8_0_cells (w := wr) (u0 := .int .i64 0) (u1 := .int .i64 0) (u2 := .int .i64 v) (u3 := .string ⟨#[]⟩) (u4 := .slice none 0 0) (s0 := .string S) (s1 := .int .i64 (j : Int)) (s2 := .int .i64 x) (show w.heap.size + 1 + 1 ≠ w.heap.size + 1 + 1 + 1 by omega) a0 a1 a2 a3 a4 c0 c1 c2)
  have L0 := Lib.hid (st8_0_below (b := w.heap.size + 1 + 1) (c := w.heap.size + 1 + 1 + 1) (u0 := .int .i64 0) (u1 := .int .i64 0) (u2 := .int .i64 v) (u3 := .string ⟨#[]⟩) (u4 := .slice none 0 0) (s0 := .string S) (s1 := .int .i64 (j : Int)) (s2 := .int .i64 x) hbel (by omega) (by omega))
  have H1 := Lib.hid (st8_1_cells (w := wr) (u0 := .int .i64 0) (u1 := .int .i64 0) (u2 := .int .i64 v) (u3 := .string ⟨#[]⟩) (u4 := .slice none 0 0) (s0 := .string S) (s1 := .int .i64 (j : Int)) (s2 := .int .i64 x) (show w.heap.size + 1 + 1 ≠ w.heap.size + 1 + 1 + 1 by omega) a0 a1 a2 a3 a4 c0 c1 c2)
  have L1 := Lib.hid (st8_1_below (b := w.heap.size + 1 + 1) (c := w.heap.size + 1 + 1 + 1) (u0 := .int .i64 0) (u1 := .int .i64 0) (u2 := .int .i64 v) (u3 := .string ⟨#[]⟩) (u4 := .slice none 0 0) (s0 := .string S) (s1 := .int .i64 (j : Int)) (s2 := .int .i64 x) hbel (by omega) (by omega))
  clear hbel
  go_region
  all_goals
    go_wp2
    clear p0 p1 p2 d0 d1 d2 d3 d4 a0 a1 a2 a3 a4 f0 f1 f2 f3 f4 c0 c1 c2 g0 g1 g2
    first
      | (rw [show ((((((((wr.setCell ⟨w.heap.size + 1 + 1, 0, none⟩ (.int .i64 0)).setCell ⟨w.heap.size + 1 + 1, 1, none⟩ (.int .i64 0)).setCell ⟨w.heap.size + 1 + 1, 2, none⟩ (.int .i64 v)).setCell ⟨w.heap.size + 1 + 1, 3, none⟩ (.string ⟨#[]⟩)).setCell ⟨w.heap.size + 1 + 1, 4, none⟩ (.slice none 0 0)).setCell ⟨w.heap.size + 1 + 1 + 1, 0, none⟩ (.string S)).setCell ⟨w.heap.size + 1 + 1 + 1, 1, none⟩ (.int .i64 (j : Int))).setCell ⟨w.heap.size + 1 + 1 + 1, 2, none⟩ (.int .i64 x)) = st8_0 wr (w.heap.size + 1 + 1) (w.heap.size + 1 + 1 + 1) (.int .i64 0) (.int .i64 0) (.int .i64 v) (.string ⟨#[]⟩) (.slice none 0 0) (.string S) (.int .i64 (j : Int)) (.int .i64 x) from rfl]
         obtain ⟨x0, x1, x2, x3, x4, y0, y1, y2⟩ := H0.out
         have hB := L0.out.drew
         refine bodyPost_ret (v := .tuple #[.agg #[.int .i64 0, .int .i64 0, .int .i64 v, .string ⟨#[]⟩, .slice none 0 0], .agg #[.string S, .int .i64 (j : Int), .int .i64 x]]) (by simp [results, Tryd.results19, go_sem, x0, x1, x2, x3, x4, y0, y1, y2]) rfl ?_
         exact ⟨rfl, hB⟩)
      | (rw [show ((((((((wr.setCell ⟨w.heap.size + 1 + 1 + 1, 0, none⟩ (.string S)).setCell ⟨w.heap.size + 1 + 1 + 1, 1, none⟩ (.int .i64 (j : Int))).setCell ⟨w.heap.size + 1 + 1 + 1, 2, none⟩ (.int .i64 x)).setCell ⟨w.heap.size + 1 + 1, 0, none⟩ (.int .i64 0)).setCell ⟨w.heap.size + 1 + 1, 1, none⟩ (.int .i64 0)).setCell ⟨w.heap.size + 1 + 1, 2, none⟩ (.int .i64 v)).setCell ⟨w.heap.size + 1 + 1, 3, none⟩ (.string ⟨#[]⟩)).setCell ⟨w.heap.size + 1 + 1, 4, none⟩ (.slice none 0 0)) = st8_1 wr (w.heap.size + 1 + 1) (w.heap.size + 1 + 1 + 1) (.int .i64 0) (.int .i64 0) (.int .i64 v) (.string ⟨#[]⟩) (.slice none 0 0) (.string S) (.int .i64 (j : Int)) (.int .i64 x) from rfl]
         obtain ⟨x0, x1, x2, x3, x4, y0, y1, y2⟩ := H1.out
         have hB := L1.out.drew
         refine bodyPost_ret (v := .tuple #[.agg #[.int .i64 0, .int .i64 0, .int .i64 v, .string ⟨#[]⟩, .slice none 0 0], .agg #[.string S, .int .i64 (j : Int), .int .i64 x]]) (by simp [results, Tryd.results19, go_sem, x0, x1, x2, x3, x4, y0, y1, y2]) rfl ?_
         exact ⟨rfl, hB⟩)

set_option maxHeartbeats 4000000 in
set_option maxRecDepth 100000 in
theorem rrd_str (S : ByteArray) (i j : Nat) (e x n : Int) (v : ByteArray) (w : World)
    (hn : ∀ w, Calls Tryd.prog 51 #[rdr S i e, .int .i64 n] w fun en w' => en = .returned (.tuple #[.string v, rdr S j x]) ∧ Below w.heap.size w w') :
    Calls Tryd.prog 19 #[rdr S i e, .agg #[.int .i64 3, .int .i64 n]] w fun en w' => en = .returned (.tuple #[.agg #[.int .i64 0, .int .i64 0, .int .i64 0, .string v, .slice none 0 0], rdr S j x]) ∧ Below w.heap.size w w' := by
  unfold rdr at *
  have HN := Lib.hid hn
  clear hn
  go_enter Tryd.func19, Tryd.ntmps19
  go_wp2_with fail
  refine (HN.out _).mono ?_
  rintro en w1 ⟨rfl, hb⟩
  have hM := (mid_of (S := S) (i := i) (e := e) (k := 3) (n := n) hb j x 3 (.string v)).1
  obtain ⟨⟨⟨p0, p1, p2⟩, ⟨t0, t1, t2⟩⟩, _, _, ⟨⟨d0, d1, d2, d3, d4⟩, ⟨k0, k1, k2, k3, k4⟩⟩, hlt, _⟩ := v5_facts (S := S) (i := i) (e := e) (k := 3) (n := n) hb
  unfold st4 at hM
  have HM := Lib.hid hM
  clear hb hM
  go_wp2_with fail
  have hM := HM.out
  clear HM p0 p1 p2 t0 t1 t2 d0 d1 d2 d3 d4 k0 k1 k2 k3 k4 hlt
  generalize ((((w1.setCell ⟨w.heap.size + 1 + 1 + 1 + 1, 3, none⟩ (.string v)).setCell ⟨w.heap.size, 0, none⟩ (.string S)).setCell ⟨w.heap.size, 1, none⟩ (.int .i64 (j : Int))).setCell ⟨w.heap.size, 2, none⟩ (.int .i64 x)) = wr at hM ⊢
  obtain ⟨⟨p0, p1, p2⟩, ⟨d0, d1, d2, d3, d4⟩, ⟨⟨a0, a1, a2, a3, a4⟩, ⟨f0, f1, f2, f3, f4⟩⟩, ⟨⟨c0, c1, c2⟩, ⟨g0, g1, g2⟩⟩, hbel⟩ := hM
  simp only [if_true, if_false, Nat.reduceEqDiff] at d0 d1 d2 d3 d4
  have HB := Lib.hid hbel
  have H0 := Lib.hid (st8_0_cells (w := wr) (u0 := .int .i64 0) (u1 := .int .i64 0) (u2 := .int .i64 0) (u3 := .string v) (u4 := .slice none 0 0) (s0 := .string S) (s1 := .int .i64 (j : Int)) (s2 := .int .i64 x) (show w.heap.size + 1 + 1 ≠ w.heap.size + 1 + 1 + 1 by omega) a0 a1 a2 a3 a4 c0 c1 c2)
  have L0 := Lib.hid (st8_0_below (b := w.heap.size + 1 + 1) (c := w.heap.size + 1 + 1 + 1) (u0 := .int .i64 0) (u1 := .int .i64 0) (u2 := .int .i64 0) (u3 := .string v) (u4 := .slice none 0 0) (s0 := .string S) (s1 := .int .i64 (j : Int)) (s2 := .int .i64 x) hbel (by omega) (by omega))
  have H1 := Lib.hid (st8_1_cells (w := wr) (u0 := .int .i64 0) (u1 := .int .i64 0) (u2 := .int .i64 0) (u3 := .string v) (u4 := .slice none 0 0) (s0 := .string S) (s1 := .int .i64 (j : Int)) (s2 := .int .i64 x) (show w.heap.size + 1 + 1 ≠ w.heap.size + 1 + 1 + 1 by omega) a0 a1 a2 a3 a4 c0 c1 c2)
  have L1 := Lib.hid (st8_1_below (b := w.heap.size + 1 + 1) (c := w.heap.size + 1 + 1 + 1) (u0 := .int .i64 0) (u1 := .int .i64 0) (u2 := .int .i64 0) (u3 := .string v) (u4 := .slice none 0 0) (s0 := .string S) (s1 := .int .i64 (j : Int)) (s2 := .int .i64 x) hbel (by omega) (by omega))
  clear hbel
  go_region
  all_goals
    go_wp2
    clear p0 p1 p2 d0 d1 d2 d3 d4 a0 a1 a2 a3 a4 f0 f1 f2 f3 f4 c0 c1 c2 g0 g1 g2
    first
      | (rw [show ((((((((wr.setCell ⟨w.heap.size + 1 + 1, 0, none⟩ (.int .i64 0)).setCell ⟨w.heap.size + 1 + 1, 1, none⟩ (.int .i64 0)).setCell ⟨w.heap.size + 1 + 1, 2, none⟩ (.int .i64 0)).setCell ⟨w.heap.size + 1 + 1, 3, none⟩ (.string v)).setCell ⟨w.heap.size + 1 + 1, 4, none⟩ (.slice none 0 0)).setCell ⟨w.heap.size + 1 + 1 + 1, 0, none⟩ (.string S)).setCell ⟨w.heap.size + 1 + 1 + 1, 1, none⟩ (.int .i64 (j : Int))).setCell ⟨w.heap.size + 1 + 1 + 1, 2, none⟩ (.int .i64 x)) = st8_0 wr (w.heap.size + 1 + 1) (w.heap.size + 1 + 1 + 1) (.int .i64 0) (.int .i64 0) (.int .i64 0) (.string v) (.slice none 0 0) (.string S) (.int .i64 (j : Int)) (.int .i64 x) from rfl]
         obtain ⟨x0, x1, x2, x3, x4, y0, y1, y2⟩ := H0.out
         have hB := L0.out.drew
         refine bodyPost_ret (v := .tuple #[.agg #[.int .i64 0, .int .i64 0, .int .i64 0, .string v, .slice none 0 0], .agg #[.string S, .int .i64 (j : Int), .int .i64 x]]) (by simp [results, Tryd.results19, go_sem, x0, x1, x2, x3, x4, y0, y1, y2]) rfl ?_
         exact ⟨rfl, hB⟩)
      | (rw [show ((((((((wr.setCell ⟨w.heap.size + 1 + 1 + 1, 0, none⟩ (.string S)).setCell ⟨w.heap.size + 1 + 1 + 1, 1, none⟩ (.int .i64 (j : Int))).setCell ⟨w.heap.size + 1 + 1 + 1, 2, none⟩ (.int .i64 x)).setCell ⟨w.heap.size + 1 + 1, 0, none⟩ (.int .i64 0)).setCell ⟨w.heap.size + 1 + 1, 1, none⟩ (.int .i64 0)).setCell ⟨w.heap.size + 1 + 1, 2, none⟩ (.int .i64 0)).setCell ⟨w.heap.size + 1 + 1, 3, none⟩ (.string v)).setCell ⟨w.heap.size + 1 + 1, 4, none⟩ (.slice none 0 0)) = st8_1 wr (w.heap.size + 1 + 1) (w.heap.size + 1 + 1 + 1) (.int .i64 0) (.int .i64 0) (.int .i64 0) (.string v) (.slice none 0 0) (.string S) (.int .i64 (j : Int)) (.int .i64 x) from rfl]
         obtain ⟨x0, x1, x2, x3, x4, y0, y1, y2⟩ := H1.out
         have hB := L1.out.drew
         refine bodyPost_ret (v := .tuple #[.agg #[.int .i64 0, .int .i64 0, .int .i64 0, .string v, .slice none 0 0], .agg #[.string S, .int .i64 (j : Int), .int .i64 x]]) (by simp [results, Tryd.results19, go_sem, x0, x1, x2, x3, x4, y0, y1, y2]) rfl ?_
         exact ⟨rfl, hB⟩)

def BitsPost (w : World) (S : ByteArray) (j : Nat) (x : Int) (L : List Bool) (en : Ending) (w' : World) : Prop :=
  ∃ a ll lc, en = .returned (.tuple #[.agg #[.int .i64 0, .int .i64 0, .int .i64 0, .string ⟨#[]⟩, .slice a ll lc], .agg #[.string S, .int .i64 (j : Int), .int .i64 x]]) ∧ Below w.heap.size w w' ∧ BoolsAt (fun b => w.heap.size ≤ b) w' (.slice a ll lc) L
set_option maxHeartbeats 4000000 in
set_option maxRecDepth 100000 in
theorem rrd_bit (S : ByteArray) (i j : Nat) (e x n : Int) (L : List Bool) (w : World)
    (hn : ∀ w, Calls Tryd.prog 52 #[rdr S i e, .int .i64 n] w fun en w' => ∃ a ll lc, en = .returned (.tuple #[.slice a ll lc, rdr S j x]) ∧ Below w.heap.size w w' ∧ BoolsAt (fun b => w.heap.size ≤ b) w' (.slice a ll lc) L) :
    Calls Tryd.prog 19 #[rdr S i e, .agg #[.int .i64 4, .int .i64 n]] w fun en w' => BitsPost w S j x L en w' := by
  unfold rdr at *
  have HN := Lib.hid hn
  clear hn
  go_enter Tryd.func19, Tryd.ntmps19
  go_wp2_with fail
  refine (HN.out _).mono ?_
  rintro en w1 ⟨a, ll, lc, rfl, hb, hbo⟩
  have HBO := Lib.hid hbo
  clear hbo
  have HSZ : Hid (w.heap.size + 1 + 1 + 1 + 1 + 1 ≤ (V5 w S i e 4 n).heap.size) := by show _ ≤ _; simp [V5]
  have hM := (mid_of (S := S) (i := i) (e := e) (k := 4) (n := n) hb j x 4 (.slice a ll lc)).1
  obtain ⟨⟨⟨p0, p1, p2⟩, ⟨t0, t1, t2⟩⟩, _, _, ⟨⟨d0, d1, d2, d3, d4⟩, ⟨k0, k1, k2, k3, k4⟩⟩, hlt, _⟩ := v5_facts (S := S) (i := i) (e := e) (k := 4) (n := n) hb
  unfold st4 at hM
  have HM := Lib.hid hM
  clear hb hM
  go_wp2_with fail
  have hM := HM.out
  clear HM p0 p1 p2 t0 t1 t2 d0 d1 d2 d3 d4 k0 k1 k2 k3 k4 hlt
  have HBW : Hid (BoolsAt (fun b => w.heap.size + 1 + 1 + 1 + 1 + 1 ≤ b) ((((w1.setCell ⟨w.heap.size + 1 + 1 + 1 + 1, 4, none⟩ (.slice a ll lc)).setCell ⟨w.heap.size, 0, none⟩ (.string S)).setCell ⟨w.heap.size, 1, none⟩ (.int .i64 (j : Int))).setCell ⟨w.heap.size, 2, none⟩ (.int .i64 x)) (.slice a ll lc) L) := by
    have h0 : BoolsAt (fun b => w.heap.size + 1 + 1 + 1 + 1 + 1 ≤ b) w1 (.slice a ll lc) L := HBO.out.mono fun b hb => Nat.le_trans HSZ.out hb
    exact bools_far (bools_far (bools_far (bools_far h0 (by omega)) (by omega)) (by omega)) (by omega)
  clear HBO HSZ
  generalize ((((w1.setCell ⟨w.heap.size + 1 + 1 + 1 + 1, 4, none⟩ (.slice a ll lc)).setCell ⟨w.heap.size, 0, none⟩ (.string S)).setCell ⟨w.heap.size, 1, none⟩ (.int .i64 (j : Int))).setCell ⟨w.heap.size, 2, none⟩ (.int .i64 x)) = wr at HBW hM ⊢
  obtain ⟨⟨p0, p1, p2⟩, ⟨d0, d1, d2, d3, d4⟩, ⟨⟨a0, a1, a2, a3, a4⟩, ⟨f0, f1, f2, f3, f4⟩⟩, ⟨⟨c0, c1, c2⟩, ⟨g0, g1, g2⟩⟩, hbel⟩ := hM
  simp only [if_true, if_false, Nat.reduceEqDiff] at d0 d1 d2 d3 d4
  have HB := Lib.hid hbel
  have H0 := Lib.hid (st8_0_cells (w := wr) (u0 := .int .i64 0) (u1 := .int .i64 0) (u2 := .int .i64 0) (u3 := .string ⟨#[]⟩) (u4 := .slice a ll lc) (s0 := .string S) (s1 := .int .i64 (j : Int)) (s2 := .int .i64 x) (show w.heap.size + 1 + 1 ≠ w.heap.size + 1 + 1 + 1 by omega) a0 a1 a2 a3 a4 c0 c1 c2)
  have L0 := Lib.hid (st8_0_below (b := w.heap.size + 1 + 1) (c := w.heap.size + 1 + 1 + 1) (u0 := .int .i64 0) (u1 := .int .i64 0) (u2 := .int .i64 0) (u3 := .string ⟨#[]⟩) (u4 := .slice a ll lc) (s0 := .string S) (s1 := .int .i64 (j : Int)) (s2 := .int .i64 x) hbel (by omega) (by omega))
  have M0 := Lib.hid (st8_0_bools (b := w.heap.size + 1 + 1) (c := w.heap.size + 1 + 1 + 1) (u0 := .int .i64 0) (u1 := .int .i64 0) (u2 := .int .i64 0) (u3 := .string ⟨#[]⟩) (u4 := .slice a ll lc) (s0 := .string S) (s1 := .int .i64 (j : Int)) (s2 := .int .i64 x) HBW.out (by omega) (by omega))
  have H1 := Lib.hid (st8_1_cells (w := wr) (u0 := .int .i64 0) (u1 := .int .i64 0) (u2 := .int .i64 0) (u3 := .string ⟨#[]⟩) (u4 := .slice a ll lc) (s0 := .string S) (s1 := .int .i64 (j : Int)) (s2 := .int .i64 x) (show w.heap.size + 1 + 1 ≠ w.heap.size + 1 + 1 + 1 by omega) a0 a1 a2 a3 a4 c0 c1 c2)
  have L1 := Lib.hid (st8_1_below (b := w.heap.size + 1 + 1) (c := w.heap.size + 1 + 1 + 1) (u0 := .int .i64 0) (u1 := .int .i64 0) (u2 := .int .i64 0) (u3 := .string ⟨#[]⟩) (u4 := .slice a ll lc) (s0 := .string S) (s1 := .int .i64 (j : Int)) (s2 := .int .i64 x) hbel (by omega) (by omega))
  have M1 := Lib.hid (st8_1_bools (b := w.heap.size + 1 + 1) (c := w.heap.size + 1 + 1 + 1) (u0 := .int .i64 0) (u1 := .int .i64 0) (u2 := .int .i64 0) (u3 := .string ⟨#[]⟩) (u4 := .slice a ll lc) (s0 := .string S) (s1 := .int .i64 (j : Int)) (s2 := .int .i64 x) HBW.out (by omega) (by omega))
  clear hbel
  go_region
  all_goals
    go_wp2
    clear p0 p1 p2 d0 d1 d2 d3 d4 a0 a1 a2 a3 a4 f0 f1 f2 f3 f4 c0 c1 c2 g0 g1 g2
    first
      | (rw [show ((((((((wr.setCell ⟨w.heap.size + 1 + 1, 0, none⟩ (.int .i64 0)).setCell ⟨w.heap.size + 1 + 1, 1, none⟩ (.int .i64 0)).setCell ⟨w.heap.size + 1 + 1, 2, none⟩ (.int .i64 0)).setCell ⟨w.heap.size + 1 + 1, 3, none⟩ (.string ⟨#[]⟩)).setCell ⟨w.heap.size + 1 + 1, 4, none⟩ (.slice a ll lc)).setCell ⟨w.heap.size + 1 + 1 + 1, 0, none⟩ (.string S)).setCell ⟨w.heap.size + 1 + 1 + 1, 1, none⟩ (.int .i64 (j : Int))).setCell ⟨w.heap.size + 1 + 1 + 1, 2, none⟩ (.int .i64 x)) = st8_0 wr (w.heap.size + 1 + 1) (w.heap.size + 1 + 1 + 1) (.int .i64 0) (.int .i64 0) (.int .i64 0) (.string ⟨#[]⟩) (.slice a ll lc) (.string S) (.int .i64 (j : Int)) (.int .i64 x) from rfl]
         obtain ⟨x0, x1, x2, x3, x4, y0, y1, y2⟩ := H0.out
         have hB := L0.out.drew
         have hV : BoolsAt (fun b => w.heap.size ≤ b) (st8_0 wr (w.heap.size + 1 + 1) (w.heap.size + 1 + 1 + 1) (.int .i64 0) (.int .i64 0) (.int .i64 0) (.string ⟨#[]⟩) (.slice a ll lc) (.string S) (.int .i64 (j : Int)) (.int .i64 x)).drew (.slice a ll lc) L := bools_drew <| M0.out.mono fun b hb => by have hb : w.heap.size + 1 + 1 + 1 + 1 + 1 ≤ b := hb; show w.heap.size ≤ b; omega
         refine bodyPost_ret (v := .tuple #[.agg #[.int .i64 0, .int .i64 0, .int .i64 0, .string ⟨#[]⟩, .slice a ll lc], .agg #[.string S, .int .i64 (j : Int), .int .i64 x]]) (by simp [results, Tryd.results19, go_sem, x0, x1, x2, x3, x4, y0, y1, y2]) rfl ?_
         exact ⟨a, ll, lc, rfl, hB, hV⟩)
      | (rw [show ((((((((wr.setCell ⟨w.heap.size + 1 + 1 + 1, 0, none⟩ (.string S)).setCell ⟨w.heap.size + 1 + 1 + 1, 1, none⟩ (.int .i64 (j : Int))).setCell ⟨w.heap.size + 1 + 1 + 1, 2, none⟩ (.int .i64 x)).setCell ⟨w.heap.size + 1 + 1, 0, none⟩ (.int .i64 0)).setCell ⟨w.heap.size + 1 + 1, 1, none⟩ (.int .i64 0)).setCell ⟨w.heap.size + 1 + 1, 2, none⟩ (.int .i64 0)).setCell ⟨w.heap.size + 1 + 1, 3, none⟩ (.string ⟨#[]⟩)).setCell ⟨w.heap.size + 1 + 1, 4, none⟩ (.slice a ll lc)) = st8_1 wr (w.heap.size + 1 + 1) (w.heap.size + 1 + 1 + 1) (.int .i64 0) (.int .i64 0) (.int .i64 0) (.string ⟨#[]⟩) (.slice a ll lc) (.string S) (.int .i64 (j : Int)) (.int .i64 x) from rfl]
         obtain ⟨x0, x1, x2, x3, x4, y0, y1, y2⟩ := H1.out
         have hB := L1.out.drew
         have hV : BoolsAt (fun b => w.heap.size ≤ b) (st8_1 wr (w.heap.size + 1 + 1) (w.heap.size + 1 + 1 + 1) (.int .i64 0) (.int .i64 0) (.int .i64 0) (.string ⟨#[]⟩) (.slice a ll lc) (.string S) (.int .i64 (j : Int)) (.int .i64 x)).drew (.slice a ll lc) L := bools_drew <| M1.out.mono fun b hb => by have hb : w.heap.size + 1 + 1 + 1 + 1 + 1 ≤ b := hb; show w.heap.size ≤ b; omega
         refine bodyPost_ret (v := .tuple #[.agg #[.int .i64 0, .int .i64 0, .int .i64 0, .string ⟨#[]⟩, .slice a ll lc], .agg #[.string S, .int .i64 (j : Int), .int .i64 x]]) (by simp [results, Tryd.results19, go_sem, x0, x1, x2, x3, x4, y0, y1, y2]) rfl ?_
         exact ⟨a, ll, lc, rfl, hB, hV⟩)

set_option maxHeartbeats 4000000 in
set_option maxRecDepth 100000 in
theorem rrd_cnt (S : ByteArray) (i j : Nat) (e x n : Int) (v : Int) (w : World)
    (hn : ∀ w, Calls Tryd.prog 53 #[rdr S i e, .int .i64 n] w fun en w' => en = .returned (.tuple #[.int .i64 v, rdr S j x]) ∧ Below w.heap.size w w') :
    Calls Tryd.prog 19 #[rdr S i e, .agg #[.int .i64 6, .int .i64 n]] w fun en w' => en = .returned (.tuple #[.agg #[.int .i64 0, .int .i64 0, .int .i64 v, .string ⟨#[]⟩, .slice none 0 0], rdr S j x]) ∧ Below w.heap.size w w' := by
  unfold rdr at *
  have HN := Lib.hid hn
  clear hn
  go_enter Tryd.func19, Tryd.ntmps19
  go_wp2_with fail
  refine (HN.out _).mono ?_
  rintro en w1 ⟨rfl, hb⟩
  have hM := (mid_of (S := S) (i := i) (e := e) (k := 6) (n := n) hb j x 2 (.int .i64 v)).2
  obtain ⟨⟨⟨p0, p1, p2⟩, ⟨t0, t1, t2⟩⟩, _, _, ⟨⟨d0, d1, d2, d3, d4⟩, ⟨k0, k1, k2, k3, k4⟩⟩, hlt, _⟩ := v5_facts (S := S) (i := i) (e := e) (k := 6) (n := n) hb
  unfold st4' at hM
  have HM := Lib.hid hM
  clear hb hM
  go_wp2_with fail
  have hM := HM.out
  clear HM p0 p1 p2 t0 t1 t2 d0 d1 d2 d3 d4 k0 k1 k2 k3 k4 hlt
  generalize ((((w1.setCell ⟨w.heap.size, 0, none⟩ (.string S)).setCell ⟨w.heap.size, 1, none⟩ (.int .i64 (j : Int))).setCell ⟨w.heap.size, 2, none⟩ (.int .i64 x)).setCell ⟨w.heap.size + 1 + 1 + 1 + 1, 2, none⟩ (.int .i64 v)) = wr at hM ⊢
  obtain ⟨⟨p0, p1, p2⟩, ⟨d0, d1, d2, d3, d4⟩, ⟨⟨a0, a1, a2, a3, a4⟩, ⟨f0, f1, f2, f3, f4⟩⟩, ⟨⟨c0, c1, c2⟩, ⟨g0, g1, g2⟩⟩, hbel⟩ := hM
  simp only [if_true, if_false, Nat.reduceEqDiff] at d0 d1 d2 d3 d4
  have HB := Lib.hid hbel
  have H0 := Lib.hid (st8_0_cells (w := wr) (u0 := .int .i64 0) (u1 := .int .i64 0) (u2 := .int .i64 v) (u3 := .string ⟨#[]⟩) (u4 := .slice none 0 0) (s0 := .string S) (s1 := .int .i64 (j : Int)) (s2 := .int .i64 x) (show w.heap.size + 1 + 1 ≠ w.heap.size + 1 + 1 + 1 by omega) a0 a1 a2 a3 a4 c0 c1 c2)
  have L0 := Lib.hid (st8_0_below (b := w.heap.size + 1 + 1) (c := w.heap.size + 1 + 1 + 1) (u0 := .int .i64 0) (u1 := .int .i64 0) (u2 := .int .i64 v) (u3 := .string ⟨#[]⟩) (u4 := .slice none 0 0) (s0 := .string S) (s1 := .int .i64 (j : Int)) (s2 := .int .i64 x) hbel (by omega) (by omega))
  have H1 := Lib.hid (st8_1_cells (w := wr) (u0 := .int .i64 0) (u1 := .int .i64 0) (u2 := .int .i64 v) (u3 := .string ⟨#[]⟩) (u4 := .slice none 0 0) (s0 := .string S) (s1 := .int .i64 (j : Int)) (s2 := .int .i64 x) (show w.heap.size + 1 + 1 ≠ w.heap.size + 1 + 1 + 1 by omega) a0 a1 a2 a3 a4 c0 c1 c2)
  have L1 := Lib.hid (st8_1_below (b := w.heap.size + 1 + 1) (c := w.heap.size + 1 + 1 + 1) (u0 := .int .i64 0) (u1 := .int .i64 0) (u2 := .int .i64 v) (u3 := .string ⟨#[]⟩) (u4 := .slice none 0 0) (s0 := .string S) (s1 := .int .i64 (j : Int)) (s2 := .int .i64 x) hbel (by omega) (by omega))
  clear hbel
  go_region
  all_goals
    go_wp2
    clear p0 p1 p2 d0 d1 d2 d3 d4 a0 a1 a2 a3 a4 f0 f1 f2 f3 f4 c0 c1 c2 g0 g1 g2
    first
      | (rw [show ((((((((wr.setCell ⟨w.heap.size + 1 + 1, 0, none⟩ (.int .i64 0)).setCell ⟨w.heap.size + 1 + 1, 1, none⟩ (.int .i64 0)).setCell ⟨w.heap.size + 1 + 1, 2, none⟩ (.int .i64 v)).setCell ⟨w.heap.size + 1 + 1, 3, none⟩ (.string ⟨#[]⟩)).setCell ⟨w.heap.size + 1 + 1, 4, none⟩ (.slice none 0 0)).setCell ⟨w.heap.size + 1 + 1 + 1, 0, none⟩ (.string S)).setCell ⟨w.heap.size + 1 + 1 + 1, 1, none⟩ (.int .i64 (j : Int))).setCell ⟨w.heap.size + 1 + 1 + 1, 2, none⟩ (.int .i64 x)) = st8_0 wr (w.heap.size + 1 + 1) (w.heap.size + 1 + 1 + 1) (.int .i64 0) (.int .i64 0) (.int .i64 v) (.string ⟨#[]⟩) (.slice none 0 0) (.string S) (.int .i64 (j : Int)) (.int .i64 x) from rfl]
         obtain ⟨x0, x1, x2, x3, x4, y0, y1, y2⟩ := H0.out
         have hB := L0.out.drew
         refine bodyPost_ret (v := .tuple #[.agg #[.int .i64 0, .int .i64 0, .int .i64 v, .string ⟨#[]⟩, .slice none 0 0], .agg #[.string S, .int .i64 (j : Int), .int .i64 x]]) (by simp [results, Tryd.results19, go_sem, x0, x1, x2, x3, x4, y0, y1, y2]) rfl ?_
         exact ⟨rfl, hB⟩)
      | (rw [show ((((((((wr.setCell ⟨w.heap.size + 1 + 1 + 1, 0, none⟩ (.string S)).setCell ⟨w.heap.size + 1 + 1 + 1, 1, none⟩ (.int .i64 (j : Int))).setCell ⟨w.heap.size + 1 + 1 + 1, 2, none⟩ (.int .i64 x)).setCell ⟨w.heap.size + 1 + 1, 0, none⟩ (.int .i64 0)).setCell ⟨w.heap.size + 1 + 1, 1, none⟩ (.int .i64 0)).setCell ⟨w.heap.size + 1 + 1, 2, none⟩ (.int .i64 v)).setCell ⟨w.heap.size + 1 + 1, 3, none⟩ (.string ⟨#[]⟩)).setCell ⟨w.heap.size + 1 + 1, 4, none⟩ (.slice none 0 0)) = st8_1 wr (w.heap.size + 1 + 1) (w.heap.size + 1 + 1 + 1) (.int .i64 0) (.int .i64 0) (.int .i64 v) (.string ⟨#[]⟩) (.slice none 0 0) (.string S) (.int .i64 (j : Int)) (.int .i64 x) from rfl]
         obtain ⟨x0, x1, x2, x3, x4, y0, y1, y2⟩ := H1.out
         have hB := L1.out.drew
         refine bodyPost_ret (v := .tuple #[.agg #[.int .i64 0, .int .i64 0, .int .i64 v, .string ⟨#[]⟩, .slice none 0 0], .agg #[.string S, .int .i64 (j : Int), .int .i64 x]]) (by simp [results, Tryd.results19, go_sem, x0, x1, x2, x3, x4, y0, y1, y2]) rfl ?_
         exact ⟨rfl, hB⟩)

set_option maxHeartbeats 4000000 in
set_option maxRecDepth 100000 in
theorem rrd_raw (S : ByteArray) (i j : Nat) (e x n : Int) (v : ByteArray) (w : World) (k : Int) (hk0 : k ≠ 0) (hk1 : k ≠ 1) (hk2 : k ≠ 2) (hk3 : k ≠ 3) (hk4 : k ≠ 4) (hk6 : k ≠ 6)
    (hn : ∀ w, Calls Tryd.prog 54 #[rdr S i e, .int .i64 n] w fun en w' => en = .returned (.tuple #[.string v, rdr S j x]) ∧ Below w.heap.size w w') :
    Calls Tryd.prog 19 #[rdr S i e, .agg #[.int .i64 k, .int .i64 n]] w fun en w' => en = .returned (.tuple #[.agg #[.int .i64 0, .int .i64 0, .int .i64 0, .string v, .slice none 0 0], rdr S j x]) ∧ Below w.heap.size w w' := by
  have q0 : (k == 0) = false := by rw [beq_eq_false_iff_ne]; exact hk0
  have q1 : (k == 1) = false := by rw [beq_eq_false_iff_ne]; exact hk1
  have q2 : (k == 2) = false := by rw [beq_eq_false_iff_ne]; exact hk2
  have q3 : (k == 3) = false := by rw [beq_eq_false_iff_ne]; exact hk3
  have q4 : (k == 4) = false := by rw [beq_eq_false_iff_ne]; exact hk4
  have q6 : (k == 6) = false := by rw [beq_eq_false_iff_ne]; exact hk6
  clear hk0 hk1 hk2 hk3 hk4 hk6
  unfold rdr at *
  have HN := Lib.hid hn
  clear hn
  go_enter Tryd.func19, Tryd.ntmps19
  go_wp2_with fail
  refine (HN.out _).mono ?_
  rintro en w1 ⟨rfl, hb⟩
  have hM := (mid_of (S := S) (i := i) (e := e) (k := k) (n := n) hb j x 3 (.string v)).1
  obtain ⟨⟨⟨p0, p1, p2⟩, ⟨t0, t1, t2⟩⟩, _, _, ⟨⟨d0, d1, d2, d3, d4⟩, ⟨k0, k1, k2, k3, k4⟩⟩, hlt, _⟩ := v5_facts (S := S) (i := i) (e := e) (k := k) (n := n) hb
  unfold st4 at hM
  have HM := Lib.hid hM
  clear hb hM
  go_wp2_with fail
  have hM := HM.out
  clear HM p0 p1 p2 t0 t1 t2 d0 d1 d2 d3 d4 k0 k1 k2 k3 k4 hlt
  generalize ((((w1.setCell ⟨w.heap.size + 1 + 1 + 1 + 1, 3, none⟩ (.string v)).setCell ⟨w.heap.size, 0, none⟩ (.string S)).setCell ⟨w.heap.size, 1, none⟩ (.int .i64 (j : Int))).setCell ⟨w.heap.size, 2, none⟩ (.int .i64 x)) = wr at hM ⊢
  obtain ⟨⟨p0, p1, p2⟩, ⟨d0, d1, d2, d3, d4⟩, ⟨⟨a0, a1, a2, a3, a4⟩, ⟨f0, f1, f2, f3, f4⟩⟩, ⟨⟨c0, c1, c2⟩, ⟨g0, g1, g2⟩⟩, hbel⟩ := hM
  simp only [if_true, if_false, Nat.reduceEqDiff] at d0 d1 d2 d3 d4
  have HB := Lib.hid hbel
  have H0 := Lib.hid (st8_0_cells (w := wr) (u0 := .int .i64 0) (u1 := .int .i64 0) (u2 := .int .i64 0) (u3 := .string v) (u4 := .slice none 0 0) (s0 := .string S) (s1 := .int .i64 (j : Int)) (s2 := .int .i64 x) (show w.heap.size + 1 + 1 ≠ w.heap.size + 1 + 1 + 1 by omega) a0 a1 a2 a3 a4 c0 c1 c2)
  have L0 := Lib.hid (st8_0_below (b := w.heap.size + 1 + 1) (c := w.heap.size + 1 + 1 + 1) (u0 := .int .i64 0) (u1 := .int .i64 0) (u2 := .int .i64 0) (u3 := .string v) (u4 := .slice none 0 0) (s0 := .string S) (s1 := .int .i64 (j : Int)) (s2 := .int .i64 x) hbel (by omega) (by omega))
  have H1 := Lib.hid (st8_1_cells (w := wr) (u0 := .int .i64 0) (u1 := .int .i64 0) (u2 := .int .i64 0) (u3 := .string v) (u4 := .slice none 0 0) (s0 := .string S) (s1 := .int .i64 (j : Int)) (s2 := .int .i64 x) (show w.heap.size + 1 + 1 ≠ w.heap.size + 1 + 1 + 1 by omega) a0 a1 a2 a3 a4 c0 c1 c2)
  have L1 := Lib.hid (st8_1_below (b := w.heap.size + 1 + 1) (c := w.heap.size + 1 + 1 + 1) (u0 := .int .i64 0) (u1 := .int .i64 0) (u2 := .int .i64 0) (u3 := .string v) (u4 := .slice none 0 0) (s0 := .string S) (s1 := .int .i64 (j : Int)) (s2 := .int .i64 x) hbel (by omega) (by omega))
  clear hbel
  go_region
  all_goals
    go_wp2
    clear p0 p1 p2 d0 d1 d2 d3 d4 a0 a1 a2 a3 a4 f0 f1 f2 f3 f4 c0 c1 c2 g0 g1 g2
    first
      | (rw [show ((((((((wr.setCell ⟨w.heap.size + 1 + 1, 0, none⟩ (.int .i64 0)).setCell ⟨w.heap.size + 1 + 1, 1, none⟩ (.int .i64 0)).setCell ⟨w.heap.size + 1 + 1, 2, none⟩ (.int .i64 0)).setCell ⟨w.heap.size + 1 + 1, 3, none⟩ (.string v)).setCell ⟨w.heap.size + 1 + 1, 4, none⟩ (.slice none 0 0)).setCell ⟨w.heap.size + 1 + 1 + 1, 0, none⟩ (.string S)).setCell ⟨w.heap.size + 1 + 1 + 1, 1, none⟩ (.int .i64 (j : Int))).setCell ⟨w.heap.size + 1 + 1 + 1, 2, none⟩ (.int .i64 x)) = st8_0 wr (w.heap.size + 1 + 1) (w.heap.size + 1 + 1 + 1) (.int .i64 0) (.int .i64 0) (.int .i64 0) (.string v) (.slice none 0 0) (.string S) (.int .i64 (j : Int)) (.int .i64 x) from rfl]
         obtain ⟨x0, x1, x2, x3, x4, y0, y1, y2⟩ := H0.out
         have hB := L0.out.drew
         refine bodyPost_ret (v := .tuple #[.agg #[.int .i64 0, .int .i64 0, .int .i64 0, .string v, .slice none 0 0], .agg #[.string S, .int .i64 (j : Int), .int .i64 x]]) (by simp [results, Tryd.results19, go_sem, x0, x1, x2, x3, x4, y0, y1, y2]) rfl ?_
         exact ⟨rfl, hB⟩)
      | (rw [show ((((((((wr.setCell ⟨w.heap.size + 1 + 1 + 1, 0, none⟩ (.string S)).setCell ⟨w.heap.size + 1 + 1 + 1, 1, none⟩ (.int .i64 (j : Int))).setCell ⟨w.heap.size + 1 + 1 + 1, 2, none⟩ (.int .i64 x)).setCell ⟨w.heap.size + 1 + 1, 0, none⟩ (.int .i64 0)).setCell ⟨w.heap.size + 1 + 1, 1, none⟩ (.int .i64 0)).setCell ⟨w.heap.size + 1 + 1, 2, none⟩ (.int .i64 0)).setCell ⟨w.heap.size + 1 + 1, 3, none⟩ (.string v)).setCell ⟨w.heap.size + 1 + 1, 4, none⟩ (.slice none 0 0)) = st8_1 wr (w.heap.size + 1 + 1) (w.heap.size + 1 + 1 + 1) (.int .i64 0) (.int .i64 0) (.int .i64 0) (.string v) (.slice none 0 0) (.string S) (.int .i64 (j : Int)) (.int .i64 x) from rfl]
         obtain ⟨x0, x1, x2, x3, x4, y0, y1, y2⟩ := H1.out
         have hB := L1.out.drew
         refine bodyPost_ret (v := .tuple #[.agg #[.int .i64 0, .int .i64 0, .int .i64 0, .string v, .slice none 0 0], .agg #[.string S, .int .i64 (j : Int), .int .i64 x]]) (by simp [results, Tryd.results19, go_sem, x0, x1, x2, x3, x4, y0, y1, y2]) rfl ?_
         exact ⟨rfl, hB⟩)

end Go.Proofs.YtjjdfodjkoiedaaDoor
