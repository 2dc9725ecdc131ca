/-
  acheronlaw02.read at a reader of the call's own, kind by kind; and at nil. Written by gen_rd.py.
-/
import Derived.Test.YtjjdfodjkoiedaaDoorSame
set_option linter.unusedVariables false
namespace Go.Proofs.YtjjdfodjkoiedaaDoor
open Go.RowKit

/-- What is read: number, string, bits, bytes, error. -/
structure Rd where
  N : Int
  S : ByteArray
  L : List Bool
  n : Int
  x : Int
def rdv (k n : Int) (s : ByteArray) : Rd :=
  if k = 0 then ⟨(litR s n).1, ⟨#[]⟩, [], (litR s n).2.1, (litR s n).2.2⟩
  else if k = 1 then ⟨(sigR s n).1, ⟨#[]⟩, [], (sigR s n).2.1, (sigR s n).2.2⟩
  else if k = 2 then ⟨(numR s).1, ⟨#[]⟩, [], (numR s).2.1, (numR s).2.2⟩
  else if k = 3 then ⟨0, (strR s n).1, [], (strR s n).2.1, (strR s n).2.2⟩
  else if k = 4 then ⟨0, ⟨#[]⟩, (bitR s n).1, (bitR s n).2.1, (bitR s n).2.2⟩
  else if k = 6 then ⟨(cntR s n).1, ⟨#[]⟩, [], (cntR s n).2.1, (cntR s n).2.2⟩
  else ⟨0, (rawR s n).1, [], (rawR s n).2.1, (rawR s n).2.2⟩
def Rd.eff (d : Rd) (e : Int) : Rd := if e ≠ 0 then ⟨0, ⟨#[]⟩, [], d.n, d.x⟩ else d

def RdPost (w : World) (rb : Nat) (s : ByteArray) (i : Nat) (e : Int) (d : Rd) (en : Ending) (w' : World) : Prop :=
  ∃ a ll lc, en = .returned (.tuple #[(⟨0, 0, (d.eff e).N, (d.eff e).S, a, ll, lc⟩ : It).val, .int .i64 (rdN i e d.n d.x).2]) ∧ RAt w' rb s (rdN i e d.n d.x).1 (rdN i e d.n d.x).2 ∧ RStep rb w w' ∧
    BoolsAt (fun b => w.heap.size ≤ b) w' (.slice a ll lc) (d.eff e).L

def z5 : Array Value := #[.int .i64 0, .int .i64 0, .int .i64 0, .string ⟨#[]⟩, .slice none 0 0]
/-- The world in which the method is called. -/
def W3 (w : World) (k n : Int) : World := ((w.alloc (.cells #[.int .i64 k, .int .i64 n] 42)).alloc (.cells z5 31)).alloc (.cells z5 31)
theorem W3_below (w : World) (k n : Int) : Below w.heap.size w (W3 w k n) := below_al (below_al (below_al (Below.refl _ _)))
theorem W3_size (w : World) (k n : Int) : (W3 w k n).heap.size = w.heap.size + 1 + 1 + 1 := by simp [W3]

/-- The cells of a block of five. -/
def Five (w : World) (b : Nat) : Prop :=
  (w.cell? ⟨b, 0, none⟩ = some (.int .i64 0) ∧ w.cell? ⟨b, 1, none⟩ = some (.int .i64 0) ∧ w.cell? ⟨b, 2, none⟩ = some (.int .i64 0) ∧ w.cell? ⟨b, 3, none⟩ = some (.string ⟨#[]⟩) ∧ w.cell? ⟨b, 4, none⟩ = some (.slice none 0 0)) ∧
  (w.frozen? ⟨b, 0, none⟩ = false ∧ w.frozen? ⟨b, 1, none⟩ = false ∧ w.frozen? ⟨b, 2, none⟩ = false ∧ w.frozen? ⟨b, 3, none⟩ = false ∧ w.frozen? ⟨b, 4, none⟩ = false)
theorem five_of {w : World} {b : Nat} (h : w.heap[b]? = some (.cells z5 31 (0, 0))) : Five w b := by
  unfold Five
  simp only [World.cell?, World.frozen?, h]
  simp [z5]

theorem W3_five (w w1 : World) (k n : Int) (rb : Nat) (hr : rb < w.heap.size) (hs : RStep rb (W3 w k n) w1) : Five w1 (w.heap.size + 1) ∧ Five w1 (w.heap.size + 1 + 1) := by
  have h1 : (W3 w k n).heap[w.heap.size + 1]? = some (.cells z5 31 (0, 0)) := by
    unfold W3
    rw [Below.heap_alloc _ _ _ (by simp)]
    have := heap_alloc_new (w.alloc (.cells #[.int .i64 k, .int .i64 n] 42)) (.cells z5 31)
    simpa using this
  have h2 : (W3 w k n).heap[w.heap.size + 1 + 1]? = some (.cells z5 31 (0, 0)) := by
    unfold W3
    have := heap_alloc_new ((w.alloc (.cells #[.int .i64 k, .int .i64 n] 42)).alloc (.cells z5 31)) (.cells z5 31)
    simpa using this
  have hz := W3_size w k n
  exact ⟨five_of ((hs.block _ (by omega) (by omega)).trans h1), five_of ((hs.block _ (by omega) (by omega)).trans h2)⟩

theorem RStep.far {rb : Nat} {a b : World} (h : RStep rb a b) {p : Addr} (hp : a.heap.size ≤ p.block) (u : Value) : RStep rb a (b.setCell p u) :=
  ⟨h.os, h.tape, h.output, by have := h.size; show _ ≤ (b.heap.modify _ _).size; simp; omega, fun i hi hne => (Below.heap_setCell _ _ _ _ (by omega)).trans (h.block i hi hne)⟩
theorem RAt.far {w : World} {rb : Nat} {s : ByteArray} {i : Nat} {e : Int} (h : RAt w rb s i e) {p : Addr} (hp : rb ≠ p.block) (u : Value) : RAt (w.setCell p u) rb s i e := h.of_block (Below.heap_setCell _ _ _ _ hp)
theorem BoolsAt.far {P : Nat → Prop} {w : World} {v u : Value} {l : List Bool} (h : BoolsAt P w v l) {p : Addr} (hp : ∀ b, P b → b ≠ p.block) : BoolsAt P (w.setCell p u) v l := by
  obtain ⟨a, cap, hv, h⟩ := h
  refine ⟨a, cap, hv, ?_⟩
  rcases h with h | ⟨b, o, ha, hb, hlt, hc⟩
  · exact .inl h
  · refine .inr ⟨b, o, ha, hb, ?_, fun j hj => ?_⟩
    · show b < (w.heap.modify _ _).size
      simpa using hlt
    · exact (World.cell?_of_block (w := w) (a := ⟨b, o + j, none⟩) (Below.heap_setCell _ _ _ _ (hp b hb))).trans (hc j hj)

/-- The world behind the stores. -/
def six (w1 : World) (b f : Nat) (u v0 v1 v2 v3 v4 : Value) : World :=
  (((((w1.setCell ⟨b + 1 + 1, f, none⟩ u).setCell ⟨b + 1, 0, none⟩ v0).setCell ⟨b + 1, 1, none⟩ v1).setCell ⟨b + 1, 2, none⟩ v2).setCell ⟨b + 1, 3, none⟩ v3).setCell ⟨b + 1, 4, none⟩ v4
theorem six_at {w w1 : World} {rb : Nat} {s : ByteArray} {j : Nat} {er : Int} (hr : RAt w1 rb s j er) (hs : RStep rb w w1) (hrb : rb < w.heap.size) (f : Nat) (u v0 v1 v2 v3 v4 : Value) :
    RAt (six w1 w.heap.size f u v0 v1 v2 v3 v4) rb s j er ∧ RStep rb w (six w1 w.heap.size f u v0 v1 v2 v3 v4) := by
  unfold six
  constructor
  · exact (((((hr.far (by show rb ≠ w.heap.size + 1 + 1; omega) _).far (by show rb ≠ w.heap.size + 1; omega) _).far (by show rb ≠ w.heap.size + 1; omega) _).far (by show rb ≠ w.heap.size + 1; omega) _).far (by show rb ≠ w.heap.size + 1; omega) _).far (by show rb ≠ w.heap.size + 1; omega) _
  · exact (((((hs.far (by show w.heap.size ≤ w.heap.size + 1 + 1; omega) _).far (by show w.heap.size ≤ w.heap.size + 1; omega) _).far (by show w.heap.size ≤ w.heap.size + 1; omega) _).far (by show w.heap.size ≤ w.heap.size + 1; omega) _).far (by show w.heap.size ≤ w.heap.size + 1; omega) _).far (by show w.heap.size ≤ w.heap.size + 1; omega) _

set_option maxHeartbeats 2000000 in
set_option maxRecDepth 100000 in
theorem read_little (rb : Nat) (s : ByteArray) (i : Nat) (e n : Int) (hl : s.size ≤ 1000000000) (w : World) (h : RAt w rb s i e) (ht : Tab w) :
    Calls Tryd.prog 18 #[.pointer (some ⟨rb, 0, none⟩), .agg #[.int .i64 0, .int .i64 n]] w (RdPost w rb s i e (rdv 0 n (rest s i))) := by
  have hrb := h.lt
  have hc := rLittle rb s i e n hl (W3 w 0 n) (h.below (W3_below _ _ _))
  have hd : rdv 0 n (rest s i) = ⟨(litR (rest s i) n).1, ⟨#[]⟩, [], (litR (rest s i) n).2.1, (litR (rest s i) n).2.2⟩ := by unfold rdv; simp
  rw [hd]
  have hc2 : Calls Tryd.prog 43 #[.pointer (some ⟨rb, 0, none⟩), .int .i64 n] (W3 w 0 n) fun en w1 => en = .returned (.tuple #[.int .i64 (if e ≠ 0 then 0 else (litR (rest s i) n).1), .int .i64 (rdN i e (litR (rest s i) n).2.1 (litR (rest s i) n).2.2).2]) ∧
      (Five w1 (w.heap.size + 1) ∧ Five w1 (w.heap.size + 1 + 1)) ∧ RAt w1 rb s (rdN i e (litR (rest s i) n).2.1 (litR (rest s i) n).2.2).1 (rdN i e (litR (rest s i) n).2.1 (litR (rest s i) n).2.2).2 ∧ RStep rb (W3 w 0 n) w1 :=
    hc.mono fun en w1 ⟨he, hr, hs⟩ => ⟨by rw [he]; split <;> rfl, W3_five w w1 _ _ rb hrb hs, hr, hs⟩
  have hE : ∀ (W : World) (er : Int) (j : Nat), RAt W rb s j er → er = (rdN i e (litR (rest s i) n).2.1 (litR (rest s i) n).2.2).2 → j = (rdN i e (litR (rest s i) n).2.1 (litR (rest s i) n).2.2).1 → RStep rb w W → RdPost w rb s i e ⟨(litR (rest s i) n).1, ⟨#[]⟩, [], (litR (rest s i) n).2.1, (litR (rest s i) n).2.2⟩ (.returned (.tuple #[.agg #[.int .i64 0, .int .i64 0, .int .i64 (if e ≠ 0 then 0 else (litR (rest s i) n).1), .string ⟨#[]⟩, .slice none 0 0], .int .i64 er])) W := by
    rintro W er j hr rfl rfl hs
    refine ⟨none, 0, 0, ?_, hr, hs, ?_⟩
    · unfold Rd.eff It.val
      split <;> rfl
    · unfold Rd.eff
      split <;> exact BoolsAt.nil
  have HE := Lib.hid hE
  have HC := Lib.hid hc2
  clear hE hc2 hc h ht hd
  generalize hy : (if e ≠ 0 then 0 else (litR (rest s i) n).1) = y at HC HE
  clear hy
  obtain ⟨er, her⟩ : ∃ er, er = (rdN i e (litR (rest s i) n).2.1 (litR (rest s i) n).2.2).2 := ⟨_, rfl⟩
  obtain ⟨j, hj⟩ : ∃ j, j = (rdN i e (litR (rest s i) n).2.1 (litR (rest s i) n).2.2).1 := ⟨_, rfl⟩
  rw [← her, ← hj] at HC
  have HER := Lib.hid her
  have HJ := Lib.hid hj
  have HSZ := Lib.hid (W3_below w 0 n)
  clear her hj
  unfold W3 z5 at HC
  go_enter Tryd.func18, Tryd.ntmps18
  go_wp2_with fail
  refine HC.out.mono ?_
  rintro en w1 ⟨rfl, ⟨h5, h6⟩, hr, hs⟩
  have HRR := Lib.hid hr
  have HSS := Lib.hid ((RStep.of_below HSZ.out).trans hs)
  obtain ⟨⟨a0, a1, a2, a3, a4⟩, ⟨f0, f1, f2, f3, f4⟩⟩ := h5
  obtain ⟨⟨b0, b1, b2, b3, b4⟩, ⟨g0, g1, g2, g3, g4⟩⟩ := h6
  clear hr hs HSZ
  go_wp2
  refine bodyPost_ret (v := .tuple #[.agg #[.int .i64 0, .int .i64 0, .int .i64 y, .string ⟨#[]⟩, .slice none 0 0], .int .i64 er]) (by simp [results, Tryd.results18, go_sem, a0, a1, a2, a3, a4]) rfl ?_
  exact HE.out _ er j (six_at HRR.out HSS.out hrb 2 (.int .i64 y) (.int .i64 0) (.int .i64 0) (.int .i64 y) (.string ⟨#[]⟩) (.slice none 0 0)).1 HER.out HJ.out (six_at HRR.out HSS.out hrb 2 (.int .i64 y) (.int .i64 0) (.int .i64 0) (.int .i64 y) (.string ⟨#[]⟩) (.slice none 0 0)).2

set_option maxHeartbeats 2000000 in
set_option maxRecDepth 100000 in
theorem read_signed (rb : Nat) (s : ByteArray) (i : Nat) (e n : Int) (hl : s.size ≤ 1000000000) (w : World) (h : RAt w rb s i e) (ht : Tab w) :
    Calls Tryd.prog 18 #[.pointer (some ⟨rb, 0, none⟩), .agg #[.int .i64 1, .int .i64 n]] w (RdPost w rb s i e (rdv 1 n (rest s i))) := by
  have hrb := h.lt
  have hc := rSigned rb s i e n hl (W3 w 1 n) (h.below (W3_below _ _ _))
  have hd : rdv 1 n (rest s i) = ⟨(sigR (rest s i) n).1, ⟨#[]⟩, [], (sigR (rest s i) n).2.1, (sigR (rest s i) n).2.2⟩ := by unfold rdv; simp
  rw [hd]
  have hc2 : Calls Tryd.prog 44 #[.pointer (some ⟨rb, 0, none⟩), .int .i64 n] (W3 w 1 n) fun en w1 => en = .returned (.tuple #[.int .i64 (if e ≠ 0 then 0 else (sigR (rest s i) n).1), .int .i64 (rdN i e (sigR (rest s i) n).2.1 (sigR (rest s i) n).2.2).2]) ∧
      (Five w1 (w.heap.size + 1) ∧ Five w1 (w.heap.size + 1 + 1)) ∧ RAt w1 rb s (rdN i e (sigR (rest s i) n).2.1 (sigR (rest s i) n).2.2).1 (rdN i e (sigR (rest s i) n).2.1 (sigR (rest s i) n).2.2).2 ∧ RStep rb (W3 w 1 n) w1 :=
    hc.mono fun en w1 ⟨he, hr, hs⟩ => ⟨by rw [he]; split <;> rfl, W3_five w w1 _ _ rb hrb hs, hr, hs⟩
  have hE : ∀ (W : World) (er : Int) (j : Nat), RAt W rb s j er → er = (rdN i e (sigR (rest s i) n).2.1 (sigR (rest s i) n).2.2).2 → j = (rdN i e (sigR (rest s i) n).2.1 (sigR (rest s i) n).2.2).1 → RStep rb w W → RdPost w rb s i e ⟨(sigR (rest s i) n).1, ⟨#[]⟩, [], (sigR (rest s i) n).2.1, (sigR (rest s i) n).2.2⟩ (.returned (.tuple #[.agg #[.int .i64 0, .int .i64 0, .int .i64 (if e ≠ 0 then 0 else (sigR (rest s i) n).1), .string ⟨#[]⟩, .slice none 0 0], .int .i64 er])) W := by
    rintro W er j hr rfl rfl hs
    refine ⟨none, 0, 0, ?_, hr, hs, ?_⟩
    · unfold Rd.eff It.val
      split <;> rfl
    · unfold Rd.eff
      split <;> exact BoolsAt.nil
  have HE := Lib.hid hE
  have HC := Lib.hid hc2
  clear hE hc2 hc h ht hd
  generalize hy : (if e ≠ 0 then 0 else (sigR (rest s i) n).1) = y at HC HE
  clear hy
  obtain ⟨er, her⟩ : ∃ er, er = (rdN i e (sigR (rest s i) n).2.1 (sigR (rest s i) n).2.2).2 := ⟨_, rfl⟩
  obtain ⟨j, hj⟩ : ∃ j, j = (rdN i e (sigR (rest s i) n).2.1 (sigR (rest s i) n).2.2).1 := ⟨_, rfl⟩
  rw [← her, ← hj] at HC
  have HER := Lib.hid her
  have HJ := Lib.hid hj
  have HSZ := Lib.hid (W3_below w 1 n)
  clear her hj
  unfold W3 z5 at HC
  go_enter Tryd.func18, Tryd.ntmps18
  go_wp2_with fail
  refine HC.out.mono ?_
  rintro en w1 ⟨rfl, ⟨h5, h6⟩, hr, hs⟩
  have HRR := Lib.hid hr
  have HSS := Lib.hid ((RStep.of_below HSZ.out).trans hs)
  obtain ⟨⟨a0, a1, a2, a3, a4⟩, ⟨f0, f1, f2, f3, f4⟩⟩ := h5
  obtain ⟨⟨b0, b1, b2, b3, b4⟩, ⟨g0, g1, g2, g3, g4⟩⟩ := h6
  clear hr hs HSZ
  go_wp2
  refine bodyPost_ret (v := .tuple #[.agg #[.int .i64 0, .int .i64 0, .int .i64 y, .string ⟨#[]⟩, .slice none 0 0], .int .i64 er]) (by simp [results, Tryd.results18, go_sem, a0, a1, a2, a3, a4]) rfl ?_
  exact HE.out _ er j (six_at HRR.out HSS.out hrb 2 (.int .i64 y) (.int .i64 0) (.int .i64 0) (.int .i64 y) (.string ⟨#[]⟩) (.slice none 0 0)).1 HER.out HJ.out (six_at HRR.out HSS.out hrb 2 (.int .i64 y) (.int .i64 0) (.int .i64 0) (.int .i64 y) (.string ⟨#[]⟩) (.slice none 0 0)).2

set_option maxHeartbeats 2000000 in
set_option maxRecDepth 100000 in
theorem read_number (rb : Nat) (s : ByteArray) (i : Nat) (e n : Int) (hl : s.size ≤ 1000000000) (w : World) (h : RAt w rb s i e) (ht : Tab w) :
    Calls Tryd.prog 18 #[.pointer (some ⟨rb, 0, none⟩), .agg #[.int .i64 2, .int .i64 n]] w (RdPost w rb s i e (rdv 2 n (rest s i))) := by
  have hrb := h.lt
  have hc := rNumber rb s i e hl (W3 w 2 n) (h.below (W3_below _ _ _)) (ht.below (W3_below _ _ _) ht.pos)
  have hd : rdv 2 n (rest s i) = ⟨(numR (rest s i)).1, ⟨#[]⟩, [], (numR (rest s i)).2.1, (numR (rest s i)).2.2⟩ := by unfold rdv; simp
  rw [hd]
  have hc2 : Calls Tryd.prog 32 #[.pointer (some ⟨rb, 0, none⟩)] (W3 w 2 n) fun en w1 => en = .returned (.tuple #[.int .i64 (if e ≠ 0 then 0 else (numR (rest s i)).1), .int .i64 (rdN i e (numR (rest s i)).2.1 (numR (rest s i)).2.2).2]) ∧
      (Five w1 (w.heap.size + 1) ∧ Five w1 (w.heap.size + 1 + 1)) ∧ RAt w1 rb s (rdN i e (numR (rest s i)).2.1 (numR (rest s i)).2.2).1 (rdN i e (numR (rest s i)).2.1 (numR (rest s i)).2.2).2 ∧ RStep rb (W3 w 2 n) w1 :=
    hc.mono fun en w1 ⟨he, hr, hs⟩ => ⟨by rw [he]; split <;> rfl, W3_five w w1 _ _ rb hrb hs, hr, hs⟩
  have hE : ∀ (W : World) (er : Int) (j : Nat), RAt W rb s j er → er = (rdN i e (numR (rest s i)).2.1 (numR (rest s i)).2.2).2 → j = (rdN i e (numR (rest s i)).2.1 (numR (rest s i)).2.2).1 → RStep rb w W → RdPost w rb s i e ⟨(numR (rest s i)).1, ⟨#[]⟩, [], (numR (rest s i)).2.1, (numR (rest s i)).2.2⟩ (.returned (.tuple #[.agg #[.int .i64 0, .int .i64 0, .int .i64 (if e ≠ 0 then 0 else (numR (rest s i)).1), .string ⟨#[]⟩, .slice none 0 0], .int .i64 er])) W := by
    rintro W er j hr rfl rfl hs
    refine ⟨none, 0, 0, ?_, hr, hs, ?_⟩
    · unfold Rd.eff It.val
      split <;> rfl
    · unfold Rd.eff
      split <;> exact BoolsAt.nil
  have HE := Lib.hid hE
  have HC := Lib.hid hc2
  clear hE hc2 hc h ht hd
  generalize hy : (if e ≠ 0 then 0 else (numR (rest s i)).1) = y at HC HE
  clear hy
  obtain ⟨er, her⟩ : ∃ er, er = (rdN i e (numR (rest s i)).2.1 (numR (rest s i)).2.2).2 := ⟨_, rfl⟩
  obtain ⟨j, hj⟩ : ∃ j, j = (rdN i e (numR (rest s i)).2.1 (numR (rest s i)).2.2).1 := ⟨_, rfl⟩
  rw [← her, ← hj] at HC
  have HER := Lib.hid her
  have HJ := Lib.hid hj
  have HSZ := Lib.hid (W3_below w 2 n)
  clear her hj
  unfold W3 z5 at HC
  go_enter Tryd.func18, Tryd.ntmps18
  go_wp2_with fail
  refine HC.out.mono ?_
  rintro en w1 ⟨rfl, ⟨h5, h6⟩, hr, hs⟩
  have HRR := Lib.hid hr
  have HSS := Lib.hid ((RStep.of_below HSZ.out).trans hs)
  obtain ⟨⟨a0, a1, a2, a3, a4⟩, ⟨f0, f1, f2, f3, f4⟩⟩ := h5
  obtain ⟨⟨b0, b1, b2, b3, b4⟩, ⟨g0, g1, g2, g3, g4⟩⟩ := h6
  clear hr hs HSZ
  go_wp2
  refine bodyPost_ret (v := .tuple #[.agg #[.int .i64 0, .int .i64 0, .int .i64 y, .string ⟨#[]⟩, .slice none 0 0], .int .i64 er]) (by simp [results, Tryd.results18, go_sem, a0, a1, a2, a3, a4]) rfl ?_
  exact HE.out _ er j (six_at HRR.out HSS.out hrb 2 (.int .i64 y) (.int .i64 0) (.int .i64 0) (.int .i64 y) (.string ⟨#[]⟩) (.slice none 0 0)).1 HER.out HJ.out (six_at HRR.out HSS.out hrb 2 (.int .i64 y) (.int .i64 0) (.int .i64 0) (.int .i64 y) (.string ⟨#[]⟩) (.slice none 0 0)).2

set_option maxHeartbeats 2000000 in
set_option maxRecDepth 100000 in
theorem read_string (rb : Nat) (s : ByteArray) (i : Nat) (e n : Int) (hl : s.size ≤ 1000000000) (w : World) (h : RAt w rb s i e) (ht : Tab w) :
    Calls Tryd.prog 18 #[.pointer (some ⟨rb, 0, none⟩), .agg #[.int .i64 3, .int .i64 n]] w (RdPost w rb s i e (rdv 3 n (rest s i))) := by
  have hrb := h.lt
  have hc := rString rb s i e n hl (W3 w 3 n) (h.below (W3_below _ _ _)) (ht.below (W3_below _ _ _) ht.pos)
  have hd : rdv 3 n (rest s i) = ⟨0, (strR (rest s i) n).1, [], (strR (rest s i) n).2.1, (strR (rest s i) n).2.2⟩ := by unfold rdv; simp
  rw [hd]
  have hc2 : Calls Tryd.prog 45 #[.pointer (some ⟨rb, 0, none⟩), .int .i64 n] (W3 w 3 n) fun en w1 => en = .returned (.tuple #[.string (if e ≠ 0 then ⟨#[]⟩ else (strR (rest s i) n).1), .int .i64 (rdN i e (strR (rest s i) n).2.1 (strR (rest s i) n).2.2).2]) ∧
      (Five w1 (w.heap.size + 1) ∧ Five w1 (w.heap.size + 1 + 1)) ∧ RAt w1 rb s (rdN i e (strR (rest s i) n).2.1 (strR (rest s i) n).2.2).1 (rdN i e (strR (rest s i) n).2.1 (strR (rest s i) n).2.2).2 ∧ RStep rb (W3 w 3 n) w1 :=
    hc.mono fun en w1 ⟨he, hr, hs⟩ => ⟨by rw [he]; split <;> rfl, W3_five w w1 _ _ rb hrb hs, hr, hs⟩
  have hE : ∀ (W : World) (er : Int) (j : Nat), RAt W rb s j er → er = (rdN i e (strR (rest s i) n).2.1 (strR (rest s i) n).2.2).2 → j = (rdN i e (strR (rest s i) n).2.1 (strR (rest s i) n).2.2).1 → RStep rb w W → RdPost w rb s i e ⟨0, (strR (rest s i) n).1, [], (strR (rest s i) n).2.1, (strR (rest s i) n).2.2⟩ (.returned (.tuple #[.agg #[.int .i64 0, .int .i64 0, .int .i64 0, .string (if e ≠ 0 then ⟨#[]⟩ else (strR (rest s i) n).1), .slice none 0 0], .int .i64 er])) W := by
    rintro W er j hr rfl rfl hs
    refine ⟨none, 0, 0, ?_, hr, hs, ?_⟩
    · unfold Rd.eff It.val
      split <;> rfl
    · unfold Rd.eff
      split <;> exact BoolsAt.nil
  have HE := Lib.hid hE
  have HC := Lib.hid hc2
  clear hE hc2 hc h ht hd
  generalize hy : (if e ≠ 0 then ⟨#[]⟩ else (strR (rest s i) n).1) = y at HC HE
  clear hy
  obtain ⟨er, her⟩ : ∃ er, er = (rdN i e (strR (rest s i) n).2.1 (strR (rest s i) n).2.2).2 := ⟨_, rfl⟩
  obtain ⟨j, hj⟩ : ∃ j, j = (rdN i e (strR (rest s i) n).2.1 (strR (rest s i) n).2.2).1 := ⟨_, rfl⟩
  rw [← her, ← hj] at HC
  have HER := Lib.hid her
  have HJ := Lib.hid hj
  have HSZ := Lib.hid (W3_below w 3 n)
  clear her hj
  unfold W3 z5 at HC
  go_enter Tryd.func18, Tryd.ntmps18
  go_wp2_with fail
  refine HC.out.mono ?_
  rintro en w1 ⟨rfl, ⟨h5, h6⟩, hr, hs⟩
  have HRR := Lib.hid hr
  have HSS := Lib.hid ((RStep.of_below HSZ.out).trans hs)
  obtain ⟨⟨a0, a1, a2, a3, a4⟩, ⟨f0, f1, f2, f3, f4⟩⟩ := h5
  obtain ⟨⟨b0, b1, b2, b3, b4⟩, ⟨g0, g1, g2, g3, g4⟩⟩ := h6
  clear hr hs HSZ
  go_wp2
  refine bodyPost_ret (v := .tuple #[.agg #[.int .i64 0, .int .i64 0, .int .i64 0, .string y, .slice none 0 0], .int .i64 er]) (by simp [results, Tryd.results18, go_sem, a0, a1, a2, a3, a4]) rfl ?_
  exact HE.out _ er j (six_at HRR.out HSS.out hrb 3 (.string y) (.int .i64 0) (.int .i64 0) (.int .i64 0) (.string y) (.slice none 0 0)).1 HER.out HJ.out (six_at HRR.out HSS.out hrb 3 (.string y) (.int .i64 0) (.int .i64 0) (.int .i64 0) (.string y) (.slice none 0 0)).2

set_option maxHeartbeats 2000000 in
set_option maxRecDepth 100000 in
theorem read_count (rb : Nat) (s : ByteArray) (i : Nat) (e n : Int) (hl : s.size ≤ 1000000000) (w : World) (h : RAt w rb s i e) (ht : Tab w) :
    Calls Tryd.prog 18 #[.pointer (some ⟨rb, 0, none⟩), .agg #[.int .i64 6, .int .i64 n]] w (RdPost w rb s i e (rdv 6 n (rest s i))) := by
  have hrb := h.lt
  have hc := rCount rb s i e n hl (W3 w 6 n) (h.below (W3_below _ _ _)) (ht.below (W3_below _ _ _) ht.pos)
  have hd : rdv 6 n (rest s i) = ⟨(cntR (rest s i) n).1, ⟨#[]⟩, [], (cntR (rest s i) n).2.1, (cntR (rest s i) n).2.2⟩ := by unfold rdv; simp
  rw [hd]
  have hc2 : Calls Tryd.prog 47 #[.pointer (some ⟨rb, 0, none⟩), .int .i64 n] (W3 w 6 n) fun en w1 => en = .returned (.tuple #[.int .i64 (if e ≠ 0 then 0 else (cntR (rest s i) n).1), .int .i64 (rdN i e (cntR (rest s i) n).2.1 (cntR (rest s i) n).2.2).2]) ∧
      (Five w1 (w.heap.size + 1) ∧ Five w1 (w.heap.size + 1 + 1)) ∧ RAt w1 rb s (rdN i e (cntR (rest s i) n).2.1 (cntR (rest s i) n).2.2).1 (rdN i e (cntR (rest s i) n).2.1 (cntR (rest s i) n).2.2).2 ∧ RStep rb (W3 w 6 n) w1 :=
    hc.mono fun en w1 ⟨he, hr, hs⟩ => ⟨by rw [he]; split <;> rfl, W3_five w w1 _ _ rb hrb hs, hr, hs⟩
  have hE : ∀ (W : World) (er : Int) (j : Nat), RAt W rb s j er → er = (rdN i e (cntR (rest s i) n).2.1 (cntR (rest s i) n).2.2).2 → j = (rdN i e (cntR (rest s i) n).2.1 (cntR (rest s i) n).2.2).1 → RStep rb w W → RdPost w rb s i e ⟨(cntR (rest s i) n).1, ⟨#[]⟩, [], (cntR (rest s i) n).2.1, (cntR (rest s i) n).2.2⟩ (.returned (.tuple #[.agg #[.int .i64 0, .int .i64 0, .int .i64 (if e ≠ 0 then 0 else (cntR (rest s i) n).1), .string ⟨#[]⟩, .slice none 0 0], .int .i64 er])) W := by
    rintro W er j hr rfl rfl hs
    refine ⟨none, 0, 0, ?_, hr, hs, ?_⟩
    · unfold Rd.eff It.val
      split <;> rfl
    · unfold Rd.eff
      split <;> exact BoolsAt.nil
  have HE := Lib.hid hE
  have HC := Lib.hid hc2
  clear hE hc2 hc h ht hd
  generalize hy : (if e ≠ 0 then 0 else (cntR (rest s i) n).1) = y at HC HE
  clear hy
  obtain ⟨er, her⟩ : ∃ er, er = (rdN i e (cntR (rest s i) n).2.1 (cntR (rest s i) n).2.2).2 := ⟨_, rfl⟩
  obtain ⟨j, hj⟩ : ∃ j, j = (rdN i e (cntR (rest s i) n).2.1 (cntR (rest s i) n).2.2).1 := ⟨_, rfl⟩
  rw [← her, ← hj] at HC
  have HER := Lib.hid her
  have HJ := Lib.hid hj
  have HSZ := Lib.hid (W3_below w 6 n)
  clear her hj
  unfold W3 z5 at HC
  go_enter Tryd.func18, Tryd.ntmps18
  go_wp2_with fail
  refine HC.out.mono ?_
  rintro en w1 ⟨rfl, ⟨h5, h6⟩, hr, hs⟩
  have HRR := Lib.hid hr
  have HSS := Lib.hid ((RStep.of_below HSZ.out).trans hs)
  obtain ⟨⟨a0, a1, a2, a3, a4⟩, ⟨f0, f1, f2, f3, f4⟩⟩ := h5
  obtain ⟨⟨b0, b1, b2, b3, b4⟩, ⟨g0, g1, g2, g3, g4⟩⟩ := h6
  clear hr hs HSZ
  go_wp2
  refine bodyPost_ret (v := .tuple #[.agg #[.int .i64 0, .int .i64 0, .int .i64 y, .string ⟨#[]⟩, .slice none 0 0], .int .i64 er]) (by simp [results, Tryd.results18, go_sem, a0, a1, a2, a3, a4]) rfl ?_
  exact HE.out _ er j (six_at HRR.out HSS.out hrb 2 (.int .i64 y) (.int .i64 0) (.int .i64 0) (.int .i64 y) (.string ⟨#[]⟩) (.slice none 0 0)).1 HER.out HJ.out (six_at HRR.out HSS.out hrb 2 (.int .i64 y) (.int .i64 0) (.int .i64 0) (.int .i64 y) (.string ⟨#[]⟩) (.slice none 0 0)).2

set_option maxHeartbeats 2000000 in
set_option maxRecDepth 100000 in
theorem read_raw (rb : Nat) (s : ByteArray) (i : Nat) (e k n : Int) (hl : s.size ≤ 1000000000) (w : World) (h : RAt w rb s i e) (ht : Tab w) (hk0 : k ≠ 0) (hk1 : k ≠ 1) (hk2 : k ≠ 2) (hk3 : k ≠ 3) (hk4 : k ≠ 4) (hk6 : k ≠ 6) :
    Calls Tryd.prog 18 #[.pointer (some ⟨rb, 0, none⟩), .agg #[.int .i64 k, .int .i64 n]] w (RdPost w rb s i e (rdv k n (rest s i))) := by
  have hrb := h.lt
  have hc := rRaw rb s i e n hl (W3 w k n) (h.below (W3_below _ _ _))
  have hd : rdv k n (rest s i) = ⟨0, (rawR (rest s i) n).1, [], (rawR (rest s i) n).2.1, (rawR (rest s i) n).2.2⟩ := by unfold rdv; simp [hk0, hk1, hk2, hk3, hk4, hk6]
  rw [hd]
  have hc2 : Calls Tryd.prog 26 #[.pointer (some ⟨rb, 0, none⟩), .int .i64 n] (W3 w k n) fun en w1 => en = .returned (.tuple #[.string (if e ≠ 0 then ⟨#[]⟩ else (rawR (rest s i) n).1), .int .i64 (rdN i e (rawR (rest s i) n).2.1 (rawR (rest s i) n).2.2).2]) ∧
      (Five w1 (w.heap.size + 1) ∧ Five w1 (w.heap.size + 1 + 1)) ∧ RAt w1 rb s (rdN i e (rawR (rest s i) n).2.1 (rawR (rest s i) n).2.2).1 (rdN i e (rawR (rest s i) n).2.1 (rawR (rest s i) n).2.2).2 ∧ RStep rb (W3 w k n) w1 :=
    hc.mono fun en w1 ⟨he, hr, hs⟩ => ⟨by rw [he]; split <;> rfl, W3_five w w1 _ _ rb hrb hs, hr, hs⟩
  have hE : ∀ (W : World) (er : Int) (j : Nat), RAt W rb s j er → er = (rdN i e (rawR (rest s i) n).2.1 (rawR (rest s i) n).2.2).2 → j = (rdN i e (rawR (rest s i) n).2.1 (rawR (rest s i) n).2.2).1 → RStep rb w W → RdPost w rb s i e ⟨0, (rawR (rest s i) n).1, [], (rawR (rest s i) n).2.1, (rawR (rest s i) n).2.2⟩ (.returned (.tuple #[.agg #[.int .i64 0, .int .i64 0, .int .i64 0, .string (if e ≠ 0 then ⟨#[]⟩ else (rawR (rest s i) n).1), .slice none 0 0], .int .i64 er])) W := by
    rintro W er j hr rfl rfl hs
    refine ⟨none, 0, 0, ?_, hr, hs, ?_⟩
    · unfold Rd.eff It.val
      split <;> rfl
    · unfold Rd.eff
      split <;> exact BoolsAt.nil
  have HE := Lib.hid hE
  have HC := Lib.hid hc2
  clear hE hc2 hc h ht hd
  generalize hy : (if e ≠ 0 then ⟨#[]⟩ else (rawR (rest s i) n).1) = y at HC HE
  clear hy
  obtain ⟨er, her⟩ : ∃ er, er = (rdN i e (rawR (rest s i) n).2.1 (rawR (rest s i) n).2.2).2 := ⟨_, rfl⟩
  obtain ⟨j, hj⟩ : ∃ j, j = (rdN i e (rawR (rest s i) n).2.1 (rawR (rest s i) n).2.2).1 := ⟨_, rfl⟩
  rw [← her, ← hj] at HC
  have HER := Lib.hid her
  have HJ := Lib.hid hj
  have HSZ := Lib.hid (W3_below w k n)
  clear her hj
  unfold W3 z5 at HC
  have q0 : (k == 0) = false := by rw [beq_eq_false_iff_ne]; exact hk0
  have q1 : (k == 1) = false := by rw [beq_eq_false_iff_ne]; exact hk1
  have q2 : (k == 2) = false := by rw [beq_eq_false_iff_ne]; exact hk2
  have q3 : (k == 3) = false := by rw [beq_eq_false_iff_ne]; exact hk3
  have q4 : (k == 4) = false := by rw [beq_eq_false_iff_ne]; exact hk4
  have q6 : (k == 6) = false := by rw [beq_eq_false_iff_ne]; exact hk6
  clear hk0 hk1 hk2 hk3 hk4 hk6
  go_enter Tryd.func18, Tryd.ntmps18
  go_wp2_with fail
  refine HC.out.mono ?_
  rintro en w1 ⟨rfl, ⟨h5, h6⟩, hr, hs⟩
  have HRR := Lib.hid hr
  have HSS := Lib.hid ((RStep.of_below HSZ.out).trans hs)
  obtain ⟨⟨a0, a1, a2, a3, a4⟩, ⟨f0, f1, f2, f3, f4⟩⟩ := h5
  obtain ⟨⟨b0, b1, b2, b3, b4⟩, ⟨g0, g1, g2, g3, g4⟩⟩ := h6
  clear hr hs HSZ
  go_wp2
  refine bodyPost_ret (v := .tuple #[.agg #[.int .i64 0, .int .i64 0, .int .i64 0, .string y, .slice none 0 0], .int .i64 er]) (by simp [results, Tryd.results18, go_sem, a0, a1, a2, a3, a4]) rfl ?_
  exact HE.out _ er j (six_at HRR.out HSS.out hrb 3 (.string y) (.int .i64 0) (.int .i64 0) (.int .i64 0) (.string y) (.slice none 0 0)).1 HER.out HJ.out (six_at HRR.out HSS.out hrb 3 (.string y) (.int .i64 0) (.int .i64 0) (.int .i64 0) (.string y) (.slice none 0 0)).2

set_option maxHeartbeats 2000000 in
set_option maxRecDepth 100000 in
theorem read_bits (rb : Nat) (s : ByteArray) (i : Nat) (e n : Int) (hl : s.size ≤ 1000000000) (w : World) (h : RAt w rb s i e) (ht : Tab w) :
    Calls Tryd.prog 18 #[.pointer (some ⟨rb, 0, none⟩), .agg #[.int .i64 4, .int .i64 n]] w (RdPost w rb s i e (rdv 4 n (rest s i))) := by
  have hrb := h.lt
  have hc := rBits rb s i e n hl (W3 w 4 n) (h.below (W3_below _ _ _)) (ht.below (W3_below _ _ _) ht.pos)
  have hd : rdv 4 n (rest s i) = ⟨0, ⟨#[]⟩, (bitR (rest s i) n).1, (bitR (rest s i) n).2.1, (bitR (rest s i) n).2.2⟩ := by unfold rdv; simp
  rw [hd]
  have hE : ∀ (W : World) (er : Int) (j : Nat) (a : Option Addr) (ll lc : Nat), RAt W rb s j er → er = (rdN i e (bitR (rest s i) n).2.1 (bitR (rest s i) n).2.2).2 → j = (rdN i e (bitR (rest s i) n).2.1 (bitR (rest s i) n).2.2).1 → RStep rb w W →
      BoolsAt (fun b => w.heap.size ≤ b) W (.slice a ll lc) (if e ≠ 0 then [] else (bitR (rest s i) n).1) →
      RdPost w rb s i e ⟨0, ⟨#[]⟩, (bitR (rest s i) n).1, (bitR (rest s i) n).2.1, (bitR (rest s i) n).2.2⟩ (.returned (.tuple #[.agg #[.int .i64 0, .int .i64 0, .int .i64 0, .string ⟨#[]⟩, .slice a ll lc], .int .i64 er])) W := by
    rintro W er j a ll lc hr rfl rfl hs hv
    refine ⟨a, ll, lc, ?_, hr, hs, ?_⟩
    · unfold Rd.eff It.val
      split <;> rfl
    · unfold Rd.eff
      split
      · rename_i h; rw [if_pos h] at hv; exact hv
      · rename_i h; rw [if_neg h] at hv; exact hv
  have hc2 : Calls Tryd.prog 46 #[.pointer (some ⟨rb, 0, none⟩), .int .i64 n] (W3 w 4 n) fun en w1 => ∃ a ll lc, en = .returned (.tuple #[.slice a ll lc, .int .i64 (rdN i e (bitR (rest s i) n).2.1 (bitR (rest s i) n).2.2).2]) ∧
      (Five w1 (w.heap.size + 1) ∧ Five w1 (w.heap.size + 1 + 1)) ∧ RAt w1 rb s (rdN i e (bitR (rest s i) n).2.1 (bitR (rest s i) n).2.2).1 (rdN i e (bitR (rest s i) n).2.1 (bitR (rest s i) n).2.2).2 ∧ RStep rb (W3 w 4 n) w1 ∧
      BoolsAt (fun b => (W3 w 4 n).heap.size ≤ b) w1 (.slice a ll lc) (if e ≠ 0 then [] else (bitR (rest s i) n).1) :=
    hc.mono fun en w1 ⟨v, he, hr, hs, hv⟩ => by
      obtain ⟨a, cap, rfl, hv'⟩ := hv
      exact ⟨a, _, cap, he, W3_five w w1 _ _ rb hrb hs, hr, hs, a, cap, rfl, hv'⟩
  have HE := Lib.hid hE
  have HC := Lib.hid hc2
  clear hE hc2 hc h ht hd
  generalize (if e ≠ 0 then [] else (bitR (rest s i) n).1) = l at HC HE
  obtain ⟨er, her⟩ : ∃ er, er = (rdN i e (bitR (rest s i) n).2.1 (bitR (rest s i) n).2.2).2 := ⟨_, rfl⟩
  obtain ⟨j, hj⟩ : ∃ j, j = (rdN i e (bitR (rest s i) n).2.1 (bitR (rest s i) n).2.2).1 := ⟨_, rfl⟩
  rw [← her, ← hj] at HC
  have HER := Lib.hid her
  have HJ := Lib.hid hj
  have HSZ := Lib.hid (W3_below w 4 n)
  have HS3 := Lib.hid (W3_size w 4 n)
  clear her hj
  rw [HS3.out] at HC
  unfold W3 z5 at HC
  go_enter Tryd.func18, Tryd.ntmps18
  go_wp2_with fail
  refine HC.out.mono ?_
  rintro en w1 ⟨a, ll, lc, rfl, ⟨h5, h6⟩, hr, hs, hv⟩
  have HRR := Lib.hid hr
  have HSS := Lib.hid ((RStep.of_below HSZ.out).trans hs)
  have hvf : BoolsAt (fun b => w.heap.size ≤ b) (six w1 w.heap.size 4 (.slice a ll lc) (.int .i64 0) (.int .i64 0) (.int .i64 0) (.string ⟨#[]⟩) (.slice a ll lc)) (.slice a ll lc) l := by
    unfold six
    refine BoolsAt.mono (P := fun b => w.heap.size + 1 + 1 + 1 ≤ b) ?_ (fun b hb => by have : w.heap.size + 1 + 1 + 1 ≤ b := hb; show w.heap.size ≤ b; omega)
    exact (((((hv.far (by intro b hb e; have hb : w.heap.size + 1 + 1 + 1 ≤ b := hb; have e : b = w.heap.size + 1 + 1 := e; omega)).far (by intro b hb e; have hb : w.heap.size + 1 + 1 + 1 ≤ b := hb; have e : b = w.heap.size + 1 := e; omega)).far (by intro b hb e; have hb : w.heap.size + 1 + 1 + 1 ≤ b := hb; have e : b = w.heap.size + 1 := e; omega)).far (by intro b hb e; have hb : w.heap.size + 1 + 1 + 1 ≤ b := hb; have e : b = w.heap.size + 1 := e; omega)).far (by intro b hb e; have hb : w.heap.size + 1 + 1 + 1 ≤ b := hb; have e : b = w.heap.size + 1 := e; omega)).far (by intro b hb e; have hb : w.heap.size + 1 + 1 + 1 ≤ b := hb; have e : b = w.heap.size + 1 := e; omega)
  have HVF := Lib.hid hvf
  obtain ⟨⟨a0, a1, a2, a3, a4⟩, ⟨f0, f1, f2, f3, f4⟩⟩ := h5
  obtain ⟨⟨b0, b1, b2, b3, b4⟩, ⟨g0, g1, g2, g3, g4⟩⟩ := h6
  clear hr hs HSZ hv hvf HS3
  go_wp2
  refine bodyPost_ret (v := .tuple #[.agg #[.int .i64 0, .int .i64 0, .int .i64 0, .string ⟨#[]⟩, .slice a ll lc], .int .i64 er]) (by simp [results, Tryd.results18, go_sem, a0, a1, a2, a3, a4]) rfl ?_
  exact HE.out _ er j a ll lc (six_at HRR.out HSS.out hrb 4 (.slice a ll lc) (.int .i64 0) (.int .i64 0) (.int .i64 0) (.string ⟨#[]⟩) (.slice a ll lc)).1 HER.out HJ.out (six_at HRR.out HSS.out hrb 4 (.slice a ll lc) (.int .i64 0) (.int .i64 0) (.int .i64 0) (.string ⟨#[]⟩) (.slice a ll lc)).2 HVF.out

/-- read at every kind. -/
theorem read_any (rb : Nat) (s : ByteArray) (i : Nat) (e k n : Int) (hl : s.size ≤ 1000000000) (w : World) (h : RAt w rb s i e) (ht : Tab w) :
    Calls Tryd.prog 18 #[.pointer (some ⟨rb, 0, none⟩), .agg #[.int .i64 k, .int .i64 n]] w (RdPost w rb s i e (rdv k n (rest s i))) := by
  by_cases h0 : k = 0
  · subst h0; exact read_little rb s i e n hl w h ht
  by_cases h1 : k = 1
  · subst h1; exact read_signed rb s i e n hl w h ht
  by_cases h2 : k = 2
  · subst h2; exact read_number rb s i e n hl w h ht
  by_cases h3 : k = 3
  · subst h3; exact read_string rb s i e n hl w h ht
  by_cases h4 : k = 4
  · subst h4; exact read_bits rb s i e n hl w h ht
  by_cases h6 : k = 6
  · subst h6; exact read_count rb s i e n hl w h ht
  · exact read_raw rb s i e k n hl w h ht h0 h1 h2 h3 h4 h6

/-- The world of the five blocks, behind blocks that were made: at nil. -/
theorem W3_five_below (w w1 : World) (k n : Int) (hs : Below (W3 w k n).heap.size (W3 w k n) w1) : Five w1 (w.heap.size + 1) ∧ Five w1 (w.heap.size + 1 + 1) := by
  have h1 : (W3 w k n).heap[w.heap.size + 1]? = some (.cells z5 31 (0, 0)) := by
    unfold W3
    rw [Below.heap_alloc _ _ _ (by simp)]
    have := heap_alloc_new (w.alloc (.cells #[.int .i64 k, .int .i64 n] 42)) (.cells z5 31)
    simpa using this
  have h2 : (W3 w k n).heap[w.heap.size + 1 + 1]? = some (.cells z5 31 (0, 0)) := by
    unfold W3
    have := heap_alloc_new ((w.alloc (.cells #[.int .i64 k, .int .i64 n] 42)).alloc (.cells z5 31)) (.cells z5 31)
    simpa using this
  have hz := W3_size w k n
  exact ⟨five_of ((hs.block _ (by omega)).trans h1), five_of ((hs.block _ (by omega)).trans h2)⟩
theorem six_below {w w1 : World} (hs : Below w.heap.size w w1) (f : Nat) (u v0 v1 v2 v3 v4 : Value) : Below w.heap.size w (six w1 w.heap.size f u v0 v1 v2 v3 v4) := by
  unfold six
  exact (((((hs.setCell (by show w.heap.size ≤ w.heap.size + 1 + 1; omega) _).setCell (by show w.heap.size ≤ w.heap.size + 1; omega) _).setCell (by show w.heap.size ≤ w.heap.size + 1; omega) _).setCell (by show w.heap.size ≤ w.heap.size + 1; omega) _).setCell (by show w.heap.size ≤ w.heap.size + 1; omega) _).setCell (by show w.heap.size ≤ w.heap.size + 1; omega) _

set_option maxHeartbeats 1000000 in
set_option maxRecDepth 100000 in
theorem readNil0 (n : Int) (w : World) :
    Calls Tryd.prog 18 #[.pointer none, .agg #[.int .i64 0, .int .i64 n]] w fun e w' => e = .returned (.tuple #[zeroIt, .int .i64 6]) ∧ Below w.heap.size w w' := by
  have hc := nLittleR n (W3 w 0 n)
  have hc2 := hc.mono (R' := fun e w1 => e = .returned (.tuple #[.int .i64 0, .int .i64 6]) ∧ (Five w1 (w.heap.size + 1) ∧ Five w1 (w.heap.size + 1 + 1)) ∧ Below w.heap.size w w1) fun e w1 ⟨he, hb⟩ => ⟨he, W3_five_below w w1 _ _ hb, (W3_below w _ _).trans (hb.mono (W3_below w _ _).size)⟩
  have HC := Lib.hid hc2
  clear hc hc2
  unfold W3 z5 at HC
  unfold zeroIt
  go_enter Tryd.func18, Tryd.ntmps18
  go_wp2_with fail
  refine HC.out.mono ?_
  rintro en w1 ⟨rfl, ⟨h5, h6⟩, hb⟩
  have HB := Lib.hid hb
  obtain ⟨⟨a0, a1, a2, a3, a4⟩, ⟨f0, f1, f2, f3, f4⟩⟩ := h5
  obtain ⟨⟨b0, b1, b2, b3, b4⟩, ⟨g0, g1, g2, g3, g4⟩⟩ := h6
  clear hb
  go_wp2
  refine bodyPost_ret (v := .tuple #[.agg #[.int .i64 0, .int .i64 0, .int .i64 0, .string ⟨#[]⟩, .slice none 0 0], .int .i64 6]) (by simp [results, Tryd.results18, go_sem, a0, a1, a2, a3, a4]) rfl ⟨rfl, ?_⟩
  exact six_below HB.out 2 (.int .i64 0) (.int .i64 0) (.int .i64 0) (.int .i64 0) (.string ⟨#[]⟩) (.slice none 0 0)

set_option maxHeartbeats 1000000 in
set_option maxRecDepth 100000 in
theorem readNil1 (n : Int) (w : World) :
    Calls Tryd.prog 18 #[.pointer none, .agg #[.int .i64 1, .int .i64 n]] w fun e w' => e = .returned (.tuple #[zeroIt, .int .i64 6]) ∧ Below w.heap.size w w' := by
  have hc := nSignedR n (W3 w 1 n)
  have hc2 := hc.mono (R' := fun e w1 => e = .returned (.tuple #[.int .i64 0, .int .i64 6]) ∧ (Five w1 (w.heap.size + 1) ∧ Five w1 (w.heap.size + 1 + 1)) ∧ Below w.heap.size w w1) fun e w1 ⟨he, hb⟩ => ⟨he, W3_five_below w w1 _ _ hb, (W3_below w _ _).trans (hb.mono (W3_below w _ _).size)⟩
  have HC := Lib.hid hc2
  clear hc hc2
  unfold W3 z5 at HC
  unfold zeroIt
  go_enter Tryd.func18, Tryd.ntmps18
  go_wp2_with fail
  refine HC.out.mono ?_
  rintro en w1 ⟨rfl, ⟨h5, h6⟩, hb⟩
  have HB := Lib.hid hb
  obtain ⟨⟨a0, a1, a2, a3, a4⟩, ⟨f0, f1, f2, f3, f4⟩⟩ := h5
  obtain ⟨⟨b0, b1, b2, b3, b4⟩, ⟨g0, g1, g2, g3, g4⟩⟩ := h6
  clear hb
  go_wp2
  refine bodyPost_ret (v := .tuple #[.agg #[.int .i64 0, .int .i64 0, .int .i64 0, .string ⟨#[]⟩, .slice none 0 0], .int .i64 6]) (by simp [results, Tryd.results18, go_sem, a0, a1, a2, a3, a4]) rfl ⟨rfl, ?_⟩
  exact six_below HB.out 2 (.int .i64 0) (.int .i64 0) (.int .i64 0) (.int .i64 0) (.string ⟨#[]⟩) (.slice none 0 0)

set_option maxHeartbeats 1000000 in
set_option maxRecDepth 100000 in
theorem readNil2 (n : Int) (w : World) :
    Calls Tryd.prog 18 #[.pointer none, .agg #[.int .i64 2, .int .i64 n]] w fun e w' => e = .returned (.tuple #[zeroIt, .int .i64 6]) ∧ Below w.heap.size w w' := by
  have hc := nNumberR (W3 w 2 n)
  have hc2 := hc.mono (R' := fun e w1 => e = .returned (.tuple #[.int .i64 0, .int .i64 6]) ∧ (Five w1 (w.heap.size + 1) ∧ Five w1 (w.heap.size + 1 + 1)) ∧ Below w.heap.size w w1) fun e w1 ⟨he, hb⟩ => ⟨he, W3_five_below w w1 _ _ hb, (W3_below w _ _).trans (hb.mono (W3_below w _ _).size)⟩
  have HC := Lib.hid hc2
  clear hc hc2
  unfold W3 z5 at HC
  unfold zeroIt
  go_enter Tryd.func18, Tryd.ntmps18
  go_wp2_with fail
  refine HC.out.mono ?_
  rintro en w1 ⟨rfl, ⟨h5, h6⟩, hb⟩
  have HB := Lib.hid hb
  obtain ⟨⟨a0, a1, a2, a3, a4⟩, ⟨f0, f1, f2, f3, f4⟩⟩ := h5
  obtain ⟨⟨b0, b1, b2, b3, b4⟩, ⟨g0, g1, g2, g3, g4⟩⟩ := h6
  clear hb
  go_wp2
  refine bodyPost_ret (v := .tuple #[.agg #[.int .i64 0, .int .i64 0, .int .i64 0, .string ⟨#[]⟩, .slice none 0 0], .int .i64 6]) (by simp [results, Tryd.results18, go_sem, a0, a1, a2, a3, a4]) rfl ⟨rfl, ?_⟩
  exact six_below HB.out 2 (.int .i64 0) (.int .i64 0) (.int .i64 0) (.int .i64 0) (.string ⟨#[]⟩) (.slice none 0 0)

set_option maxHeartbeats 1000000 in
set_option maxRecDepth 100000 in
theorem readNil3 (n : Int) (w : World) :
    Calls Tryd.prog 18 #[.pointer none, .agg #[.int .i64 3, .int .i64 n]] w fun e w' => e = .returned (.tuple #[zeroIt, .int .i64 6]) ∧ Below w.heap.size w w' := by
  have hc := nStringR n (W3 w 3 n)
  have hc2 := hc.mono (R' := fun e w1 => e = .returned (.tuple #[.string ⟨#[]⟩, .int .i64 6]) ∧ (Five w1 (w.heap.size + 1) ∧ Five w1 (w.heap.size + 1 + 1)) ∧ Below w.heap.size w w1) fun e w1 ⟨he, hb⟩ => ⟨he, W3_five_below w w1 _ _ hb, (W3_below w _ _).trans (hb.mono (W3_below w _ _).size)⟩
  have HC := Lib.hid hc2
  clear hc hc2
  unfold W3 z5 at HC
  unfold zeroIt
  go_enter Tryd.func18, Tryd.ntmps18
  go_wp2_with fail
  refine HC.out.mono ?_
  rintro en w1 ⟨rfl, ⟨h5, h6⟩, hb⟩
  have HB := Lib.hid hb
  obtain ⟨⟨a0, a1, a2, a3, a4⟩, ⟨f0, f1, f2, f3, f4⟩⟩ := h5
  obtain ⟨⟨b0, b1, b2, b3, b4⟩, ⟨g0, g1, g2, g3, g4⟩⟩ := h6
  clear hb
  go_wp2
  refine bodyPost_ret (v := .tuple #[.agg #[.int .i64 0, .int .i64 0, .int .i64 0, .string ⟨#[]⟩, .slice none 0 0], .int .i64 6]) (by simp [results, Tryd.results18, go_sem, a0, a1, a2, a3, a4]) rfl ⟨rfl, ?_⟩
  exact six_below HB.out 3 (.string ⟨#[]⟩) (.int .i64 0) (.int .i64 0) (.int .i64 0) (.string ⟨#[]⟩) (.slice none 0 0)

set_option maxHeartbeats 1000000 in
set_option maxRecDepth 100000 in
theorem readNil4 (n : Int) (w : World) :
    Calls Tryd.prog 18 #[.pointer none, .agg #[.int .i64 4, .int .i64 n]] w fun e w' => e = .returned (.tuple #[zeroIt, .int .i64 6]) ∧ Below w.heap.size w w' := by
  have hc := nBitsR n (W3 w 4 n)
  have hc2 := hc.mono (R' := fun e w1 => e = .returned (.tuple #[.slice none 0 0, .int .i64 6]) ∧ (Five w1 (w.heap.size + 1) ∧ Five w1 (w.heap.size + 1 + 1)) ∧ Below w.heap.size w w1) fun e w1 ⟨he, hb⟩ => ⟨he, W3_five_below w w1 _ _ hb, (W3_below w _ _).trans (hb.mono (W3_below w _ _).size)⟩
  have HC := Lib.hid hc2
  clear hc hc2
  unfold W3 z5 at HC
  unfold zeroIt
  go_enter Tryd.func18, Tryd.ntmps18
  go_wp2_with fail
  refine HC.out.mono ?_
  rintro en w1 ⟨rfl, ⟨h5, h6⟩, hb⟩
  have HB := Lib.hid hb
  obtain ⟨⟨a0, a1, a2, a3, a4⟩, ⟨f0, f1, f2, f3, f4⟩⟩ := h5
  obtain ⟨⟨b0, b1, b2, b3, b4⟩, ⟨g0, g1, g2, g3, g4⟩⟩ := h6
  clear hb
  go_wp2
  refine bodyPost_ret (v := .tuple #[.agg #[.int .i64 0, .int .i64 0, .int .i64 0, .string ⟨#[]⟩, .slice none 0 0], .int .i64 6]) (by simp [results, Tryd.results18, go_sem, a0, a1, a2, a3, a4]) rfl ⟨rfl, ?_⟩
  exact six_below HB.out 4 (.slice none 0 0) (.int .i64 0) (.int .i64 0) (.int .i64 0) (.string ⟨#[]⟩) (.slice none 0 0)

set_option maxHeartbeats 1000000 in
set_option maxRecDepth 100000 in
theorem readNil6 (n : Int) (w : World) :
    Calls Tryd.prog 18 #[.pointer none, .agg #[.int .i64 6, .int .i64 n]] w fun e w' => e = .returned (.tuple #[zeroIt, .int .i64 6]) ∧ Below w.heap.size w w' := by
  have hc := nCountR n (W3 w 6 n)
  have hc2 := hc.mono (R' := fun e w1 => e = .returned (.tuple #[.int .i64 0, .int .i64 6]) ∧ (Five w1 (w.heap.size + 1) ∧ Five w1 (w.heap.size + 1 + 1)) ∧ Below w.heap.size w w1) fun e w1 ⟨he, hb⟩ => ⟨he, W3_five_below w w1 _ _ hb, (W3_below w _ _).trans (hb.mono (W3_below w _ _).size)⟩
  have HC := Lib.hid hc2
  clear hc hc2
  unfold W3 z5 at HC
  unfold zeroIt
  go_enter Tryd.func18, Tryd.ntmps18
  go_wp2_with fail
  refine HC.out.mono ?_
  rintro en w1 ⟨rfl, ⟨h5, h6⟩, hb⟩
  have HB := Lib.hid hb
  obtain ⟨⟨a0, a1, a2, a3, a4⟩, ⟨f0, f1, f2, f3, f4⟩⟩ := h5
  obtain ⟨⟨b0, b1, b2, b3, b4⟩, ⟨g0, g1, g2, g3, g4⟩⟩ := h6
  clear hb
  go_wp2
  refine bodyPost_ret (v := .tuple #[.agg #[.int .i64 0, .int .i64 0, .int .i64 0, .string ⟨#[]⟩, .slice none 0 0], .int .i64 6]) (by simp [results, Tryd.results18, go_sem, a0, a1, a2, a3, a4]) rfl ⟨rfl, ?_⟩
  exact six_below HB.out 2 (.int .i64 0) (.int .i64 0) (.int .i64 0) (.int .i64 0) (.string ⟨#[]⟩) (.slice none 0 0)

set_option maxHeartbeats 1000000 in
set_option maxRecDepth 100000 in
theorem readNil7 (k n : Int) (w : World) (hk0 : k ≠ 0) (hk1 : k ≠ 1) (hk2 : k ≠ 2) (hk3 : k ≠ 3) (hk4 : k ≠ 4) (hk6 : k ≠ 6) :
    Calls Tryd.prog 18 #[.pointer none, .agg #[.int .i64 k, .int .i64 n]] w fun e w' => e = .returned (.tuple #[zeroIt, .int .i64 6]) ∧ Below w.heap.size w w' := by
  have hc := nRawR n (W3 w k n)
  have hc2 := hc.mono (R' := fun e w1 => e = .returned (.tuple #[.string ⟨#[]⟩, .int .i64 6]) ∧ (Five w1 (w.heap.size + 1) ∧ Five w1 (w.heap.size + 1 + 1)) ∧ Below w.heap.size w w1) fun e w1 ⟨he, hb⟩ => ⟨he, W3_five_below w w1 _ _ hb, (W3_below w _ _).trans (hb.mono (W3_below w _ _).size)⟩
  have HC := Lib.hid hc2
  clear hc hc2
  unfold W3 z5 at HC
  unfold zeroIt
  have q0 : (k == 0) = false := by rw [beq_eq_false_iff_ne]; exact hk0
  have q1 : (k == 1) = false := by rw [beq_eq_false_iff_ne]; exact hk1
  have q2 : (k == 2) = false := by rw [beq_eq_false_iff_ne]; exact hk2
  have q3 : (k == 3) = false := by rw [beq_eq_false_iff_ne]; exact hk3
  have q4 : (k == 4) = false := by rw [beq_eq_false_iff_ne]; exact hk4
  have q6 : (k == 6) = false := by rw [beq_eq_false_iff_ne]; exact hk6
  clear hk0 hk1 hk2 hk3 hk4 hk6
  go_enter Tryd.func18, Tryd.ntmps18
  go_wp2_with fail
  refine HC.out.mono ?_
  rintro en w1 ⟨rfl, ⟨h5, h6⟩, hb⟩
  have HB := Lib.hid hb
  obtain ⟨⟨a0, a1, a2, a3, a4⟩, ⟨f0, f1, f2, f3, f4⟩⟩ := h5
  obtain ⟨⟨b0, b1, b2, b3, b4⟩, ⟨g0, g1, g2, g3, g4⟩⟩ := h6
  clear hb
  go_wp2
  refine bodyPost_ret (v := .tuple #[.agg #[.int .i64 0, .int .i64 0, .int .i64 0, .string ⟨#[]⟩, .slice none 0 0], .int .i64 6]) (by simp [results, Tryd.results18, go_sem, a0, a1, a2, a3, a4]) rfl ⟨rfl, ?_⟩
  exact six_below HB.out 3 (.string ⟨#[]⟩) (.int .i64 0) (.int .i64 0) (.int .i64 0) (.string ⟨#[]⟩) (.slice none 0 0)

theorem readNil_any (k n : Int) (w : World) :
    Calls Tryd.prog 18 #[.pointer none, .agg #[.int .i64 k, .int .i64 n]] w fun e w' => e = .returned (.tuple #[zeroIt, .int .i64 6]) ∧ Below w.heap.size w w' := by
  by_cases h0 : k = 0
  · subst h0; exact readNil0 n w
  by_cases h1 : k = 1
  · subst h1; exact readNil1 n w
  by_cases h2 : k = 2
  · subst h2; exact readNil2 n w
  by_cases h3 : k = 3
  · subst h3; exact readNil3 n w
  by_cases h4 : k = 4
  · subst h4; exact readNil4 n w
  by_cases h6 : k = 6
  · subst h6; exact readNil6 n w
  · exact readNil7 k n w h0 h1 h2 h3 h4 h6
end Go.Proofs.YtjjdfodjkoiedaaDoor
