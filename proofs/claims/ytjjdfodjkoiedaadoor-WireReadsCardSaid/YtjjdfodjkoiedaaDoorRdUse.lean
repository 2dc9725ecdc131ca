/-
  acheronlaw02.read as laws use it: a value, the first error, a stopped reader.
-/
import Derived.Test.YtjjdfodjkoiedaaDoorRd
import Derived.Test.YtjjdfodjkoiedaaDoorOpen
set_option linter.unusedVariables false
namespace Go.Proofs.YtjjdfodjkoiedaaDoor
open Go.RowKit

theorem rdv_err (k n : Int) (s : ByteArray) (h : (rdv k n s).x ≠ 0) : (rdv k n s).N = 0 ∧ (rdv k n s).S = ⟨#[]⟩ ∧ (rdv k n s).L = [] := by
  revert h
  unfold rdv
  repeat' split
  · exact fun h => ⟨(litR_bd s n).1 h, rfl, rfl⟩
  · exact fun h => ⟨(sigR_bd s n).1 h, rfl, rfl⟩
  · exact fun h => ⟨(numR_bd2 s).1 h, rfl, rfl⟩
  · exact fun h => ⟨rfl, (strR_bd s n).1 h, rfl⟩
  · exact fun h => ⟨rfl, rfl, (bitR_bd s n).1 h⟩
  · exact fun h => ⟨(cntR_bd2 s n).1 h, rfl, rfl⟩
  · exact fun h => ⟨rfl, (rawR_bd s n).1 h, rfl⟩

theorem rdv_bd (k n : Int) (s : ByteArray) (h : (rdv k n s).x = 0) : 0 ≤ (rdv k n s).n ∧ (rdv k n s).n ≤ (s.size : Int) := by
  revert h
  unfold rdv
  repeat' split
  · exact (litR_bd s n).2
  · exact (sigR_bd s n).2
  · exact (numR_bd2 s).2
  · exact (strR_bd s n).2
  · exact (bitR_bd s n).2
  · exact (cntR_bd2 s n).2
  · exact (rawR_bd s n).2

/-- The bits of an item of no bits. -/
theorem rd_ok (rb : Nat) (s : ByteArray) (i : Nat) (k n : Int) (hl : s.size ≤ 1000000000) (w : World) (h : RAt w rb s i 0) (ht : Tab w) (hx : (rdv k n (rest s i)).x = 0) :
    Calls Tryd.prog 18 #[.pointer (some ⟨rb, 0, none⟩), .agg #[.int .i64 k, .int .i64 n]] w fun en w' => ∃ a ll lc,
      en = .returned (.tuple #[.agg #[.int .i64 0, .int .i64 0, .int .i64 (rdv k n (rest s i)).N, .string (rdv k n (rest s i)).S, .slice a ll lc], .int .i64 0]) ∧ RAt w' rb s (i + (rdv k n (rest s i)).n.toNat) 0 ∧ RStep rb w w' ∧
      BoolsAt (fun b => w.heap.size ≤ b) w' (.slice a ll lc) (rdv k n (rest s i)).L := by
  refine (read_any rb s i 0 k n hl w h ht).mono fun en w' ⟨a, ll, lc, he, hr, hs, hv⟩ => ⟨a, ll, lc, ?_, ?_, hs, ?_⟩
  · rw [he]; simp [rdN, hx, Rd.eff, It.val]
  · simpa [rdN, hx] using hr
  · simpa [Rd.eff] using hv

theorem rd_stop (rb : Nat) (s : ByteArray) (i : Nat) (e k n er : Int) (hl : s.size ≤ 1000000000) (w : World) (h : RAt w rb s i e) (ht : Tab w) (hx : (e ≠ 0 ∧ er = e) ∨ (e = 0 ∧ (rdv k n (rest s i)).x ≠ 0 ∧ er = (rdv k n (rest s i)).x)) :
    Calls Tryd.prog 18 #[.pointer (some ⟨rb, 0, none⟩), .agg #[.int .i64 k, .int .i64 n]] w fun en w' => ∃ a ll lc,
      en = .returned (.tuple #[.agg #[.int .i64 0, .int .i64 0, .int .i64 0, .string ⟨#[]⟩, .slice a ll lc], .int .i64 er]) ∧ RAt w' rb s i er ∧ RStep rb w w' ∧ BoolsAt (fun b => w.heap.size ≤ b) w' (.slice a ll lc) [] := by
  refine (read_any rb s i e k n hl w h ht).mono fun en w' ⟨a, ll, lc, he, hr, hs, hv⟩ => ⟨a, ll, lc, ?_, ?_, hs, ?_⟩
  · rcases hx with ⟨h0, rfl⟩ | ⟨rfl, h0, rfl⟩
    · rw [he]; simp [rdN, h0, Rd.eff, It.val]
    · obtain ⟨e1, e2, e3⟩ := rdv_err _ _ _ h0
      rw [he]; simp [rdN, h0, Rd.eff, It.val, e1, e2]
  · rcases hx with ⟨h0, rfl⟩ | ⟨rfl, h0, rfl⟩
    · simpa [rdN, h0] using hr
    · simpa [rdN, h0] using hr
  · rcases hx with ⟨h0, rfl⟩ | ⟨rfl, h0, rfl⟩
    · simpa [Rd.eff, h0] using hv
    · obtain ⟨e1, e2, e3⟩ := rdv_err _ _ _ h0
      simpa [Rd.eff, e3] using hv

/-- same at an item of nothing and the zero item. -/
theorem same_zero (P : Nat → Prop) (a : Option Addr) (ll lc : Nat) (w : World) (h : BoolsAt P w (.slice a ll lc) []) :
    Calls Tryd.prog 20 #[.agg #[.int .i64 0, .int .i64 0, .int .i64 0, .string ⟨#[]⟩, .slice a ll lc], .agg #[.int .i64 0, .int .i64 0, .int .i64 0, .string ⟨#[]⟩, .slice none 0 0]] w fun e w' => e = .returned (.bool true) ∧ Below w.heap.size w w' := by
  have hs := same_any P (fun _ => True) ⟨0, 0, 0, ⟨#[]⟩, a, ll, lc⟩ ⟨0, 0, 0, ⟨#[]⟩, none, 0, 0⟩ [] [] (by decide) w h ⟨none, 0, rfl, .inl rfl⟩
  rw [show sameB ⟨0, 0, 0, ⟨#[]⟩, a, ll, lc⟩ ⟨0, 0, 0, ⟨#[]⟩, none, 0, 0⟩ [] [] = true by simp [sameB]] at hs
  exact hs

/-- Item's five cells in a box. -/
def Box5 (w : World) (b : Nat) (x : It) : Prop :=
  w.cell? ⟨b, 0, none⟩ = some (.int .i64 x.k) ∧ w.cell? ⟨b, 1, none⟩ = some (.int .i64 x.z) ∧ w.cell? ⟨b, 2, none⟩ = some (.int .i64 x.n) ∧ w.cell? ⟨b, 3, none⟩ = some (.string x.s) ∧ w.cell? ⟨b, 4, none⟩ = some (.slice x.la x.ll x.lc)
theorem Box5.lt {w : World} {b : Nat} {x : It} (h : Box5 w b x) : b < w.heap.size := World.block_lt_of_cell? w _ h.1
theorem Box5.of_block {w w' : World} {b : Nat} {x : It} (h : Box5 w b x) (hb : w'.heap[b]? = w.heap[b]?) : Box5 w' b x := by
  unfold Box5 at *
  simpa only [fun i => World.cell?_of_block (w := w) (w' := w') (a := ⟨b, i, none⟩) hb] using h
theorem Box5.below {w w' : World} {b : Nat} {x : It} (h : Box5 w b x) (hb : Below w.heap.size w w') : Box5 w' b x := h.of_block (hb.block _ h.lt)
theorem box5_alloc (W : World) (x : It) : Box5 (W.alloc (.cells #[.int .i64 x.k, .int .i64 x.z, .int .i64 x.n, .string x.s, .slice x.la x.ll x.lc] 31)) W.heap.size x := by
  unfold Box5
  rw [World.cell?_alloc_at _ _ _ _ rfl, World.cell?_alloc_at _ _ _ _ rfl, World.cell?_alloc_at _ _ _ _ rfl, World.cell?_alloc_at _ _ _ _ rfl, World.cell?_alloc_at _ _ _ _ rfl]
  exact ⟨rfl, rfl, rfl, rfl, rfl⟩

theorem AsksAt.below {w w' : World} {v : Value} {xs : List (Int × Int)} (h : AsksAt w v xs) (hb : Below w.heap.size w w') : AsksAt w' v xs := by
  obtain ⟨a, cap, hv, h⟩ := h
  refine ⟨a, cap, hv, ?_⟩
  rcases h with h | ⟨b, o, ha, hlt, hc⟩
  · exact .inl h
  · exact .inr ⟨b, o, ha, Nat.lt_of_lt_of_le hlt hb.size, fun j hj => by
      have := hc j hj
      simpa only [fun i => hb.cell (p := ⟨b, i, none⟩) hlt] using this⟩
theorem RStep.below {rb : Nat} {w w1 w2 : World} (h : RStep rb w w1) (hb : Below w1.heap.size w1 w2) : RStep rb w w2 := h.trans (RStep.of_below hb)
/-- What lay below B stays, behind a step of a reader from B on. -/
theorem below_rstep {B rb : Nat} {w w1 w2 : World} (h : Below B w w1) (hs : RStep rb w1 w2) (hB : B ≤ rb) (hB2 : B ≤ w1.heap.size) : Below B w w2 := h.trans (hs.toBelow hB hB2)
end Go.Proofs.YtjjdfodjkoiedaaDoor
