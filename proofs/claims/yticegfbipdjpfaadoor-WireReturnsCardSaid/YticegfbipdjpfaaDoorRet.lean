/-
  WireReturns: what the law's loops keep.
-/
import Derived.Test.YticegfbipdjpfaaDoorAwakeW
import Derived.Test.YticegfbipdjpfaaDoorMathA
import Derived.Test.YticegfbipdjpfaaDoorItem
import Derived.Test.YticegfbipdjpfaaDoorSame
import Derived.Test.YticegfbipdjpfaaDoorRdUse
import Derived.RegionTactic
import Derived.Maps.AppendAt
import Derived.WalkKit
import Derived.ProofKit
set_option linter.unusedVariables false
namespace Go.Proofs.YticegfbipdjpfaaDoor
open Go.RowKit

def cells5 (x : It) : List Value := [.int .i64 x.k, .int .i64 x.z, .int .i64 x.n, .string x.s, .slice x.la x.ll x.lc]
def cellsY (ys : List (It × List Bool)) : List Value := ys.flatMap fun y => cells5 y.1
def encs (ys : List (It × List Bool)) : List UInt8 := ys.flatMap fun y => (wrS y.1 y.2).2
theorem cellsY_len (ys : List (It × List Bool)) : (cellsY ys).length = ys.length * 5 := by
  induction ys with
  | nil => rfl
  | cons y ys ih => simp only [cellsY, List.flatMap_cons, List.length_append] at ih ⊢; rw [ih]; simp [cells5]; omega
theorem cellsY_snoc (ys : List (It × List Bool)) (y : It × List Bool) : cellsY (ys ++ [y]) = cellsY ys ++ cells5 y.1 := by simp [cellsY]
theorem encs_snoc (ys : List (It × List Bool)) (y : It × List Bool) : encs (ys ++ [y]) = encs ys ++ (wrS y.1 y.2).2 := by simp [encs]

structure Good (w : World) (y : It × List Bool) : Prop where
  n : I64 y.1.n
  s : y.1.s.size ≤ 3000
  l : y.2.length ≤ 3000
  at_ : BoolsAt (Old w) w (.slice y.1.la y.1.ll y.1.lc) y.2
  ok : (wrS y.1 y.2).1 = 0

theorem isSz_le' {z : Int} (h : isSz z = true) : z.toNat ≤ 8 := by
  obtain ⟨s, rfl, hs⟩ := isSz_cases h
  simp; omega
theorem litS_le (n z : Int) : (litS n z).2.length ≤ 8 ∧ ((litS n z).1 ≠ 0 → (litS n z).2 = []) := by
  unfold litS
  split
  · split
    · have := isSz_le' (by assumption); simp only [encLE_len]; exact ⟨this, fun h => absurd rfl h⟩
    · simp
  · simp
theorem sigS_le (n z : Int) : (sigS n z).2.length ≤ 8 ∧ ((sigS n z).1 ≠ 0 → (sigS n z).2 = []) := by
  unfold sigS
  split
  · split
    · have := isSz_le' (by assumption); simp only [encLE_len]; exact ⟨this, fun h => absurd rfl h⟩
    · simp
  · simp
theorem wrS_le (x : It) (l : List Bool) (hs : x.s.size ≤ 3000) (hl : l.length ≤ 3000) : (wrS x l).2.length ≤ 4000 ∧ ((wrS x l).1 ≠ 0 → (wrS x l).2 = []) := by
  have h0 := litS_le x.n x.z
  have h1 := sigS_le x.n x.z
  have h2 := encNum_le x.n
  have h3 := encNum_le (x.s.size : Int)
  have h4 := encNum_le (l.length : Int)
  have h5 := bitsB_len l
  have h6 : x.s.data.toList.length = x.s.size := by rw [Array.length_toList]; rfl
  unfold wrS
  split
  · exact ⟨by omega, h0.2⟩
  split
  · exact ⟨by omega, h1.2⟩
  split
  · exact ⟨by simp only; omega, fun h => absurd rfl h⟩
  split
  · exact ⟨by simp only [strS, List.length_append]; omega, fun h => absurd rfl h⟩
  split
  · exact ⟨by simp only [bitS, List.length_append]; omega, fun h => absurd rfl h⟩
  · exact ⟨by simp only; omega, fun h => absurd rfl h⟩
theorem encs_le {w : World} (ys : List (It × List Bool)) (h : ∀ y ∈ ys, Good w y) : (encs ys).length ≤ ys.length * 4000 := by
  induction ys with
  | nil => simp [encs]
  | cons y ys ih =>
    have g := h y (by simp)
    have := (wrS_le y.1 y.2 g.s g.l).1
    have ih := ih fun z hz => h z (by simp [hz])
    simp only [encs, List.flatMap_cons, List.length_append, List.length_cons] at ih ⊢
    omega

theorem bools_len' {P : Nat → Prop} {w : World} {a : Option Addr} {n c : Nat} {l : List Bool} (h : BoolsAt P w (.slice a n c) l) : n = l.length := by
  obtain ⟨a', cap, e, _⟩ := h
  injection e

theorem few_bounds' {xs : List It} (h : fewB xs = true) : xs.length ≤ 30 ∧ ∀ x ∈ xs, x.s.size ≤ 3000 ∧ x.ll ≤ 3000 := by
  unfold fewB at h
  rw [Bool.and_eq_true, decide_eq_true_eq, Bool.not_eq_true'] at h
  refine ⟨h.1, fun x hx => ?_⟩
  have := List.any_eq_false.1 h.2 x hx
  unfold It.bad at this
  simp at this
  omega

/-- The row of the items that were written. -/
structure Wrote (w wr : World) (wb : Nat) (v wv : Value) (ys : List (It × List Bool)) : Prop where
  row : wr.ownsRow w.heap.size 31 5 wv ys.length (cellsY ys)
  wat : WAt wr wb w.heap.size v (encs ys)
  good : ∀ y ∈ ys, Good w y
  ne : wv.ownBlock ≠ some wb
  far : ∀ g, wv.ownBlock = some g → v.ownBlock ≠ some g
  bel : Below w.heap.size w wr

theorem row_step {w w' : World} {wb B n : Nat} {v v' wv : Value} {T : TypeId} {cs : List Value} (h : w.ownsRow B T 5 wv n cs) (st : WStep w w' wb v v') (h1 : wv.ownBlock ≠ some wb) (h2 : ∀ g, wv.ownBlock = some g → v.ownBlock ≠ some g) : w'.ownsRow B T 5 wv n cs := by
  obtain ⟨hl, hr⟩ := h
  refine ⟨hl, ?_⟩
  rcases hr with hn | ⟨g, cap, cur, hv, hg, hc, r⟩
  · exact .inl hn
  · have hlt : g < w.heap.size := lt_of_block hc
    exact .inr ⟨g, cap, cur, hv, hg, (st.block g hlt (fun e => h1 (by rw [hv, e]; rfl)) (fun e => h2 g (by rw [hv]; rfl) e.symm)).trans hc, r⟩
theorem row_bel {w w' : World} {B n : Nat} {wv : Value} {T : TypeId} {cs : List Value} (h : w.ownsRow B T 5 wv n cs) (hb : Below w.heap.size w w') : w'.ownsRow B T 5 wv n cs :=
  h.kept (row := none) ⟨hb.os, hb.tape, hb.output, hb.size, fun k hk _ => hb.block k hk⟩ (by cases wv.ownBlock <;> simp)

theorem infoItem : (Tryd.prog.info? 31).map (fun i => (i.zero, i.size, i.bytes)) = some (some (.agg #[.int .i64 0, .int .i64 0, .int .i64 0, .string ⟨#[]⟩, .slice none 0 0]), 5, 64) := by kernel_rfl

def W1Rel (w : World) (wb len : Nat) (wv i : Value) (wr : World) : Prop :=
  ∃ (k : Nat) (v u : Value) (ys : List (It × List Bool)), k ≤ len ∧ i = .int .i64 k ∧ u = wv ∧ ys.length ≤ k ∧ Wrote w wr wb v u ys

theorem news5 (W : World) (x : It) (T : TypeId) : ∀ j u, (cells5 x)[j]? = some u → (W.alloc (.cells #[.int .i64 x.k, .int .i64 x.z, .int .i64 x.n, .string x.s, .slice x.la x.ll x.lc] T)).cell? ((⟨W.heap.size, 0, none⟩ : Addr).add j) = some u := by
  intro j u hu
  rw [add_none, World.cell?_alloc_at _ _ _ _ rfl]
  show (#[Value.int .i64 x.k, .int .i64 x.z, .int .i64 x.n, .string x.s, .slice x.la x.ll x.lc] : Array Value)[0 + j]? = _
  rw [Nat.zero_add, ← Array.getElem?_toList]
  exact hu
theorem one5 (x : It) : ∀ u ∈ cells5 x, u.oneCell' = true := by
  intro u hu
  simp [cells5] at hu
  rcases hu with rfl | rfl | rfl | rfl | rfl <;> rfl

theorem cellsY_get (ys : List (It × List Bool)) : ∀ (j c : Nat) (hj : j < ys.length), c < 5 → (cellsY ys)[j * 5 + c]? = (cells5 ys[j].1)[c]? := by
  induction ys with
  | nil => intro j c hj; simp at hj
  | cons y ys ih =>
    intro j c hj hc
    have e : cellsY (y :: ys) = cells5 y.1 ++ cellsY ys := by simp [cellsY]
    have h5 : (cells5 y.1).length = 5 := rfl
    rw [e]
    cases j with
    | zero => rw [List.getElem?_append_left (by rw [h5]; omega)]; simp
    | succ j =>
      rw [List.getElem?_append_right (by rw [h5]; omega), h5, show (j + 1) * 5 + c - 5 = j * 5 + c by omega, ih j c (by simpa using hj) hc]
      rfl

def Row5 (w : World) (b o : Nat) (x : It) : Prop :=
  w.cell? ⟨b, o, none⟩ = some (.int .i64 x.k) ∧ w.cell? ⟨b, o + 1, none⟩ = some (.int .i64 x.z) ∧ w.cell? ⟨b, o + 1 + 1, none⟩ = some (.int .i64 x.n) ∧ w.cell? ⟨b, o + 1 + 1 + 1, none⟩ = some (.string x.s) ∧ w.cell? ⟨b, o + 1 + 1 + 1 + 1, none⟩ = some (.slice x.la x.ll x.lc)
theorem Row5.of_block {w w' : World} {b o : Nat} {x : It} (h : Row5 w b o x) (hb : w'.heap[b]? = w.heap[b]?) : Row5 w' b o x := by
  unfold Row5 at *
  simpa only [fun i => World.cell?_of_block (w := w) (w' := w') (a := ⟨b, i, none⟩) hb] using h
def ItemsLow (n : Nat) (w : World) (a : Option Addr) (ys : List (It × List Bool)) : Prop :=
  ys = [] ∨ ∃ b o, a = some ⟨b, o, none⟩ ∧ b < n ∧ ∀ j (h : j < ys.length), Row5 w b (o + j * 5) ys[j].1
theorem ItemsLow.of_block {n : Nat} {w w' : World} {a : Option Addr} {ys : List (It × List Bool)} (h : ItemsLow n w a ys) (hb : ∀ b, b < n → w'.heap[b]? = w.heap[b]?) : ItemsLow n w' a ys := by
  rcases h with h | ⟨b, o, ha, hlt, hc⟩
  · exact .inl h
  · exact .inr ⟨b, o, ha, hlt, fun j hj => (hc j hj).of_block (hb b hlt)⟩

theorem wrote_items {w wr : World} {wb : Nat} {v wv : Value} {ys : List (It × List Bool)} (h : Wrote w wr wb v wv ys) : ∃ a cap, wv = .slice a ys.length cap ∧ ItemsLow wr.heap.size wr a ys := by
  rcases h.row with ⟨hl, ⟨hv, h0⟩ | ⟨g, cap, cur, hv, hg, hc, hle, hm, hs, htk⟩⟩
  · have : ys = [] := List.eq_nil_of_length_eq_zero (by omega)
    subst this
    exact ⟨none, 0, hv, .inl rfl⟩
  · refine ⟨_, cap, hv, .inr ⟨g, 0, rfl, lt_of_block hc, fun j hj => ?_⟩⟩
    have cell : ∀ c u, c < 5 → (cells5 ys[j].1)[c]? = some u → wr.cell? ⟨g, j * 5 + c, none⟩ = some u := by
      intro c u hc5 hu
      have := h.row.cells (g := g) (by rw [hv]; rfl) (j * 5 + c) u (by rw [cellsY_get ys j c hj hc5]; exact hu)
      rw [add_none, Nat.zero_add] at this
      exact this
    unfold Row5
    simp only [Nat.zero_add]
    exact ⟨cell 0 _ (by omega) rfl, cell 1 _ (by omega) rfl, cell 2 _ (by omega) rfl, cell 3 _ (by omega) rfl, cell 4 _ (by omega) rfl⟩

theorem cat_str' (a : List UInt8) (s : ByteArray) : (⟨a.toArray⟩ : ByteArray) ++ s = mk (a ++ s.data.toList) := by
  apply ByteArray.ext
  simp [mk]

theorem wrote_snoc {w W1 w6 w7 : World} {wb : Nat} {v' wv wv' : Value} {ys : List (It × List Bool)} {x : It} {l : List Bool} (hrow : w6.ownsRow w.heap.size 31 5 wv ys.length (cellsY ys)) (ha6 : WAt w6 wb w.heap.size v' (encs ys ++ (wrS x l).2))
    (hgood : ∀ y ∈ ys, Good w y) (hx : Good w (x, l)) (hne : wv.ownBlock ≠ some wb) (hfar : ∀ g, wv.ownBlock = some g → v'.ownBlock ≠ some g) (hbel : Below w.heap.size w w6) (hb : Below w6.heap.size w6 W1)
    (hown : w7.ownsRow w.heap.size 31 5 wv' (ys.length + 1) (cellsY ys ++ cells5 x)) (hg : W1.grownBy w7 wv.ownBlock) (hat : wv'.ownBlock = wv.ownBlock ∨ wv'.ownBlock = some W1.heap.size) : Wrote w w7 wb v' wv' (ys ++ [(x, l)]) := by
  have ha1 := ha6.below hb
  have hs := hb.size
  have hlt := ha6.lt
  have hlt1 := ha1.lt
  refine ⟨by rw [cellsY_snoc, List.length_append]; exact hown, ⟨ha1.hB, ?_, ?_, ha1.ne⟩, ?_, ?_, ?_, ?_⟩
  · rw [hg.block wb hlt1 (fun e => hne e.symm)]; exact ha1.blk
  · rw [encs_snoc]
    refine ha1.own.kept (row := wv.ownBlock) hg ?_
    cases hv : v'.ownBlock with
    | none => exact .inl rfl
    | some g => exact .inr fun e => hfar g e.symm hv
  · intro y hy
    rcases List.mem_append.1 hy with hy | hy
    · exact hgood y hy
    · simp at hy; subst hy; exact hx
  · rcases hat with e | e
    · rw [e]; exact hne
    · rw [e]; intro e'; injection e' with e'; omega
  · intro g hgv hv
    rcases hat with e | e
    · exact hfar g (e ▸ hgv) hv
    · rw [e] at hgv; injection hgv with hgv
      have := (ha6.row_lt g hv).2
      omega
  · exact (hbel.trans (hb.mono hbel.size)).grown hg (by have := hbel.size; omega) (fun g e => (hrow.lt g e).1)

def W2Rel (w4 : World) (rb : Nat) (S : ByteArray) (ys : List (It × List Bool)) (i : Value) (wr : World) : Prop :=
  ∃ k : Nat, k ≤ ys.length ∧ i = .int .i64 k ∧ RAt wr rb S (encs (ys.take k)).length 0 ∧ RStep rb w4 wr

theorem rest_mk (A B : List UInt8) : rest (mk (A ++ B)) A.length = mk B := by
  unfold rest
  apply ByteArray.ext
  apply Array.toList_inj.1
  rw [ByteArray.data_extract, Array.toList_extract, List.extract_eq_take_drop, mk_size]
  simp [mk]
theorem encs_at (ys : List (It × List Bool)) (k : Nat) (h : k < ys.length) : encs ys = encs (ys.take k) ++ ((wrS ys[k].1 ys[k].2).2 ++ encs (ys.drop (k + 1))) := by
  have e : ys = ys.take k ++ (ys[k] :: ys.drop (k + 1)) := by rw [List.getElem_cons_drop, List.take_append_drop]
  have h2 := congrArg encs e
  rw [h2]
  unfold encs
  rw [List.flatMap_append, List.flatMap_cons]
theorem encs_take (ys : List (It × List Bool)) (k : Nat) (h : k < ys.length) : (encs (ys.take (k + 1))).length = (encs (ys.take k)).length + (wrS ys[k].1 ys[k].2).2.length := by
  rw [List.take_succ_eq_append_getElem h, encs_snoc, List.length_append]

theorem rdA (x : It) (l : List Bool) (t : List UInt8) (hn : I64 x.n) (hs : x.s.size ≤ 1048576) (hl : l.length ≤ 65536) (hok : (wrS x l).1 = 0) :
    (x.k = 0 ∨ x.k = 1 → rdv x.k x.z (mk ((wrS x l).2 ++ t)) = ⟨x.n, ⟨#[]⟩, [], (wrS x l).2.length, 0⟩) ∧
    (x.k = 2 ∨ x.k = 6 → rdv 2 x.z (mk ((wrS x l).2 ++ t)) = ⟨x.n, ⟨#[]⟩, [], (wrS x l).2.length, 0⟩) ∧
    (x.k = 4 → rdv x.k l.length (mk ((wrS x l).2 ++ t)) = ⟨0, ⟨#[]⟩, l, (wrS x l).2.length, 0⟩) ∧
    (x.k ≠ 0 → x.k ≠ 1 → x.k ≠ 2 → x.k ≠ 6 → x.k ≠ 4 → rdv x.k x.s.size (mk ((wrS x l).2 ++ t)) = ⟨0, x.s, [], (wrS x l).2.length, 0⟩) := by
  obtain ⟨k, z, n, s, la, ll, lc⟩ := x
  simp only at *
  refine ⟨?_, ?_, ?_, ?_⟩
  · rintro (rfl | rfl)
    · unfold wrS at *
      simp only [if_true] at *
      unfold rdv
      rw [if_pos rfl, litA n z hn hok t]
    · unfold wrS at *
      simp only [if_true, if_neg (show ¬ ((1 : Int) = 0) by decide)] at *
      unfold rdv
      rw [if_neg (by decide), if_pos rfl, sigA n z hn hok t]
  · intro h
    have e : (wrS ⟨k, z, n, s, la, ll, lc⟩ l).2 = encNum n := by
      unfold wrS
      rcases h with rfl | rfl <;> rfl
    rw [e]
    unfold rdv
    rw [if_neg (by decide), if_neg (by decide), if_pos rfl, numA n hn t]
  · rintro rfl
    have e : (wrS ⟨4, z, n, s, la, ll, lc⟩ l).2 = bitS l := rfl
    rw [e]
    unfold rdv
    rw [if_neg (by decide), if_neg (by decide), if_neg (by decide), if_neg (by decide), if_pos rfl, bitA l hl t]
  · intro h0 h1 h2 h6 h4
    by_cases h3 : k = 3
    · subst h3
      have e : (wrS ⟨3, z, n, s, la, ll, lc⟩ l).2 = strS s := rfl
      rw [e]
      unfold rdv
      rw [if_neg (by decide), if_neg (by decide), if_neg (by decide), if_pos rfl, strA s hs t]
    · have e : (wrS ⟨k, z, n, s, la, ll, lc⟩ l).2 = s.data.toList := by
        unfold wrS
        simp only
        rw [if_neg h0, if_neg h1, if_neg (by simp [h2, h6]), if_neg h3, if_neg h4]
      rw [e]
      unfold rdv
      rw [if_neg h0, if_neg h1, if_neg h2, if_neg h3, if_neg h4, if_neg h6, rawA s t]

/-- The reading of an item. -/
theorem ret_rd (rb j : Nat) (S : ByteArray) (kk nn N : Int) (s' : ByteArray) (L : List Bool) (len : Nat) (hS : S.size ≤ 1000000000) (hd : rdv kk nn (rest S j) = ⟨N, s', L, len, 0⟩) (w : World) (h : RAt w rb S j 0) (ht : Tab w) :
    Calls Tryd.prog 18 #[.pointer (some ⟨rb, 0, none⟩), .agg #[.int .i64 kk, .int .i64 nn]] w fun en w' => ∃ a ll lc,
      en = .returned (.tuple #[.agg #[.int .i64 0, .int .i64 0, .int .i64 N, .string s', .slice a ll lc], .int .i64 0]) ∧ RAt w' rb S (j + len) 0 ∧ RStep rb w w' ∧
      BoolsAt (fun b => w.heap.size ≤ b) w' (.slice a ll lc) L := by
  have h := rd_ok rb S j kk nn hS w h ht (by rw [hd])
  rw [hd] at h
  simpa using h

theorem end_raw (rb j : Nat) (S tl : ByteArray) (hS : S.size ≤ 1000000000) (hrs : rest S j = mk (tl.data.toList ++ [])) (w : World) (h : RAt w rb S j 0) :
    Calls Tryd.prog 26 #[.pointer (some ⟨rb, 0, none⟩), .int .i64 (tl.size : Int)] w fun en w' => en = .returned (.tuple #[.string tl, .int .i64 0]) ∧ RAt w' rb S (j + tl.size) 0 ∧ RStep rb w w' := by
  have hr := rawA tl []
  rw [← hrs] at hr
  refine (rRaw rb S j 0 tl.size hS w h).mono fun en w' ⟨he, ha, hs⟩ => ⟨?_, ?_, hs⟩
  · rw [he, hr]; simp [rdN]
  · rw [hr] at ha; simpa [rdN, data_len] using ha

theorem end_end (rb j : Nat) (S : ByteArray) (hS : S.size ≤ 1000000000) (hj : j = S.size) (w : World) (h : RAt w rb S j 0) :
    Calls Tryd.prog 25 #[.pointer (some ⟨rb, 0, none⟩)] w fun en w' => en = .returned (.int .i64 0) ∧ RAt w' rb S j 0 ∧ RStep rb w w' := by
  have hz : endR (rest S j) = (true, 0, 0) := by unfold endR; rw [if_pos (by rw [rest_size]; omega)]
  refine (rEnd rb S j 0 hS w h).mono fun en w' ⟨he, ha, hs⟩ => ⟨?_, ?_, hs⟩
  · rw [he, hz]; simp [rdN]
  · rw [hz] at ha; simpa [rdN] using ha
end Go.Proofs.YticegfbipdjpfaaDoor
