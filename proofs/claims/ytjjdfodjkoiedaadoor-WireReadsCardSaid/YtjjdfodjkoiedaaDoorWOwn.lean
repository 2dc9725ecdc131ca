/-
  wire: a writer in memory: what it holds, and what a step of it may change. Laws of append with where the new row lies.
-/
import Derived.Test.YtjjdfodjkoiedaaDoorWForm
import Derived.OneCell
import Derived.Deep.AppendLies
import Derived.Lib.AppendStr
set_option linter.unusedVariables false
namespace Go.Proofs.YtjjdfodjkoiedaaDoor
open Go.RowKit

def u8s (bs : List UInt8) : List Value := bs.map fun b => Value.int .u8 b.toNat
theorem u8s_len (bs : List UInt8) : (u8s bs).length = bs.length := by simp [u8s]
theorem u8s_append (a b : List UInt8) : u8s (a ++ b) = u8s a ++ u8s b := by simp [u8s]
theorem u8s_str (s : ByteArray) : Lib.strCells s = u8s s.data.toList := rfl

/-- The writer in block wb holds the bytes bs; its slice is v, a row of the call's own from block B on. -/
structure WAt (w : World) (wb B : Nat) (v : Value) (bs : List UInt8) : Prop where
  hB : B ≤ wb
  blk : w.heap[wb]? = some (.cells #[v] 66 (0, 0))
  own : w.ownsRow B 5 1 v bs.length (u8s bs)
  ne : v.ownBlock ≠ some wb

/-- What a step of a writer may change: its own block, the row of its slice, and new blocks. -/
structure WStep (w w' : World) (wb : Nat) (v v' : Value) : Prop where
  os : w'.os = w.os
  tape : w'.tape = w.tape
  output : w'.output = w.output
  size : w.heap.size ≤ w'.heap.size
  block : ∀ k, k < w.heap.size → k ≠ wb → some k ≠ v.ownBlock → w'.heap[k]? = w.heap[k]?
  lies : v'.ownBlock = v.ownBlock ∨ ∃ g, v'.ownBlock = some g ∧ w.heap.size ≤ g

theorem WAt.lt {w : World} {wb B : Nat} {v : Value} {bs : List UInt8} (h : WAt w wb B v bs) : wb < w.heap.size := lt_of_block h.blk
theorem WAt.row_lt {w : World} {wb B : Nat} {v : Value} {bs : List UInt8} (h : WAt w wb B v bs) : ∀ k, v.ownBlock = some k → B ≤ k ∧ k < w.heap.size := h.own.lt

theorem WStep.refl (w : World) (wb : Nat) (v : Value) : WStep w w wb v v := ⟨rfl, rfl, rfl, Nat.le_refl _, fun _ _ _ _ => rfl, .inl rfl⟩
theorem WStep.trans {a b c : World} {wb : Nat} {u v x : Value} (h : WStep a b wb u v) (k : WStep b c wb v x) : WStep a c wb u x := by
  refine ⟨k.os.trans h.os, k.tape.trans h.tape, k.output.trans h.output, Nat.le_trans h.size k.size, fun i hi hne hro => ?_, ?_⟩
  · refine (k.block i (Nat.lt_of_lt_of_le hi h.size) hne ?_).trans (h.block i hi hne hro)
    rcases h.lies with e | ⟨g, e, hg⟩
    · rw [e]; exact hro
    · rw [e]; intro e'; injection e' with e'; omega
  · rcases k.lies with e | ⟨g, e, hg⟩
    · rw [e]; exact h.lies
    · exact .inr ⟨g, e, Nat.le_trans h.size hg⟩
/-- Behind blocks that were made. -/
theorem WStep.below {a b c : World} {wb : Nat} {u v : Value} (h : WStep a b wb u v) (k : Below b.heap.size b c) : WStep a c wb u v :=
  ⟨k.os.trans h.os, k.tape.trans h.tape, k.output.trans h.output, Nat.le_trans h.size k.size, fun i hi hne hro => (k.block i (Nat.lt_of_lt_of_le hi h.size)).trans (h.block i hi hne hro), h.lies⟩
theorem WStep.ahead {a b c : World} {wb : Nat} {u v : Value} (k : Below a.heap.size a b) (h : WStep b c wb u v) : WStep a c wb u v :=
  ⟨h.os.trans k.os, h.tape.trans k.tape, h.output.trans k.output, Nat.le_trans k.size h.size, fun i hi hne hro => (h.block i (Nat.lt_of_lt_of_le hi k.size) hne hro).trans (k.block i hi),
    h.lies.imp id fun ⟨g, e, hg⟩ => ⟨g, e, Nat.le_trans k.size hg⟩⟩
theorem WStep.toBelow {w w' : World} {wb B : Nat} {v v' : Value} {bs : List UInt8} (h : WStep w w' wb v v') (ha : WAt w wb B v bs) : Below B w w' :=
  ⟨h.os, h.tape, h.output, h.size, fun k hk => h.block k (by have := ha.lt; have := ha.hB; omega) (by have := ha.hB; omega) (fun e => by have := (ha.row_lt k e.symm).1; omega)⟩
theorem WAt.below {w w' : World} {wb B : Nat} {v : Value} {bs : List UInt8} (h : WAt w wb B v bs) (hb : Below w.heap.size w w') : WAt w' wb B v bs := by
  refine ⟨h.hB, (hb.block _ h.lt).trans h.blk, ?_, h.ne⟩
  exact h.own.kept (row := none) ⟨hb.os, hb.tape, hb.output, hb.size, fun k hk _ => hb.block k hk⟩ (by cases v.ownBlock <;> simp)
theorem WAt.cell {w : World} {wb B : Nat} {v : Value} {bs : List UInt8} (h : WAt w wb B v bs) : w.cell? ⟨wb, 0, none⟩ = some v := cell_of_one h.blk
theorem WAt.free {w : World} {wb B : Nat} {v : Value} {bs : List UInt8} (h : WAt w wb B v bs) : w.frozen? ⟨wb, 0, none⟩ = false := free_of_one h.blk

theorem grown_of_below {w w' : World} (h : Below w.heap.size w w') : w.grownBy w' none := ⟨h.os, h.tape, h.output, h.size, fun k hk _ => h.block k hk⟩

/-- Behind the append and the store. -/
theorem WAt.land {w w1 w2 : World} {wb B H : Nat} {v v' : Value} {bs new : List UInt8} (h : WAt w wb B v bs) (h01 : Below w.heap.size w w1)
    (hown : w2.ownsRow B 5 1 v' (bs.length + new.length) (u8s bs ++ u8s new)) (hg : w1.grownBy w2 v.ownBlock) (hat : v'.ownBlock = v.ownBlock ∨ v'.ownBlock = some H) (hH : w.heap.size ≤ H) :
    WAt (w2.setCell ⟨wb, 0, none⟩ v') wb B v' (bs ++ new) ∧ WStep w (w2.setCell ⟨wb, 0, none⟩ v') wb v v' := by
  have hlt := h.lt
  have hne : v'.ownBlock ≠ some wb := by
    rcases hat with e | e
    · rw [e]; exact h.ne
    · rw [e]; intro e'; injection e' with e'; omega
  have hb2 : w2.heap[wb]? = some (.cells #[v] 66 (0, 0)) := by
    rw [hg.block wb (Nat.lt_of_lt_of_le hlt h01.size) (fun e => h.ne e.symm), h01.block wb hlt]; exact h.blk
  refine ⟨⟨h.hB, one_setCell hb2, ?_, hne⟩, ?_⟩
  · rw [u8s_append, List.length_append]
    exact ownsRow_setCell_other hown hne _
  · refine ⟨hg.os.trans h01.os, hg.tape.trans h01.tape, hg.output.trans h01.output, ?_, fun k hk hkw hkr => ?_, ?_⟩
    · have h1 := h01.size
      have h2 := hg.size
      show w.heap.size ≤ (w2.heap.modify _ _).size
      simp; omega
    · rw [Below.heap_setCell _ _ _ _ hkw, hg.block k (Nat.lt_of_lt_of_le hk h01.size) hkr, h01.block k hk]
    · rcases hat with e | e
      · exact .inl e
      · exact .inr ⟨H, e, hH⟩

section
variable {P : Program} (w : World)
/-- append(v, s...): where the new row lies. -/
theorem str_where (base : Nat) (t u ty e : TypeId) (i : TypeInfo) (ht : P.underlying t = some (.slice e)) (hu : P.underlying u = some .string) (hi : P.info? e = some i) (hz : i.zero = some (.int .u8 0))
    (hsize : i.size = 1) (hby : i.bytes = 1)
    (v : Value) (n : Nat) (xs : List Value) (hown : w.ownsRow base e 1 v n xs) (s : ByteArray)
    (h63 : n + s.size ≤ maxLen) (hbytes : n + s.size ≤ 140737488355328) (v' : Value) (w' : World) (hiff : v' = .slice none 0 0 ↔ v = .slice none 0 0 ∧ s.size = 0)
    (hr0 : (Builtin.append_ #[t, u] ty #[v, .string s]).run P w = .ok v' w') : v'.ownBlock = v.ownBlock ∨ v'.ownBlock = some w.heap.size := by
  have hsmall : n + s.size ≤ 9223372036854775807 := by simp only [maxLen] at h63; omega
  have hxl : xs.length = n := by simpa using hown.1
  rcases hown.2 with ⟨rfl, rfl⟩ | ⟨g, cap, cur, rfl, hbg, hg, hnc, hcm, hcs, htake⟩
  · by_cases hm : s.size = 0
    · left
      rw [hiff.2 ⟨rfl, hm⟩]
    · have hr := run_append_nil_string (P := P) w t u ty e i (.int .u8 0) ht hu hi hz s (by omega) (by omega) (by rw [hby]; omega)
      rw [hr0] at hr
      injection hr with hv _
      right
      rw [hv]
      rfl
  · by_cases hroom : n + s.size ≤ cap
    · have hcs' : cur.size = cap := by simpa using hcs
      have hr := Lib.run_append_room_string (P := P) w t u ty e i ht hu hi hsize g n cap cur hg s hroom (by omega)
      rw [hr0] at hr
      injection hr with hv _
      left
      rw [hv]
      rfl
    · have holds : ∀ j u, xs[j]? = some u → w.cell? ((⟨g, 0, none⟩ : Addr).add j) = some u := hown.cells (g := g) rfl
      have hr := Lib.run_append_grow_string (P := P) w t u ty e i (.int .u8 0) ht hu hi hz ⟨g, 0, none⟩ n cap xs (by rw [hsize]; simpa using hxl) holds s (by omega) (by omega) (by rw [hby]; exact growslice_fits (by omega) (by omega))
      rw [hr0] at hr
      injection hr with hv _
      right
      rw [hv]
      rfl

theorem wpList_append_str {ops : Array Oper} {rest : List Oper} {o : Oper} {a : Act} {Q : Exit → Act → World → Prop} (hgd : o.guard = none) (sl x : Operand) (t u : TypeId)
    (ho : o.op = .call { callee := .builtin .append, args := #[sl, x], argTypes := #[t, u] })
    (base : Nat) (e : TypeId) (i : TypeInfo) (ht : P.underlying t = some (.slice e)) (hu : P.underlying u = some .string) (hi : P.info? e = some i) (hz : i.zero = some (.int .u8 0))
    (hsize : i.size = 1) (hby : i.bytes = 1)
    (v : Value) (n : Nat) (xs : List Value) (hs : a.eval sl = v) (hown : w.ownsRow base e 1 v n xs) (s : ByteArray) (hx : a.eval x = .string s)
    (h63 : n + s.size ≤ maxLen) (hbytes : n + s.size ≤ 140737488355328) (hbase : base ≤ w.heap.size)
    (h : ∀ v' w', w'.ownsRow base e 1 v' (n + s.size) (xs ++ Lib.strCells s) → w.grownBy w' v.ownBlock → (v'.ownBlock = v.ownBlock ∨ v'.ownBlock = some w.heap.size) → wpList P ops Q rest (a.put o.dst v') w') : wpList P ops Q (o :: rest) a w := by
  refine wpList_plain hgd fun K hK => ?_
  obtain ⟨v', w', hr, h2, h3, h4⟩ := Lib.run_append_own_string (P := P) w base t u o.type e i ht hu hi hz hsize hby v n xs hown s h63 hbytes hbase
  have h5 := str_where (P := P) w base t u o.type e i ht hu hi hz hsize hby v n xs hown s h63 hbytes v' w' h4 hr
  unfold Oper.wp execOp
  simp only [ho, resolve, invoke, builtin, Sem.run_bind, Sem.run_pure, Result.andThen_ok, List.map_toArray, List.map_cons, List.map_nil, hs, hx, hr]
  exact hK _ _ (h v' w' h2 h3 h5)
end

theorem infoU8 : (Tryd.prog.info? 5).map (fun i => (i.zero, i.size, i.bytes)) = some (some (.int .u8 0), 1, 1) := by kernel_rfl
theorem news_one (W : World) (x : Value) (T : TypeId) : ∀ j u, [x][j]? = some u → (W.alloc (.cells #[x] T)).drew.cell? ((⟨W.heap.size, 0, none⟩ : Addr).add j) = some u := by
  intro j u hj
  match j, hj with
  | 0, hj =>
    simp at hj; subst hj
    show (W.alloc (.cells #[x] T)).cell? _ = _
    simp [Addr.add]
theorem one_one (k : IntKind) (z : Int) : ∀ u ∈ [Value.int k z], u.oneCell' = true := by
  intro u hu; simp at hu; subst hu; rfl
theorem max_one {n : Nat} (h : n ≤ 2000000000) : n + 1 ≤ maxLen := by unfold maxLen; omega
theorem max_one1 {n : Nat} (h : n ≤ 2000000000) : (n + 1) * 1 ≤ 140737488355328 := by omega
theorem base_al {W : World} {B : Nat} {o : Obj} (h : B ≤ W.heap.size) : B ≤ (W.alloc o).drew.heap.size := by
  show B ≤ (W.heap.push o).size
  simp; omega
theorem WAt.base {w : World} {wb B : Nat} {v : Value} {bs : List UInt8} (h : WAt w wb B v bs) : B ≤ w.heap.size := by have := h.lt; have := h.hB; omega

/-- The cell of the writer behind an append. -/
theorem WAt.cell_grown {w w1 w2 : World} {wb B : Nat} {v : Value} {bs : List UInt8} (h : WAt w wb B v bs) (h01 : Below w.heap.size w w1) (hg : w1.grownBy w2 v.ownBlock) : w2.cell? ⟨wb, 0, none⟩ = some v :=
  (hg.cell_far ⟨wb, 0, none⟩ (Nat.lt_of_lt_of_le h.lt h01.size) (fun e => h.ne e.symm)).trans ((h01.cell (p := ⟨wb, 0, none⟩) h.lt).trans h.cell)
theorem WAt.free_grown {w w1 w2 : World} {wb B : Nat} {v : Value} {bs : List UInt8} (h : WAt w wb B v bs) (h01 : Below w.heap.size w w1) (hg : w1.grownBy w2 v.ownBlock) : w2.frozen? ⟨wb, 0, none⟩ = false :=
  (hg.frozen_far ⟨wb, 0, none⟩ (Nat.lt_of_lt_of_le h.lt h01.size) (fun e => h.ne e.symm)).trans ((h01.frozen (p := ⟨wb, 0, none⟩) h.lt).trans h.free)
theorem below_one (W : World) (o : Obj) : Below W.heap.size W (W.alloc o).drew := ((Below.refl _ _).alloc (Nat.le_refl _) _).drew

theorem WAt.app1 {w w2 : World} {wb B g cap : Nat} {v : Value} {bs : List UInt8} {o : Obj} {b : UInt8} {z : Int} (h : WAt w wb B v bs) (hz : z = (b.toNat : Int))
    (hown : w2.ownsRow B 5 1 (.slice (some ⟨g, 0, none⟩) (bs.length + 1) cap) (bs.length + 1) (u8s bs ++ [.int .u8 z])) (hgrow : (w.alloc o).drew.grownBy w2 v.ownBlock) (hat : v.ownBlock = some g ∨ g = (w.alloc o).drew.heap.size) :
    WAt (w2.setCell ⟨wb, 0, none⟩ (.slice (some ⟨g, 0, none⟩) (bs.length + 1) cap)) wb B (.slice (some ⟨g, 0, none⟩) (bs.length + 1) cap) (bs ++ [b]) ∧
      WStep w (w2.setCell ⟨wb, 0, none⟩ (.slice (some ⟨g, 0, none⟩) (bs.length + 1) cap)) wb v (.slice (some ⟨g, 0, none⟩) (bs.length + 1) cap) := by
  subst hz
  refine h.land (new := [b]) (H := (w.alloc o).drew.heap.size) (below_one w o) hown hgrow ?_ (below_one w o).size
  rcases hat with e | e
  · exact .inl e.symm
  · exact .inr (by rw [← e]; rfl)
end Go.Proofs.YtjjdfodjkoiedaaDoor
