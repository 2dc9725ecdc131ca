/-
  wire: a reader in memory; next at each function that it is handed (but that of Bits). Written by gen_next.py.
-/
import Derived.Test.YtjjdfodjkoiedaaDoorRead2
import Derived.OneCell
set_option linter.unusedVariables false
namespace Go.Proofs.YtjjdfodjkoiedaaDoor
open Go.RowKit

/-- The reader in block rb: its text, its place, its error. -/
structure RAt (w : World) (rb : Nat) (s : ByteArray) (at_ : Nat) (e : Int) : Prop where
  blk : w.heap[rb]? = some (.cells #[.string s, .int .i64 at_, .int .i64 e] 73 (0, 0))
  le : at_ ≤ s.size

/-- A step of a reader may change its own block, and make new ones. -/
structure RStep (rb : Nat) (w w' : World) : Prop where
  os : w'.os = w.os
  tape : w'.tape = w.tape
  output : w'.output = w.output
  size : w.heap.size ≤ w'.heap.size
  block : ∀ k, k < w.heap.size → k ≠ rb → w'.heap[k]? = w.heap[k]?

theorem RAt.lt {w : World} {rb : Nat} {s : ByteArray} {i : Nat} {e : Int} (h : RAt w rb s i e) : rb < w.heap.size := lt_of_block h.blk
theorem RAt.cell0 {w : World} {rb : Nat} {s : ByteArray} {i : Nat} {e : Int} (h : RAt w rb s i e) : w.cell? ⟨rb, 0, none⟩ = some (.string s) := by simp [World.cell?, h.blk]
theorem RAt.cell1 {w : World} {rb : Nat} {s : ByteArray} {i : Nat} {e : Int} (h : RAt w rb s i e) : w.cell? ⟨rb, 1, none⟩ = some (.int .i64 i) := by simp [World.cell?, h.blk]
theorem RAt.cell2 {w : World} {rb : Nat} {s : ByteArray} {i : Nat} {e : Int} (h : RAt w rb s i e) : w.cell? ⟨rb, 2, none⟩ = some (.int .i64 e) := by simp [World.cell?, h.blk]
theorem RAt.free {w : World} {rb : Nat} {s : ByteArray} {i : Nat} {e : Int} (h : RAt w rb s i e) (o : Nat) : w.frozen? ⟨rb, o, none⟩ = false := by simp [World.frozen?, h.blk]
theorem RAt.of_block {w w' : World} {rb : Nat} {s : ByteArray} {i : Nat} {e : Int} (h : RAt w rb s i e) (hb : w'.heap[rb]? = w.heap[rb]?) : RAt w' rb s i e := ⟨hb.trans h.blk, h.le⟩
theorem RAt.below {w w' : World} {rb : Nat} {s : ByteArray} {i : Nat} {e : Int} (h : RAt w rb s i e) (hb : Below w.heap.size w w') : RAt w' rb s i e := h.of_block (hb.block _ h.lt)
theorem set_block {w : World} {rb o : Nat} {c : Array Value} {t : TypeId} {u : Value} (h : w.heap[rb]? = some (.cells c t (0, 0))) : (w.setCell ⟨rb, o, none⟩ u).heap[rb]? = some (.cells (c.setIfInBounds o u) t (0, 0)) := by
  have hlt := lt_of_block h
  have h' : w.heap[rb] = .cells c t (0, 0) := by simpa [Array.getElem?_eq_getElem hlt] using h
  show (w.heap.modify rb _)[rb]? = _
  rw [Array.getElem?_eq_getElem (by simpa using hlt), Array.getElem_modify_self, h']
  rfl
theorem RAt.setErr {w : World} {rb : Nat} {s : ByteArray} {i : Nat} {e : Int} (h : RAt w rb s i e) (x : Int) : RAt (w.setCell ⟨rb, 2, none⟩ (.int .i64 x)) rb s i x := ⟨by rw [set_block h.blk]; rfl, h.le⟩
theorem RAt.setAt {w : World} {rb : Nat} {s : ByteArray} {i : Nat} {e : Int} (h : RAt w rb s i e) (j : Nat) (hj : j ≤ s.size) : RAt (w.setCell ⟨rb, 1, none⟩ (.int .i64 j)) rb s j e := ⟨by rw [set_block h.blk]; rfl, hj⟩

theorem RStep.refl (rb : Nat) (w : World) : RStep rb w w := ⟨rfl, rfl, rfl, Nat.le_refl _, fun _ _ _ => rfl⟩
theorem RStep.trans {rb : Nat} {a b c : World} (h : RStep rb a b) (k : RStep rb b c) : RStep rb a c :=
  ⟨k.os.trans h.os, k.tape.trans h.tape, k.output.trans h.output, Nat.le_trans h.size k.size, fun i hi hne => (k.block i (Nat.lt_of_lt_of_le hi h.size) hne).trans (h.block i hi hne)⟩
theorem RStep.of_below {rb : Nat} {a b : World} (k : Below a.heap.size a b) : RStep rb a b := ⟨k.os, k.tape, k.output, k.size, fun i hi _ => k.block i hi⟩
theorem RStep.setCell {rb o : Nat} {a b : World} (h : RStep rb a b) (u : Value) : RStep rb a (b.setCell ⟨rb, o, none⟩ u) :=
  ⟨h.os, h.tape, h.output, by have := h.size; show _ ≤ (b.heap.modify _ _).size; simp; omega, fun i hi hne => (Below.heap_setCell _ _ _ _ hne).trans (h.block i hi hne)⟩
theorem RStep.toBelow {rb B : Nat} {a b : World} (h : RStep rb a b) (hB : B ≤ rb) (hs : B ≤ a.heap.size) : Below B a b :=
  ⟨h.os, h.tape, h.output, h.size, fun k hk => h.block k (by omega) (by omega)⟩

/-- Place and error behind a call, at a value of n bytes or the error x. -/
def rdN (i : Nat) (e n x : Int) : Nat × Int := if e ≠ 0 then (i, e) else if x ≠ 0 then (i, x) else (i + n.toNat, 0)

/-- A reader's answer. -/
def RPost (w : World) (rb : Nat) (s : ByteArray) (i : Nat) (e : Int) (zero val : Value) (n x : Int) (en : Ending) (w' : World) : Prop :=
  en = .returned (.tuple #[if e ≠ 0 then zero else val, .int .i64 (rdN i e n x).2]) ∧ RAt w' rb s (rdN i e n x).1 (rdN i e n x).2 ∧ RStep rb w w'

/-- What is left of a text. -/
def rest (s : ByteArray) (i : Nat) : ByteArray := s.extract i s.size
theorem rest_size (s : ByteArray) (i : Nat) : (rest s i).size = s.size - i := by unfold rest; simp

set_option maxHeartbeats 400000 in
theorem err_any (rb : Nat) (s : ByteArray) (i : Nat) (e : Int) (w : World) (h : RAt w rb s i e) :
    Calls Tryd.prog 23 #[.pointer (some ⟨rb, 0, none⟩)] w fun en w' => en = .returned (.int .i64 e) ∧ w = w' := by
  have c2 := h.cell2
  clear h
  go_enter Tryd.func23, Tryd.ntmps23
  go_wp2
  go_ret
  exact ⟨rfl, rfl⟩

set_option maxHeartbeats 400000 in
theorem at_any (rb : Nat) (s : ByteArray) (i : Nat) (e : Int) (w : World) (h : RAt w rb s i e) :
    Calls Tryd.prog 21 #[.pointer (some ⟨rb, 0, none⟩)] w fun en w' => en = .returned (.int .i64 (i : Int)) ∧ w = w' := by
  have c2 := h.cell1
  clear h
  go_enter Tryd.func21, Tryd.ntmps21
  go_wp2
  go_ret
  exact ⟨rfl, rfl⟩

set_option maxHeartbeats 400000 in
theorem left_any (rb : Nat) (s : ByteArray) (i : Nat) (e : Int) (hl : s.size ≤ 1000000000) (w : World) (h : RAt w rb s i e) :
    Calls Tryd.prog 22 #[.pointer (some ⟨rb, 0, none⟩)] w fun en w' => en = .returned (.int .i64 ((s.size : Int) - (i : Int))) ∧ Below w.heap.size w w' := by
  have c0 := h.cell0
  have c1 := h.cell1
  have hle := h.le
  have hw : IntKind.i64.wrap ((s.size : Int) - (i : Int)) = (s.size : Int) - (i : Int) := IntWalk.i64_in _ (by omega)
  clear h
  go_enter Tryd.func22, Tryd.ntmps22
  go_wp2_with fail
  go_quiet (fail)
  go_wp2
  go_ret
  exact ⟨rfl, below_drewN (Below.refl _ _) _⟩

set_option maxHeartbeats 400000 in
theorem newReader_any (s : ByteArray) (w : World) :
    Calls Tryd.prog 17 #[.string s] w fun e w' => e = .returned (.pointer (some ⟨w.heap.size, 0, none⟩)) ∧ Below w.heap.size w w' ∧ RAt w' w.heap.size s 0 0 := by
  go_enter Tryd.func17, Tryd.ntmps17
  go_wp2
  go_ret
  exact ⟨rfl, (Below.refl _ _).alloc (Nat.le_refl _) _, ⟨heap_alloc_new w _, Nat.zero_le _⟩⟩

set_option maxHeartbeats 2000000 in
set_option maxRecDepth 100000 in
theorem next_little (rb : Nat) (s : ByteArray) (i : Nat) (e : Int) (cb : Nat) (val : Value) (n x : Int) (hl : s.size ≤ 1000000000) (w : World) (h : RAt w rb s i e) (hz : x ≠ 0 → val = .int .i64 0)
    (hn : x = 0 → 0 ≤ n ∧ n ≤ ((rest s i).size : Int))
    (hf : Calls Tryd.prog 72 #[.string (rest s i), .pointer (some ⟨cb, 0, none⟩)] w.drew fun en w' => en = .returned (.tuple #[val, .int .i64 n, .int .i64 x]) ∧ Below w.heap.size w.drew w') :
    Calls Tryd.prog 67 #[.pointer (some ⟨rb, 0, none⟩), .func (.func 72) #[] #[.pointer (some ⟨cb, 0, none⟩)]] w (RPost w rb s i e (.int .i64 0) val n x) := by
  have c0 := h.cell0
  have c1 := h.cell1
  have hle := h.le
  have hlt := h.lt
  have HERR := Lib.hid (err_any rb s i e w h)
  rw [rest_size] at hn
  have HF := Lib.hid hf
  clear hf
  by_cases he : e = 0
  · subst he
    have hleI : (i : Int) ≤ (s.size : Int) := by omega
    have hw0 : (0 : Int) ≤ (i : Int) := by omega
    by_cases hx : x = 0
    · subst hx
      obtain ⟨hn0, hn1⟩ := hn rfl
      obtain ⟨k, rfl⟩ := Int.eq_ofNat_of_zero_le hn0
      have hk : i + k ≤ s.size := by omega
      have HP : Hid (∀ w1, Below w.heap.size w.drew w1 → RPost w rb s i 0 (.int .i64 0) val (k : Int) 0 (.returned (.tuple #[val, .int .i64 0])) (w1.setCell ⟨rb, 1, none⟩ (.int .i64 ((i : Int) + (k : Int))))) := by
        intro w1 hb
        have hr := h.below (Below.trans ((Below.refl _ _).drew) hb)
        refine ⟨by simp [rdN], ?_, (RStep.of_below (Below.trans ((Below.refl _ _).drew) hb)).setCell _⟩
        have := hr.setAt (i + k) hk
        simpa [rdN] using this
      have HK : Hid (∀ w1, Below w.heap.size w.drew w1 → w1.cell? ⟨rb, 1, none⟩ = some (.int .i64 i) ∧ w1.frozen? ⟨rb, 1, none⟩ = false ∧ w1.cell? ⟨rb, 0, none⟩ = some (.string s)) := by
        intro w1 hb
        have hr := h.below (Below.trans ((Below.refl _ _).drew) hb)
        exact ⟨hr.cell1, hr.free 1, hr.cell0⟩
      clear hn hz h hn0
      go_enter Tryd.func67, Tryd.ntmps67
      go_wp2_with fail
      refine HERR.out.mono ?_
      rintro en w1 ⟨rfl, rfl⟩
      go_wp2_with fail
      go_region_held3 (fun w' => w'.cell? ⟨rb, 0, none⟩ = some (.string s) ∧ w'.cell? ⟨rb, 1, none⟩ = some (.int .i64 i))
        (first | go_keep | exact ⟨(HK.out _ hb3).2.2, (HK.out _ hb3).1⟩)
        ((go_at_call 72; refine HF.out.mono ?_; rintro en w3 ⟨rfl, hb3⟩))
      have HP2 := Lib.hid (HP.out _ hb3)
      obtain ⟨d1, f1, _⟩ := HK.out _ hb3
      clear c0 c1 hb3 HP
      go_wp2
      go_ret2
      exact HP2.out
    · obtain rfl := hz hx
      have hxb : (x != 0) = true := by rw [bne_iff_ne]; exact hx
      have HP : Hid (∀ w1, Below w.heap.size w.drew w1 → RPost w rb s i 0 (.int .i64 0) (.int .i64 0) n x (.returned (.tuple #[.int .i64 0, .int .i64 x])) (w1.setCell ⟨rb, 2, none⟩ (.int .i64 x))) := by
        intro w1 hb
        have hr := h.below (Below.trans ((Below.refl _ _).drew) hb)
        refine ⟨by simp [rdN, hx], ?_, (RStep.of_below (Below.trans ((Below.refl _ _).drew) hb)).setCell _⟩
        have := hr.setErr x
        simpa [rdN, hx] using this
      have HK : Hid (∀ w1, Below w.heap.size w.drew w1 → w1.cell? ⟨rb, 1, none⟩ = some (.int .i64 i) ∧ w1.frozen? ⟨rb, 2, none⟩ = false ∧ w1.cell? ⟨rb, 0, none⟩ = some (.string s) ∧ w1.cell? ⟨rb, 2, none⟩ = some (.int .i64 0)) := by
        intro w1 hb
        have hr := h.below (Below.trans ((Below.refl _ _).drew) hb)
        exact ⟨hr.cell1, hr.free 2, hr.cell0, hr.cell2⟩
      clear hn hz h hx
      go_enter Tryd.func67, Tryd.ntmps67
      go_wp2_with fail
      refine HERR.out.mono ?_
      rintro en w1 ⟨rfl, rfl⟩
      go_wp2_with fail
      go_region_held3 (fun w' => w'.cell? ⟨rb, 0, none⟩ = some (.string s) ∧ w'.cell? ⟨rb, 1, none⟩ = some (.int .i64 i))
        (first | go_keep | exact ⟨(HK.out _ hb3).2.2.1, (HK.out _ hb3).1⟩)
        ((go_at_call 72; refine HF.out.mono ?_; rintro en w3 ⟨rfl, hb3⟩))
      have HP2 := Lib.hid (HP.out _ hb3)
      obtain ⟨_, f2, _, d2⟩ := HK.out _ hb3
      clear c0 c1 hb3 HP
      go_wp2
      go_ret2
      exact HP2.out
  · have heb : (e != 0) = true := by rw [bne_iff_ne]; exact he
    have HP : Hid (RPost w rb s i e (.int .i64 0) val n x (.returned (.tuple #[.int .i64 0, .int .i64 e])) w) := by
      show RPost _ _ _ _ _ _ _ _ _ _ _
      refine ⟨by simp [rdN, he], by simpa [rdN, he] using h, RStep.refl _ _⟩
    clear hn hz h he
    go_enter Tryd.func67, Tryd.ntmps67
    go_wp2_with fail
    refine HERR.out.mono ?_
    rintro en w1 ⟨rfl, rfl⟩
    go_wp2
    go_ret2
    exact HP.out

set_option maxHeartbeats 2000000 in
set_option maxRecDepth 100000 in
theorem next_signed (rb : Nat) (s : ByteArray) (i : Nat) (e : Int) (cb : Nat) (val : Value) (n x : Int) (hl : s.size ≤ 1000000000) (w : World) (h : RAt w rb s i e) (hz : x ≠ 0 → val = .int .i64 0)
    (hn : x = 0 → 0 ≤ n ∧ n ≤ ((rest s i).size : Int))
    (hf : Calls Tryd.prog 74 #[.string (rest s i), .pointer (some ⟨cb, 0, none⟩)] w.drew fun en w' => en = .returned (.tuple #[val, .int .i64 n, .int .i64 x]) ∧ Below w.heap.size w.drew w') :
    Calls Tryd.prog 67 #[.pointer (some ⟨rb, 0, none⟩), .func (.func 74) #[] #[.pointer (some ⟨cb, 0, none⟩)]] w (RPost w rb s i e (.int .i64 0) val n x) := by
  have c0 := h.cell0
  have c1 := h.cell1
  have hle := h.le
  have hlt := h.lt
  have HERR := Lib.hid (err_any rb s i e w h)
  rw [rest_size] at hn
  have HF := Lib.hid hf
  clear hf
  by_cases he : e = 0
  · subst he
    have hleI : (i : Int) ≤ (s.size : Int) := by omega
    have hw0 : (0 : Int) ≤ (i : Int) := by omega
    by_cases hx : x = 0
    · subst hx
      obtain ⟨hn0, hn1⟩ := hn rfl
      obtain ⟨k, rfl⟩ := Int.eq_ofNat_of_zero_le hn0
      have hk : i + k ≤ s.size := by omega
      have HP : Hid (∀ w1, Below w.heap.size w.drew w1 → RPost w rb s i 0 (.int .i64 0) val (k : Int) 0 (.returned (.tuple #[val, .int .i64 0])) (w1.setCell ⟨rb, 1, none⟩ (.int .i64 ((i : Int) + (k : Int))))) := by
        intro w1 hb
        have hr := h.below (Below.trans ((Below.refl _ _).drew) hb)
        refine ⟨by simp [rdN], ?_, (RStep.of_below (Below.trans ((Below.refl _ _).drew) hb)).setCell _⟩
        have := hr.setAt (i + k) hk
        simpa [rdN] using this
      have HK : Hid (∀ w1, Below w.heap.size w.drew w1 → w1.cell? ⟨rb, 1, none⟩ = some (.int .i64 i) ∧ w1.frozen? ⟨rb, 1, none⟩ = false ∧ w1.cell? ⟨rb, 0, none⟩ = some (.string s)) := by
        intro w1 hb
        have hr := h.below (Below.trans ((Below.refl _ _).drew) hb)
        exact ⟨hr.cell1, hr.free 1, hr.cell0⟩
      clear hn hz h hn0
      go_enter Tryd.func67, Tryd.ntmps67
      go_wp2_with fail
      refine HERR.out.mono ?_
      rintro en w1 ⟨rfl, rfl⟩
      go_wp2_with fail
      go_region_held3 (fun w' => w'.cell? ⟨rb, 0, none⟩ = some (.string s) ∧ w'.cell? ⟨rb, 1, none⟩ = some (.int .i64 i))
        (first | go_keep | exact ⟨(HK.out _ hb3).2.2, (HK.out _ hb3).1⟩)
        ((go_at_call 74; refine HF.out.mono ?_; rintro en w3 ⟨rfl, hb3⟩))
      have HP2 := Lib.hid (HP.out _ hb3)
      obtain ⟨d1, f1, _⟩ := HK.out _ hb3
      clear c0 c1 hb3 HP
      go_wp2
      go_ret2
      exact HP2.out
    · obtain rfl := hz hx
      have hxb : (x != 0) = true := by rw [bne_iff_ne]; exact hx
      have HP : Hid (∀ w1, Below w.heap.size w.drew w1 → RPost w rb s i 0 (.int .i64 0) (.int .i64 0) n x (.returned (.tuple #[.int .i64 0, .int .i64 x])) (w1.setCell ⟨rb, 2, none⟩ (.int .i64 x))) := by
        intro w1 hb
        have hr := h.below (Below.trans ((Below.refl _ _).drew) hb)
        refine ⟨by simp [rdN, hx], ?_, (RStep.of_below (Below.trans ((Below.refl _ _).drew) hb)).setCell _⟩
        have := hr.setErr x
        simpa [rdN, hx] using this
      have HK : Hid (∀ w1, Below w.heap.size w.drew w1 → w1.cell? ⟨rb, 1, none⟩ = some (.int .i64 i) ∧ w1.frozen? ⟨rb, 2, none⟩ = false ∧ w1.cell? ⟨rb, 0, none⟩ = some (.string s) ∧ w1.cell? ⟨rb, 2, none⟩ = some (.int .i64 0)) := by
        intro w1 hb
        have hr := h.below (Below.trans ((Below.refl _ _).drew) hb)
        exact ⟨hr.cell1, hr.free 2, hr.cell0, hr.cell2⟩
      clear hn hz h hx
      go_enter Tryd.func67, Tryd.ntmps67
      go_wp2_with fail
      refine HERR.out.mono ?_
      rintro en w1 ⟨rfl, rfl⟩
      go_wp2_with fail
      go_region_held3 (fun w' => w'.cell? ⟨rb, 0, none⟩ = some (.string s) ∧ w'.cell? ⟨rb, 1, none⟩ = some (.int .i64 i))
        (first | go_keep | exact ⟨(HK.out _ hb3).2.2.1, (HK.out _ hb3).1⟩)
        ((go_at_call 74; refine HF.out.mono ?_; rintro en w3 ⟨rfl, hb3⟩))
      have HP2 := Lib.hid (HP.out _ hb3)
      obtain ⟨_, f2, _, d2⟩ := HK.out _ hb3
      clear c0 c1 hb3 HP
      go_wp2
      go_ret2
      exact HP2.out
  · have heb : (e != 0) = true := by rw [bne_iff_ne]; exact he
    have HP : Hid (RPost w rb s i e (.int .i64 0) val n x (.returned (.tuple #[.int .i64 0, .int .i64 e])) w) := by
      show RPost _ _ _ _ _ _ _ _ _ _ _
      refine ⟨by simp [rdN, he], by simpa [rdN, he] using h, RStep.refl _ _⟩
    clear hn hz h he
    go_enter Tryd.func67, Tryd.ntmps67
    go_wp2_with fail
    refine HERR.out.mono ?_
    rintro en w1 ⟨rfl, rfl⟩
    go_wp2
    go_ret2
    exact HP.out

set_option maxHeartbeats 2000000 in
set_option maxRecDepth 100000 in
theorem next_number (rb : Nat) (s : ByteArray) (i : Nat) (e : Int) (val : Value) (n x : Int) (hl : s.size ≤ 1000000000) (w : World) (h : RAt w rb s i e) (hz : x ≠ 0 → val = .int .i64 0)
    (hn : x = 0 → 0 ≤ n ∧ n ≤ ((rest s i).size : Int))
    (hf : Calls Tryd.prog 68 #[.string (rest s i)] w.drew fun en w' => en = .returned (.tuple #[val, .int .i64 n, .int .i64 x]) ∧ Below w.heap.size w.drew w') :
    Calls Tryd.prog 67 #[.pointer (some ⟨rb, 0, none⟩), .func (.func 68) #[] #[]] w (RPost w rb s i e (.int .i64 0) val n x) := by
  have c0 := h.cell0
  have c1 := h.cell1
  have hle := h.le
  have hlt := h.lt
  have HERR := Lib.hid (err_any rb s i e w h)
  rw [rest_size] at hn
  have HF := Lib.hid hf
  clear hf
  by_cases he : e = 0
  · subst he
    have hleI : (i : Int) ≤ (s.size : Int) := by omega
    have hw0 : (0 : Int) ≤ (i : Int) := by omega
    by_cases hx : x = 0
    · subst hx
      obtain ⟨hn0, hn1⟩ := hn rfl
      obtain ⟨k, rfl⟩ := Int.eq_ofNat_of_zero_le hn0
      have hk : i + k ≤ s.size := by omega
      have HP : Hid (∀ w1, Below w.heap.size w.drew w1 → RPost w rb s i 0 (.int .i64 0) val (k : Int) 0 (.returned (.tuple #[val, .int .i64 0])) (w1.setCell ⟨rb, 1, none⟩ (.int .i64 ((i : Int) + (k : Int))))) := by
        intro w1 hb
        have hr := h.below (Below.trans ((Below.refl _ _).drew) hb)
        refine ⟨by simp [rdN], ?_, (RStep.of_below (Below.trans ((Below.refl _ _).drew) hb)).setCell _⟩
        have := hr.setAt (i + k) hk
        simpa [rdN] using this
      have HK : Hid (∀ w1, Below w.heap.size w.drew w1 → w1.cell? ⟨rb, 1, none⟩ = some (.int .i64 i) ∧ w1.frozen? ⟨rb, 1, none⟩ = false ∧ w1.cell? ⟨rb, 0, none⟩ = some (.string s)) := by
        intro w1 hb
        have hr := h.below (Below.trans ((Below.refl _ _).drew) hb)
        exact ⟨hr.cell1, hr.free 1, hr.cell0⟩
      clear hn hz h hn0
      go_enter Tryd.func67, Tryd.ntmps67
      go_wp2_with fail
      refine HERR.out.mono ?_
      rintro en w1 ⟨rfl, rfl⟩
      go_wp2_with fail
      go_region_held3 (fun w' => w'.cell? ⟨rb, 0, none⟩ = some (.string s) ∧ w'.cell? ⟨rb, 1, none⟩ = some (.int .i64 i))
        (first | go_keep | exact ⟨(HK.out _ hb3).2.2, (HK.out _ hb3).1⟩)
        ((go_at_call 68; refine HF.out.mono ?_; rintro en w3 ⟨rfl, hb3⟩))
      have HP2 := Lib.hid (HP.out _ hb3)
      obtain ⟨d1, f1, _⟩ := HK.out _ hb3
      clear c0 c1 hb3 HP
      go_wp2
      go_ret2
      exact HP2.out
    · obtain rfl := hz hx
      have hxb : (x != 0) = true := by rw [bne_iff_ne]; exact hx
      have HP : Hid (∀ w1, Below w.heap.size w.drew w1 → RPost w rb s i 0 (.int .i64 0) (.int .i64 0) n x (.returned (.tuple #[.int .i64 0, .int .i64 x])) (w1.setCell ⟨rb, 2, none⟩ (.int .i64 x))) := by
        intro w1 hb
        have hr := h.below (Below.trans ((Below.refl _ _).drew) hb)
        refine ⟨by simp [rdN, hx], ?_, (RStep.of_below (Below.trans ((Below.refl _ _).drew) hb)).setCell _⟩
        have := hr.setErr x
        simpa [rdN, hx] using this
      have HK : Hid (∀ w1, Below w.heap.size w.drew w1 → w1.cell? ⟨rb, 1, none⟩ = some (.int .i64 i) ∧ w1.frozen? ⟨rb, 2, none⟩ = false ∧ w1.cell? ⟨rb, 0, none⟩ = some (.string s) ∧ w1.cell? ⟨rb, 2, none⟩ = some (.int .i64 0)) := by
        intro w1 hb
        have hr := h.below (Below.trans ((Below.refl _ _).drew) hb)
        exact ⟨hr.cell1, hr.free 2, hr.cell0, hr.cell2⟩
      clear hn hz h hx
      go_enter Tryd.func67, Tryd.ntmps67
      go_wp2_with fail
      refine HERR.out.mono ?_
      rintro en w1 ⟨rfl, rfl⟩
      go_wp2_with fail
      go_region_held3 (fun w' => w'.cell? ⟨rb, 0, none⟩ = some (.string s) ∧ w'.cell? ⟨rb, 1, none⟩ = some (.int .i64 i))
        (first | go_keep | exact ⟨(HK.out _ hb3).2.2.1, (HK.out _ hb3).1⟩)
        ((go_at_call 68; refine HF.out.mono ?_; rintro en w3 ⟨rfl, hb3⟩))
      have HP2 := Lib.hid (HP.out _ hb3)
      obtain ⟨_, f2, _, d2⟩ := HK.out _ hb3
      clear c0 c1 hb3 HP
      go_wp2
      go_ret2
      exact HP2.out
  · have heb : (e != 0) = true := by rw [bne_iff_ne]; exact he
    have HP : Hid (RPost w rb s i e (.int .i64 0) val n x (.returned (.tuple #[.int .i64 0, .int .i64 e])) w) := by
      show RPost _ _ _ _ _ _ _ _ _ _ _
      refine ⟨by simp [rdN, he], by simpa [rdN, he] using h, RStep.refl _ _⟩
    clear hn hz h he
    go_enter Tryd.func67, Tryd.ntmps67
    go_wp2_with fail
    refine HERR.out.mono ?_
    rintro en w1 ⟨rfl, rfl⟩
    go_wp2
    go_ret2
    exact HP.out

set_option maxHeartbeats 2000000 in
set_option maxRecDepth 100000 in
theorem next_count (rb : Nat) (s : ByteArray) (i : Nat) (e : Int) (cb : Nat) (val : Value) (n x : Int) (hl : s.size ≤ 1000000000) (w : World) (h : RAt w rb s i e) (hz : x ≠ 0 → val = .int .i64 0)
    (hn : x = 0 → 0 ≤ n ∧ n ≤ ((rest s i).size : Int))
    (hf : Calls Tryd.prog 81 #[.string (rest s i), .pointer (some ⟨cb, 0, none⟩)] w.drew fun en w' => en = .returned (.tuple #[val, .int .i64 n, .int .i64 x]) ∧ Below w.heap.size w.drew w') :
    Calls Tryd.prog 80 #[.pointer (some ⟨rb, 0, none⟩), .func (.func 81) #[] #[.pointer (some ⟨cb, 0, none⟩)]] w (RPost w rb s i e (.int .i64 0) val n x) := by
  have c0 := h.cell0
  have c1 := h.cell1
  have hle := h.le
  have hlt := h.lt
  have HERR := Lib.hid (err_any rb s i e w h)
  rw [rest_size] at hn
  have HF := Lib.hid hf
  clear hf
  by_cases he : e = 0
  · subst he
    have hleI : (i : Int) ≤ (s.size : Int) := by omega
    have hw0 : (0 : Int) ≤ (i : Int) := by omega
    by_cases hx : x = 0
    · subst hx
      obtain ⟨hn0, hn1⟩ := hn rfl
      obtain ⟨k, rfl⟩ := Int.eq_ofNat_of_zero_le hn0
      have hk : i + k ≤ s.size := by omega
      have HP : Hid (∀ w1, Below w.heap.size w.drew w1 → RPost w rb s i 0 (.int .i64 0) val (k : Int) 0 (.returned (.tuple #[val, .int .i64 0])) (w1.setCell ⟨rb, 1, none⟩ (.int .i64 ((i : Int) + (k : Int))))) := by
        intro w1 hb
        have hr := h.below (Below.trans ((Below.refl _ _).drew) hb)
        refine ⟨by simp [rdN], ?_, (RStep.of_below (Below.trans ((Below.refl _ _).drew) hb)).setCell _⟩
        have := hr.setAt (i + k) hk
        simpa [rdN] using this
      have HK : Hid (∀ w1, Below w.heap.size w.drew w1 → w1.cell? ⟨rb, 1, none⟩ = some (.int .i64 i) ∧ w1.frozen? ⟨rb, 1, none⟩ = false ∧ w1.cell? ⟨rb, 0, none⟩ = some (.string s)) := by
        intro w1 hb
        have hr := h.below (Below.trans ((Below.refl _ _).drew) hb)
        exact ⟨hr.cell1, hr.free 1, hr.cell0⟩
      clear hn hz h hn0
      go_enter Tryd.func80, Tryd.ntmps80
      go_wp2_with fail
      refine HERR.out.mono ?_
      rintro en w1 ⟨rfl, rfl⟩
      go_wp2_with fail
      go_region_held3 (fun w' => w'.cell? ⟨rb, 0, none⟩ = some (.string s) ∧ w'.cell? ⟨rb, 1, none⟩ = some (.int .i64 i))
        (first | go_keep | exact ⟨(HK.out _ hb3).2.2, (HK.out _ hb3).1⟩)
        ((go_at_call 81; refine HF.out.mono ?_; rintro en w3 ⟨rfl, hb3⟩))
      have HP2 := Lib.hid (HP.out _ hb3)
      obtain ⟨d1, f1, _⟩ := HK.out _ hb3
      clear c0 c1 hb3 HP
      go_wp2
      go_ret2
      exact HP2.out
    · obtain rfl := hz hx
      have hxb : (x != 0) = true := by rw [bne_iff_ne]; exact hx
      have HP : Hid (∀ w1, Below w.heap.size w.drew w1 → RPost w rb s i 0 (.int .i64 0) (.int .i64 0) n x (.returned (.tuple #[.int .i64 0, .int .i64 x])) (w1.setCell ⟨rb, 2, none⟩ (.int .i64 x))) := by
        intro w1 hb
        have hr := h.below (Below.trans ((Below.refl _ _).drew) hb)
        refine ⟨by simp [rdN, hx], ?_, (RStep.of_below (Below.trans ((Below.refl _ _).drew) hb)).setCell _⟩
        have := hr.setErr x
        simpa [rdN, hx] using this
      have HK : Hid (∀ w1, Below w.heap.size w.drew w1 → w1.cell? ⟨rb, 1, none⟩ = some (.int .i64 i) ∧ w1.frozen? ⟨rb, 2, none⟩ = false ∧ w1.cell? ⟨rb, 0, none⟩ = some (.string s) ∧ w1.cell? ⟨rb, 2, none⟩ = some (.int .i64 0)) := by
        intro w1 hb
        have hr := h.below (Below.trans ((Below.refl _ _).drew) hb)
        exact ⟨hr.cell1, hr.free 2, hr.cell0, hr.cell2⟩
      clear hn hz h hx
      go_enter Tryd.func80, Tryd.ntmps80
      go_wp2_with fail
      refine HERR.out.mono ?_
      rintro en w1 ⟨rfl, rfl⟩
      go_wp2_with fail
      go_region_held3 (fun w' => w'.cell? ⟨rb, 0, none⟩ = some (.string s) ∧ w'.cell? ⟨rb, 1, none⟩ = some (.int .i64 i))
        (first | go_keep | exact ⟨(HK.out _ hb3).2.2.1, (HK.out _ hb3).1⟩)
        ((go_at_call 81; refine HF.out.mono ?_; rintro en w3 ⟨rfl, hb3⟩))
      have HP2 := Lib.hid (HP.out _ hb3)
      obtain ⟨_, f2, _, d2⟩ := HK.out _ hb3
      clear c0 c1 hb3 HP
      go_wp2
      go_ret2
      exact HP2.out
  · have heb : (e != 0) = true := by rw [bne_iff_ne]; exact he
    have HP : Hid (RPost w rb s i e (.int .i64 0) val n x (.returned (.tuple #[.int .i64 0, .int .i64 e])) w) := by
      show RPost _ _ _ _ _ _ _ _ _ _ _
      refine ⟨by simp [rdN, he], by simpa [rdN, he] using h, RStep.refl _ _⟩
    clear hn hz h he
    go_enter Tryd.func80, Tryd.ntmps80
    go_wp2_with fail
    refine HERR.out.mono ?_
    rintro en w1 ⟨rfl, rfl⟩
    go_wp2
    go_ret2
    exact HP.out

set_option maxHeartbeats 2000000 in
set_option maxRecDepth 100000 in
theorem next_string (rb : Nat) (s : ByteArray) (i : Nat) (e : Int) (cb : Nat) (val : Value) (n x : Int) (hl : s.size ≤ 1000000000) (w : World) (h : RAt w rb s i e) (hz : x ≠ 0 → val = .string ⟨#[]⟩)
    (hn : x = 0 → 0 ≤ n ∧ n ≤ ((rest s i).size : Int))
    (hf : Calls Tryd.prog 76 #[.string (rest s i), .pointer (some ⟨cb, 0, none⟩)] w.drew fun en w' => en = .returned (.tuple #[val, .int .i64 n, .int .i64 x]) ∧ Below w.heap.size w.drew w') :
    Calls Tryd.prog 59 #[.pointer (some ⟨rb, 0, none⟩), .func (.func 76) #[] #[.pointer (some ⟨cb, 0, none⟩)]] w (RPost w rb s i e (.string ⟨#[]⟩) val n x) := by
  have c0 := h.cell0
  have c1 := h.cell1
  have hle := h.le
  have hlt := h.lt
  have HERR := Lib.hid (err_any rb s i e w h)
  rw [rest_size] at hn
  have HF := Lib.hid hf
  clear hf
  by_cases he : e = 0
  · subst he
    have hleI : (i : Int) ≤ (s.size : Int) := by omega
    have hw0 : (0 : Int) ≤ (i : Int) := by omega
    by_cases hx : x = 0
    · subst hx
      obtain ⟨hn0, hn1⟩ := hn rfl
      obtain ⟨k, rfl⟩ := Int.eq_ofNat_of_zero_le hn0
      have hk : i + k ≤ s.size := by omega
      have HP : Hid (∀ w1, Below w.heap.size w.drew w1 → RPost w rb s i 0 (.string ⟨#[]⟩) val (k : Int) 0 (.returned (.tuple #[val, .int .i64 0])) (w1.setCell ⟨rb, 1, none⟩ (.int .i64 ((i : Int) + (k : Int))))) := by
        intro w1 hb
        have hr := h.below (Below.trans ((Below.refl _ _).drew) hb)
        refine ⟨by simp [rdN], ?_, (RStep.of_below (Below.trans ((Below.refl _ _).drew) hb)).setCell _⟩
        have := hr.setAt (i + k) hk
        simpa [rdN] using this
      have HK : Hid (∀ w1, Below w.heap.size w.drew w1 → w1.cell? ⟨rb, 1, none⟩ = some (.int .i64 i) ∧ w1.frozen? ⟨rb, 1, none⟩ = false ∧ w1.cell? ⟨rb, 0, none⟩ = some (.string s)) := by
        intro w1 hb
        have hr := h.below (Below.trans ((Below.refl _ _).drew) hb)
        exact ⟨hr.cell1, hr.free 1, hr.cell0⟩
      clear hn hz h hn0
      go_enter Tryd.func59, Tryd.ntmps59
      go_wp2_with fail
      refine HERR.out.mono ?_
      rintro en w1 ⟨rfl, rfl⟩
      go_wp2_with fail
      go_region_held3 (fun w' => w'.cell? ⟨rb, 0, none⟩ = some (.string s) ∧ w'.cell? ⟨rb, 1, none⟩ = some (.int .i64 i))
        (first | go_keep | exact ⟨(HK.out _ hb3).2.2, (HK.out _ hb3).1⟩)
        ((go_at_call 76; refine HF.out.mono ?_; rintro en w3 ⟨rfl, hb3⟩))
      have HP2 := Lib.hid (HP.out _ hb3)
      obtain ⟨d1, f1, _⟩ := HK.out _ hb3
      clear c0 c1 hb3 HP
      go_wp2
      go_ret2
      exact HP2.out
    · obtain rfl := hz hx
      have hxb : (x != 0) = true := by rw [bne_iff_ne]; exact hx
      have HP : Hid (∀ w1, Below w.heap.size w.drew w1 → RPost w rb s i 0 (.string ⟨#[]⟩) (.string ⟨#[]⟩) n x (.returned (.tuple #[.string ⟨#[]⟩, .int .i64 x])) (w1.setCell ⟨rb, 2, none⟩ (.int .i64 x))) := by
        intro w1 hb
        have hr := h.below (Below.trans ((Below.refl _ _).drew) hb)
        refine ⟨by simp [rdN, hx], ?_, (RStep.of_below (Below.trans ((Below.refl _ _).drew) hb)).setCell _⟩
        have := hr.setErr x
        simpa [rdN, hx] using this
      have HK : Hid (∀ w1, Below w.heap.size w.drew w1 → w1.cell? ⟨rb, 1, none⟩ = some (.int .i64 i) ∧ w1.frozen? ⟨rb, 2, none⟩ = false ∧ w1.cell? ⟨rb, 0, none⟩ = some (.string s) ∧ w1.cell? ⟨rb, 2, none⟩ = some (.int .i64 0)) := by
        intro w1 hb
        have hr := h.below (Below.trans ((Below.refl _ _).drew) hb)
        exact ⟨hr.cell1, hr.free 2, hr.cell0, hr.cell2⟩
      clear hn hz h hx
      go_enter Tryd.func59, Tryd.ntmps59
      go_wp2_with fail
      refine HERR.out.mono ?_
      rintro en w1 ⟨rfl, rfl⟩
      go_wp2_with fail
      go_region_held3 (fun w' => w'.cell? ⟨rb, 0, none⟩ = some (.string s) ∧ w'.cell? ⟨rb, 1, none⟩ = some (.int .i64 i))
        (first | go_keep | exact ⟨(HK.out _ hb3).2.2.1, (HK.out _ hb3).1⟩)
        ((go_at_call 76; refine HF.out.mono ?_; rintro en w3 ⟨rfl, hb3⟩))
      have HP2 := Lib.hid (HP.out _ hb3)
      obtain ⟨_, f2, _, d2⟩ := HK.out _ hb3
      clear c0 c1 hb3 HP
      go_wp2
      go_ret2
      exact HP2.out
  · have heb : (e != 0) = true := by rw [bne_iff_ne]; exact he
    have HP : Hid (RPost w rb s i e (.string ⟨#[]⟩) val n x (.returned (.tuple #[.string ⟨#[]⟩, .int .i64 e])) w) := by
      show RPost _ _ _ _ _ _ _ _ _ _ _
      refine ⟨by simp [rdN, he], by simpa [rdN, he] using h, RStep.refl _ _⟩
    clear hn hz h he
    go_enter Tryd.func59, Tryd.ntmps59
    go_wp2_with fail
    refine HERR.out.mono ?_
    rintro en w1 ⟨rfl, rfl⟩
    go_wp2
    go_ret2
    exact HP.out

set_option maxHeartbeats 2000000 in
set_option maxRecDepth 100000 in
theorem next_raw (rb : Nat) (s : ByteArray) (i : Nat) (e : Int) (cb : Nat) (val : Value) (n x : Int) (hl : s.size ≤ 1000000000) (w : World) (h : RAt w rb s i e) (hz : x ≠ 0 → val = .string ⟨#[]⟩)
    (hn : x = 0 → 0 ≤ n ∧ n ≤ ((rest s i).size : Int))
    (hf : Calls Tryd.prog 60 #[.string (rest s i), .pointer (some ⟨cb, 0, none⟩)] w.drew fun en w' => en = .returned (.tuple #[val, .int .i64 n, .int .i64 x]) ∧ Below w.heap.size w.drew w') :
    Calls Tryd.prog 59 #[.pointer (some ⟨rb, 0, none⟩), .func (.func 60) #[] #[.pointer (some ⟨cb, 0, none⟩)]] w (RPost w rb s i e (.string ⟨#[]⟩) val n x) := by
  have c0 := h.cell0
  have c1 := h.cell1
  have hle := h.le
  have hlt := h.lt
  have HERR := Lib.hid (err_any rb s i e w h)
  rw [rest_size] at hn
  have HF := Lib.hid hf
  clear hf
  by_cases he : e = 0
  · subst he
    have hleI : (i : Int) ≤ (s.size : Int) := by omega
    have hw0 : (0 : Int) ≤ (i : Int) := by omega
    by_cases hx : x = 0
    · subst hx
      obtain ⟨hn0, hn1⟩ := hn rfl
      obtain ⟨k, rfl⟩ := Int.eq_ofNat_of_zero_le hn0
      have hk : i + k ≤ s.size := by omega
      have HP : Hid (∀ w1, Below w.heap.size w.drew w1 → RPost w rb s i 0 (.string ⟨#[]⟩) val (k : Int) 0 (.returned (.tuple #[val, .int .i64 0])) (w1.setCell ⟨rb, 1, none⟩ (.int .i64 ((i : Int) + (k : Int))))) := by
        intro w1 hb
        have hr := h.below (Below.trans ((Below.refl _ _).drew) hb)
        refine ⟨by simp [rdN], ?_, (RStep.of_below (Below.trans ((Below.refl _ _).drew) hb)).setCell _⟩
        have := hr.setAt (i + k) hk
        simpa [rdN] using this
      have HK : Hid (∀ w1, Below w.heap.size w.drew w1 → w1.cell? ⟨rb, 1, none⟩ = some (.int .i64 i) ∧ w1.frozen? ⟨rb, 1, none⟩ = false ∧ w1.cell? ⟨rb, 0, none⟩ = some (.string s)) := by
        intro w1 hb
        have hr := h.below (Below.trans ((Below.refl _ _).drew) hb)
        exact ⟨hr.cell1, hr.free 1, hr.cell0⟩
      clear hn hz h hn0
      go_enter Tryd.func59, Tryd.ntmps59
      go_wp2_with fail
      refine HERR.out.mono ?_
      rintro en w1 ⟨rfl, rfl⟩
      go_wp2_with fail
      go_region_held3 (fun w' => w'.cell? ⟨rb, 0, none⟩ = some (.string s) ∧ w'.cell? ⟨rb, 1, none⟩ = some (.int .i64 i))
        (first | go_keep | exact ⟨(HK.out _ hb3).2.2, (HK.out _ hb3).1⟩)
        ((go_at_call 60; refine HF.out.mono ?_; rintro en w3 ⟨rfl, hb3⟩))
      have HP2 := Lib.hid (HP.out _ hb3)
      obtain ⟨d1, f1, _⟩ := HK.out _ hb3
      clear c0 c1 hb3 HP
      go_wp2
      go_ret2
      exact HP2.out
    · obtain rfl := hz hx
      have hxb : (x != 0) = true := by rw [bne_iff_ne]; exact hx
      have HP : Hid (∀ w1, Below w.heap.size w.drew w1 → RPost w rb s i 0 (.string ⟨#[]⟩) (.string ⟨#[]⟩) n x (.returned (.tuple #[.string ⟨#[]⟩, .int .i64 x])) (w1.setCell ⟨rb, 2, none⟩ (.int .i64 x))) := by
        intro w1 hb
        have hr := h.below (Below.trans ((Below.refl _ _).drew) hb)
        refine ⟨by simp [rdN, hx], ?_, (RStep.of_below (Below.trans ((Below.refl _ _).drew) hb)).setCell _⟩
        have := hr.setErr x
        simpa [rdN, hx] using this
      have HK : Hid (∀ w1, Below w.heap.size w.drew w1 → w1.cell? ⟨rb, 1, none⟩ = some (.int .i64 i) ∧ w1.frozen? ⟨rb, 2, none⟩ = false ∧ w1.cell? ⟨rb, 0, none⟩ = some (.string s) ∧ w1.cell? ⟨rb, 2, none⟩ = some (.int .i64 0)) := by
        intro w1 hb
        have hr := h.below (Below.trans ((Below.refl _ _).drew) hb)
        exact ⟨hr.cell1, hr.free 2, hr.cell0, hr.cell2⟩
      clear hn hz h hx
      go_enter Tryd.func59, Tryd.ntmps59
      go_wp2_with fail
      refine HERR.out.mono ?_
      rintro en w1 ⟨rfl, rfl⟩
      go_wp2_with fail
      go_region_held3 (fun w' => w'.cell? ⟨rb, 0, none⟩ = some (.string s) ∧ w'.cell? ⟨rb, 1, none⟩ = some (.int .i64 i))
        (first | go_keep | exact ⟨(HK.out _ hb3).2.2.1, (HK.out _ hb3).1⟩)
        ((go_at_call 60; refine HF.out.mono ?_; rintro en w3 ⟨rfl, hb3⟩))
      have HP2 := Lib.hid (HP.out _ hb3)
      obtain ⟨_, f2, _, d2⟩ := HK.out _ hb3
      clear c0 c1 hb3 HP
      go_wp2
      go_ret2
      exact HP2.out
  · have heb : (e != 0) = true := by rw [bne_iff_ne]; exact he
    have HP : Hid (RPost w rb s i e (.string ⟨#[]⟩) val n x (.returned (.tuple #[.string ⟨#[]⟩, .int .i64 e])) w) := by
      show RPost _ _ _ _ _ _ _ _ _ _ _
      refine ⟨by simp [rdN, he], by simpa [rdN, he] using h, RStep.refl _ _⟩
    clear hn hz h he
    go_enter Tryd.func59, Tryd.ntmps59
    go_wp2_with fail
    refine HERR.out.mono ?_
    rintro en w1 ⟨rfl, rfl⟩
    go_wp2
    go_ret2
    exact HP.out

set_option maxHeartbeats 2000000 in
set_option maxRecDepth 100000 in
theorem next_end (rb : Nat) (s : ByteArray) (i : Nat) (e : Int) (val : Value) (n x : Int) (hl : s.size ≤ 1000000000) (w : World) (h : RAt w rb s i e) (hz : x ≠ 0 → val = .bool false)
    (hn : x = 0 → 0 ≤ n ∧ n ≤ ((rest s i).size : Int))
    (hf : Calls Tryd.prog 58 #[.string (rest s i)] w.drew fun en w' => en = .returned (.tuple #[val, .int .i64 n, .int .i64 x]) ∧ Below w.heap.size w.drew w') :
    Calls Tryd.prog 57 #[.pointer (some ⟨rb, 0, none⟩), .func (.func 58) #[] #[]] w (RPost w rb s i e (.bool false) val n x) := by
  have c0 := h.cell0
  have c1 := h.cell1
  have hle := h.le
  have hlt := h.lt
  have HERR := Lib.hid (err_any rb s i e w h)
  rw [rest_size] at hn
  have HF := Lib.hid hf
  clear hf
  by_cases he : e = 0
  · subst he
    have hleI : (i : Int) ≤ (s.size : Int) := by omega
    have hw0 : (0 : Int) ≤ (i : Int) := by omega
    by_cases hx : x = 0
    · subst hx
      obtain ⟨hn0, hn1⟩ := hn rfl
      obtain ⟨k, rfl⟩ := Int.eq_ofNat_of_zero_le hn0
      have hk : i + k ≤ s.size := by omega
      have HP : Hid (∀ w1, Below w.heap.size w.drew w1 → RPost w rb s i 0 (.bool false) val (k : Int) 0 (.returned (.tuple #[val, .int .i64 0])) (w1.setCell ⟨rb, 1, none⟩ (.int .i64 ((i : Int) + (k : Int))))) := by
        intro w1 hb
        have hr := h.below (Below.trans ((Below.refl _ _).drew) hb)
        refine ⟨by simp [rdN], ?_, (RStep.of_below (Below.trans ((Below.refl _ _).drew) hb)).setCell _⟩
        have := hr.setAt (i + k) hk
        simpa [rdN] using this
      have HK : Hid (∀ w1, Below w.heap.size w.drew w1 → w1.cell? ⟨rb, 1, none⟩ = some (.int .i64 i) ∧ w1.frozen? ⟨rb, 1, none⟩ = false ∧ w1.cell? ⟨rb, 0, none⟩ = some (.string s)) := by
        intro w1 hb
        have hr := h.below (Below.trans ((Below.refl _ _).drew) hb)
        exact ⟨hr.cell1, hr.free 1, hr.cell0⟩
      clear hn hz h hn0
      go_enter Tryd.func57, Tryd.ntmps57
      go_wp2_with fail
      refine HERR.out.mono ?_
      rintro en w1 ⟨rfl, rfl⟩
      go_wp2_with fail
      go_region_held3 (fun w' => w'.cell? ⟨rb, 0, none⟩ = some (.string s) ∧ w'.cell? ⟨rb, 1, none⟩ = some (.int .i64 i))
        (first | go_keep | exact ⟨(HK.out _ hb3).2.2, (HK.out _ hb3).1⟩)
        ((go_at_call 58; refine HF.out.mono ?_; rintro en w3 ⟨rfl, hb3⟩))
      have HP2 := Lib.hid (HP.out _ hb3)
      obtain ⟨d1, f1, _⟩ := HK.out _ hb3
      clear c0 c1 hb3 HP
      go_wp2
      go_ret2
      exact HP2.out
    · obtain rfl := hz hx
      have hxb : (x != 0) = true := by rw [bne_iff_ne]; exact hx
      have HP : Hid (∀ w1, Below w.heap.size w.drew w1 → RPost w rb s i 0 (.bool false) (.bool false) n x (.returned (.tuple #[.bool false, .int .i64 x])) (w1.setCell ⟨rb, 2, none⟩ (.int .i64 x))) := by
        intro w1 hb
        have hr := h.below (Below.trans ((Below.refl _ _).drew) hb)
        refine ⟨by simp [rdN, hx], ?_, (RStep.of_below (Below.trans ((Below.refl _ _).drew) hb)).setCell _⟩
        have := hr.setErr x
        simpa [rdN, hx] using this
      have HK : Hid (∀ w1, Below w.heap.size w.drew w1 → w1.cell? ⟨rb, 1, none⟩ = some (.int .i64 i) ∧ w1.frozen? ⟨rb, 2, none⟩ = false ∧ w1.cell? ⟨rb, 0, none⟩ = some (.string s) ∧ w1.cell? ⟨rb, 2, none⟩ = some (.int .i64 0)) := by
        intro w1 hb
        have hr := h.below (Below.trans ((Below.refl _ _).drew) hb)
        exact ⟨hr.cell1, hr.free 2, hr.cell0, hr.cell2⟩
      clear hn hz h hx
      go_enter Tryd.func57, Tryd.ntmps57
      go_wp2_with fail
      refine HERR.out.mono ?_
      rintro en w1 ⟨rfl, rfl⟩
      go_wp2_with fail
      go_region_held3 (fun w' => w'.cell? ⟨rb, 0, none⟩ = some (.string s) ∧ w'.cell? ⟨rb, 1, none⟩ = some (.int .i64 i))
        (first | go_keep | exact ⟨(HK.out _ hb3).2.2.1, (HK.out _ hb3).1⟩)
        ((go_at_call 58; refine HF.out.mono ?_; rintro en w3 ⟨rfl, hb3⟩))
      have HP2 := Lib.hid (HP.out _ hb3)
      obtain ⟨_, f2, _, d2⟩ := HK.out _ hb3
      clear c0 c1 hb3 HP
      go_wp2
      go_ret2
      exact HP2.out
  · have heb : (e != 0) = true := by rw [bne_iff_ne]; exact he
    have HP : Hid (RPost w rb s i e (.bool false) val n x (.returned (.tuple #[.bool false, .int .i64 e])) w) := by
      show RPost _ _ _ _ _ _ _ _ _ _ _
      refine ⟨by simp [rdN, he], by simpa [rdN, he] using h, RStep.refl _ _⟩
    clear hn hz h he
    go_enter Tryd.func57, Tryd.ntmps57
    go_wp2_with fail
    refine HERR.out.mono ?_
    rintro en w1 ⟨rfl, rfl⟩
    go_wp2
    go_ret2
    exact HP.out
end Go.Proofs.YtjjdfodjkoiedaaDoor
