/-
  wire: next at the closure of Bits; the methods of Reader. Written by gen_read3.py.
-/
import Derived.Test.YtjjdfodjkoiedaaDoorNext
import Derived.Test.YtjjdfodjkoiedaaDoorRBits
set_option linter.unusedVariables false
namespace Go.Proofs.YtjjdfodjkoiedaaDoor
open Go.RowKit

/-- The answer of Reader.Bits. -/
def RPostB (w : World) (rb : Nat) (s : ByteArray) (i : Nat) (e : Int) (l : List Bool) (n x : Int) (en : Ending) (w' : World) : Prop :=
  ∃ v, en = .returned (.tuple #[v, .int .i64 (rdN i e n x).2]) ∧ RAt w' rb s (rdN i e n x).1 (rdN i e n x).2 ∧ RStep rb w w' ∧ BoolsAt (fun b => w.heap.size ≤ b) w' v (if e ≠ 0 then [] else l)

theorem BoolsAt.nil {P : Nat → Prop} {w : World} : BoolsAt P w (.slice none 0 0) [] := ⟨none, 0, rfl, .inl rfl⟩
theorem BoolsAt.setCell {w w1 : World} {rb o : Nat} {v u : Value} {l : List Bool} (h : BoolsAt (fun b => w.heap.size ≤ b) w1 v l) (hr : rb < w.heap.size) : BoolsAt (fun b => w.heap.size ≤ b) (w1.setCell ⟨rb, o, none⟩ u) v l := by
  obtain ⟨a, cap, hv, h⟩ := h
  refine ⟨a, cap, hv, ?_⟩
  rcases h with h | ⟨b, ob, ha, hb, hlt, hc⟩
  · exact .inl h
  · refine .inr ⟨b, ob, ha, hb, ?_, fun j hj => ?_⟩
    · show b < (w1.heap.modify _ _).size
      simpa using hlt
    · have hb' : w.heap.size ≤ b := hb
      exact (World.cell?_of_block (w := w1) (a := ⟨b, ob + j, none⟩) (Below.heap_setCell _ _ _ _ (by show b ≠ rb; omega))).trans (hc j hj)
theorem BoolsAt.mono {P Q : Nat → Prop} {w : World} {v : Value} {l : List Bool} (h : BoolsAt P w v l) (hpq : ∀ b, P b → Q b) : BoolsAt Q w v l := by
  obtain ⟨a, cap, hv, h⟩ := h
  exact ⟨a, cap, hv, h.imp id fun ⟨b, o, ha, hb, r⟩ => ⟨b, o, ha, hpq b hb, r⟩⟩

set_option maxHeartbeats 2000000 in
set_option maxRecDepth 100000 in
theorem next_bits (rb : Nat) (s : ByteArray) (i : Nat) (e : Int) (cb : Nat) (l : List Bool) (n x : Int) (hl : s.size ≤ 1000000000) (w : World) (h : RAt w rb s i e) (hz : x ≠ 0 → l = [])
    (hn : x = 0 → 0 ≤ n ∧ n ≤ ((rest s i).size : Int))
    (hf : Calls Tryd.prog 79 #[.string (rest s i), .pointer (some ⟨cb, 0, none⟩)] w.drew (BPost w.drew l n x)) :
    Calls Tryd.prog 78 #[.pointer (some ⟨rb, 0, none⟩), .func (.func 79) #[] #[.pointer (some ⟨cb, 0, none⟩)]] w (RPostB w rb s i e l n x) := by
  have c0 := h.cell0
  have c1 := h.cell1
  have hle := h.le
  have hlt := h.lt
  have HERR := Lib.hid (err_any rb s i e w h)
  rw [rest_size] at hn
  have HF := Lib.hid hf
  clear hf
  by_cases he : e = 0
  · subst he
    have hleI : (i : Int) ≤ (s.size : Int) := by omega
    have hw0 : (0 : Int) ≤ (i : Int) := by omega
    by_cases hx : x = 0
    · subst hx
      obtain ⟨hn0, hn1⟩ := hn rfl
      obtain ⟨k, rfl⟩ := Int.eq_ofNat_of_zero_le hn0
      have hk : i + k ≤ s.size := by omega
      have HP : Hid (∀ w1 val, Below w.heap.size w.drew w1 → BoolsAt (fun b => w.heap.size ≤ b) w1 val l → RPostB w rb s i 0 l (k : Int) 0 (.returned (.tuple #[val, .int .i64 0])) (w1.setCell ⟨rb, 1, none⟩ (.int .i64 ((i : Int) + (k : Int))))) := by
        intro w1 val hb hv
        have hr := h.below (Below.trans ((Below.refl _ _).drew) hb)
        refine ⟨val, by simp [rdN], ?_, (RStep.of_below (Below.trans ((Below.refl _ _).drew) hb)).setCell _, by rw [if_neg (by simp)]; exact hv.setCell hlt⟩
        have := hr.setAt (i + k) hk
        simpa [rdN] using this
      have HK : Hid (∀ w1, Below w.heap.size w.drew w1 → w1.cell? ⟨rb, 1, none⟩ = some (.int .i64 i) ∧ w1.frozen? ⟨rb, 1, none⟩ = false ∧ w1.cell? ⟨rb, 0, none⟩ = some (.string s)) := by
        intro w1 hb
        have hr := h.below (Below.trans ((Below.refl _ _).drew) hb)
        exact ⟨hr.cell1, hr.free 1, hr.cell0⟩
      clear hn hz h hn0
      go_enter Tryd.func78, Tryd.ntmps78
      go_wp2_with fail
      refine HERR.out.mono ?_
      rintro en w1 ⟨rfl, rfl⟩
      go_wp2_with fail
      go_region_held3 (fun w' => w'.cell? ⟨rb, 0, none⟩ = some (.string s) ∧ w'.cell? ⟨rb, 1, none⟩ = some (.int .i64 i))
        (first | go_keep | exact ⟨(HK.out _ hb3).2.2, (HK.out _ hb3).1⟩)
        ((go_at_call 79; refine HF.out.mono ?_; rintro en w3 ⟨val, rfl, hb3, hv3, _⟩))
      have HP2 := Lib.hid (HP.out _ _ hb3 hv3)
      obtain ⟨d1, f1, _⟩ := HK.out _ hb3
      clear c0 c1 hb3 HP hv3
      go_wp2
      go_ret2
      exact HP2.out
    · obtain rfl := hz hx
      have hxb : (x != 0) = true := by rw [bne_iff_ne]; exact hx
      have HP : Hid (∀ w1, Below w.heap.size w.drew w1 → RPostB w rb s i 0 [] n x (.returned (.tuple #[.slice none 0 0, .int .i64 x])) (w1.setCell ⟨rb, 2, none⟩ (.int .i64 x))) := by
        intro w1 hb
        have hr := h.below (Below.trans ((Below.refl _ _).drew) hb)
        refine ⟨_, by simp [rdN, hx]; rfl, ?_, (RStep.of_below (Below.trans ((Below.refl _ _).drew) hb)).setCell _, by rw [if_neg (by simp)]; exact BoolsAt.nil⟩
        have := hr.setErr x
        simpa [rdN, hx] using this
      have HK : Hid (∀ w1, Below w.heap.size w.drew w1 → w1.cell? ⟨rb, 1, none⟩ = some (.int .i64 i) ∧ w1.frozen? ⟨rb, 2, none⟩ = false ∧ w1.cell? ⟨rb, 0, none⟩ = some (.string s) ∧ w1.cell? ⟨rb, 2, none⟩ = some (.int .i64 0)) := by
        intro w1 hb
        have hr := h.below (Below.trans ((Below.refl _ _).drew) hb)
        exact ⟨hr.cell1, hr.free 2, hr.cell0, hr.cell2⟩
      clear hn hz h hx
      go_enter Tryd.func78, Tryd.ntmps78
      go_wp2_with fail
      refine HERR.out.mono ?_
      rintro en w1 ⟨rfl, rfl⟩
      go_wp2_with fail
      go_region_held3 (fun w' => w'.cell? ⟨rb, 0, none⟩ = some (.string s) ∧ w'.cell? ⟨rb, 1, none⟩ = some (.int .i64 i))
        (first | go_keep | exact ⟨(HK.out _ hb3).2.2.1, (HK.out _ hb3).1⟩)
        ((go_at_call 79; refine HF.out.mono ?_; rintro en w3 ⟨val, rfl, hb3, _, _⟩))
      have HP2 := Lib.hid (HP.out _ hb3)
      obtain ⟨_, f2, _, d2⟩ := HK.out _ hb3
      clear c0 c1 hb3 HP
      go_wp2
      go_ret2
      exact HP2.out
  · have heb : (e != 0) = true := by rw [bne_iff_ne]; exact he
    have HP : Hid (RPostB w rb s i e l n x (.returned (.tuple #[.slice none 0 0, .int .i64 e])) w) := by
      show RPostB _ _ _ _ _ _ _ _ _ _
      refine ⟨_, by simp [rdN, he]; rfl, by simpa [rdN, he] using h, RStep.refl _ _, by rw [if_pos he]; exact BoolsAt.nil⟩
    clear hn hz h he
    go_enter Tryd.func78, Tryd.ntmps78
    go_wp2_with fail
    refine HERR.out.mono ?_
    rintro en w1 ⟨rfl, rfl⟩
    go_wp2
    go_ret2
    exact HP.out

theorem rest_le (s : ByteArray) (i : Nat) (hl : s.size ≤ 1000000000) : (rest s i).size ≤ 1000000000 := by rw [rest_size]; omega
theorem box_cell (w : World) (v : Value) (T : TypeId) : (w.alloc (.cells #[v] T)).drew.cell? ⟨w.heap.size, 0, none⟩ = some v := by
  show (w.alloc (.cells #[v] T)).cell? _ = _
  rw [World.cell?_alloc_at _ _ _ _ rfl]; rfl

theorem litR_bd (s : ByteArray) (z : Int) : ((litR s z).2.2 ≠ 0 → (litR s z).1 = 0) ∧ ((litR s z).2.2 = 0 → 0 ≤ (litR s z).2.1 ∧ (litR s z).2.1 ≤ (s.size : Int)) := by
  unfold litR lowS
  by_cases h1 : isSz z = true
  · obtain ⟨k, rfl, hk⟩ := isSz_cases h1
    rw [if_pos h1]
    by_cases h2 : (s.size : Int) < (k : Int)
    · rw [if_pos h2]; simp
    · rw [if_neg h2]
      simp only [if_true]
      split <;> simp <;> omega
  · rw [if_neg h1]; simp
theorem sigR_bd (s : ByteArray) (z : Int) : ((sigR s z).2.2 ≠ 0 → (sigR s z).1 = 0) ∧ ((sigR s z).2.2 = 0 → 0 ≤ (sigR s z).2.1 ∧ (sigR s z).2.1 ≤ (s.size : Int)) := by
  unfold sigR lowS
  by_cases h1 : isSz z = true
  · obtain ⟨k, rfl, hk⟩ := isSz_cases h1
    rw [if_pos h1]
    by_cases h2 : (s.size : Int) < (k : Int)
    · rw [if_pos h2]; simp
    · rw [if_neg h2]
      simp
      omega
  · rw [if_neg h1]; simp
theorem numR_bd2 (s : ByteArray) : ((numR s).2.2 ≠ 0 → (numR s).1 = 0) ∧ ((numR s).2.2 = 0 → 0 ≤ (numR s).2.1 ∧ (numR s).2.1 ≤ (s.size : Int)) :=
  ⟨fun h => ((numR_ok s).resolve_left h).1, fun _ => ⟨(numR_bd s).1, (numR_bd s).2.2⟩⟩
theorem cntR_bd2 (s : ByteArray) (z : Int) : ((cntR s z).2.2 ≠ 0 → (cntR s z).1 = 0) ∧ ((cntR s z).2.2 = 0 → 0 ≤ (cntR s z).2.1 ∧ (cntR s z).2.1 ≤ (s.size : Int)) :=
  ⟨fun h => (cntR_err s z h).1, fun h => by have := cntR_bd s z h; omega⟩
theorem strR_bd (s : ByteArray) (z : Int) : ((strR s z).2.2 ≠ 0 → (strR s z).1 = ⟨#[]⟩) ∧ ((strR s z).2.2 = 0 → 0 ≤ (strR s z).2.1 ∧ (strR s z).2.1 ≤ (s.size : Int)) := by
  have h := cntR_bd s (min z 1048576)
  unfold strR
  generalize cntR s (min z 1048576) = r at *
  split
  · rename_i h0
    have := h h0
    split <;> simp <;> omega
  · simp
theorem rawR_bd (s : ByteArray) (z : Int) : ((rawR s z).2.2 ≠ 0 → (rawR s z).1 = ⟨#[]⟩) ∧ ((rawR s z).2.2 = 0 → 0 ≤ (rawR s z).2.1 ∧ (rawR s z).2.1 ≤ (s.size : Int)) := by
  unfold rawR
  split
  · simp
  · split <;> simp <;> omega
theorem bitR_bd (s : ByteArray) (z : Int) : ((bitR s z).2.2 ≠ 0 → (bitR s z).1 = []) ∧ ((bitR s z).2.2 = 0 → 0 ≤ (bitR s z).2.1 ∧ (bitR s z).2.1 ≤ (s.size : Int)) := by
  have h := cntR_bd s (min z 65536)
  unfold bitR
  generalize cntR s (min z 65536) = r at *
  split
  · rename_i h0
    have := h h0
    split
    · simp
    · split <;> simp <;> omega
  · simp
theorem endR_bd (s : ByteArray) : ((endR s).2.2 ≠ 0 → (endR s).1 = false) ∧ ((endR s).2.2 = 0 → 0 ≤ (endR s).2.1 ∧ (endR s).2.1 ≤ (s.size : Int)) := by
  unfold endR
  split <;> simp

set_option maxHeartbeats 1000000 in
set_option maxRecDepth 100000 in
theorem rLittle (rb : Nat) (s : ByteArray) (i : Nat) (e z : Int) (hl : s.size ≤ 1000000000) (w : World) (h : RAt w rb s i e) :
    Calls Tryd.prog 43 #[.pointer (some ⟨rb, 0, none⟩), .int .i64 z] w (RPost w rb s i e (.int .i64 0) (.int .i64 (litR (rest s i) z).1) (litR (rest s i) z).2.1 (litR (rest s i) z).2.2) := by
  have hc := little_clo (rest s i) z (rest_le s i hl) w.heap.size (w.alloc (.cells #[.int .i64 z] 3)).drew (box_cell _ _ _)
  have hx := next_little rb s i e w.heap.size (.int .i64 (litR (rest s i) z).1) (litR (rest s i) z).2.1 (litR (rest s i) z).2.2 hl (w.alloc (.cells #[.int .i64 z] 3)) (h.below ((Below.refl _ _).alloc (Nat.le_refl _) _)) (fun hx => by rw [(litR_bd (rest s i) z).1 hx]) (litR_bd (rest s i) z).2 hc
  have HX := Lib.hid hx
  have HPO : Hid (∀ en w', RPost (w.alloc (.cells #[.int .i64 z] 3)) rb s i e (.int .i64 0) (.int .i64 (litR (rest s i) z).1) (litR (rest s i) z).2.1 (litR (rest s i) z).2.2 en w' → ∃ v0 v1, en = .returned (.tuple #[v0, v1]) ∧ RPost w rb s i e (.int .i64 0) (.int .i64 (litR (rest s i) z).1) (litR (rest s i) z).2.1 (litR (rest s i) z).2.2 (.returned (.tuple #[v0, v1])) w') := by
    rintro en w' ⟨hE, hR, hS⟩
    exact ⟨_, _, hE, rfl, hR, (RStep.of_below ((Below.refl _ _).alloc (Nat.le_refl _) _)).trans hS⟩
  clear hx hc h
  have hmf : ∀ (fn : Fn) (first cap : Array Value) (w : World), (Instr.makeFunc fn first cap).run Tryd.prog w = .ok (.func fn first cap) w := fun _ _ _ _ => rfl
  go_enter Tryd.func43, Tryd.ntmps43
  go_wp2_with fail
  refine HX.out.mono ?_
  intro en w1 hp
  obtain ⟨v0, v1, rfl, hq⟩ := HPO.out _ _ hp
  clear hp
  go_wp2
  go_ret2
  exact hq

set_option maxHeartbeats 1000000 in
set_option maxRecDepth 100000 in
theorem rSigned (rb : Nat) (s : ByteArray) (i : Nat) (e z : Int) (hl : s.size ≤ 1000000000) (w : World) (h : RAt w rb s i e) :
    Calls Tryd.prog 44 #[.pointer (some ⟨rb, 0, none⟩), .int .i64 z] w (RPost w rb s i e (.int .i64 0) (.int .i64 (sigR (rest s i) z).1) (sigR (rest s i) z).2.1 (sigR (rest s i) z).2.2) := by
  have hc := signed_clo (rest s i) z (rest_le s i hl) w.heap.size (w.alloc (.cells #[.int .i64 z] 3)).drew (box_cell _ _ _)
  have hx := next_signed rb s i e w.heap.size (.int .i64 (sigR (rest s i) z).1) (sigR (rest s i) z).2.1 (sigR (rest s i) z).2.2 hl (w.alloc (.cells #[.int .i64 z] 3)) (h.below ((Below.refl _ _).alloc (Nat.le_refl _) _)) (fun hx => by rw [(sigR_bd (rest s i) z).1 hx]) (sigR_bd (rest s i) z).2 hc
  have HX := Lib.hid hx
  have HPO : Hid (∀ en w', RPost (w.alloc (.cells #[.int .i64 z] 3)) rb s i e (.int .i64 0) (.int .i64 (sigR (rest s i) z).1) (sigR (rest s i) z).2.1 (sigR (rest s i) z).2.2 en w' → ∃ v0 v1, en = .returned (.tuple #[v0, v1]) ∧ RPost w rb s i e (.int .i64 0) (.int .i64 (sigR (rest s i) z).1) (sigR (rest s i) z).2.1 (sigR (rest s i) z).2.2 (.returned (.tuple #[v0, v1])) w') := by
    rintro en w' ⟨hE, hR, hS⟩
    exact ⟨_, _, hE, rfl, hR, (RStep.of_below ((Below.refl _ _).alloc (Nat.le_refl _) _)).trans hS⟩
  clear hx hc h
  have hmf : ∀ (fn : Fn) (first cap : Array Value) (w : World), (Instr.makeFunc fn first cap).run Tryd.prog w = .ok (.func fn first cap) w := fun _ _ _ _ => rfl
  go_enter Tryd.func44, Tryd.ntmps44
  go_wp2_with fail
  refine HX.out.mono ?_
  intro en w1 hp
  obtain ⟨v0, v1, rfl, hq⟩ := HPO.out _ _ hp
  clear hp
  go_wp2
  go_ret2
  exact hq

set_option maxHeartbeats 1000000 in
set_option maxRecDepth 100000 in
theorem rCount (rb : Nat) (s : ByteArray) (i : Nat) (e z : Int) (hl : s.size ≤ 1000000000) (w : World) (h : RAt w rb s i e) (ht : Tab w) :
    Calls Tryd.prog 47 #[.pointer (some ⟨rb, 0, none⟩), .int .i64 z] w (RPost w rb s i e (.int .i64 0) (.int .i64 (cntR (rest s i) z).1) (cntR (rest s i) z).2.1 (cntR (rest s i) z).2.2) := by
  have hc := count_clo (rest s i) z (rest_le s i hl) w.heap.size (w.alloc (.cells #[.int .i64 z] 3)).drew (ht.alloc _) (box_cell _ _ _)
  have hx := next_count rb s i e w.heap.size (.int .i64 (cntR (rest s i) z).1) (cntR (rest s i) z).2.1 (cntR (rest s i) z).2.2 hl (w.alloc (.cells #[.int .i64 z] 3)) (h.below ((Below.refl _ _).alloc (Nat.le_refl _) _)) (fun hx => by rw [(cntR_bd2 (rest s i) z).1 hx]) (cntR_bd2 (rest s i) z).2 hc
  have HX := Lib.hid hx
  have HPO : Hid (∀ en w', RPost (w.alloc (.cells #[.int .i64 z] 3)) rb s i e (.int .i64 0) (.int .i64 (cntR (rest s i) z).1) (cntR (rest s i) z).2.1 (cntR (rest s i) z).2.2 en w' → ∃ v0 v1, en = .returned (.tuple #[v0, v1]) ∧ RPost w rb s i e (.int .i64 0) (.int .i64 (cntR (rest s i) z).1) (cntR (rest s i) z).2.1 (cntR (rest s i) z).2.2 (.returned (.tuple #[v0, v1])) w') := by
    rintro en w' ⟨hE, hR, hS⟩
    exact ⟨_, _, hE, rfl, hR, (RStep.of_below ((Below.refl _ _).alloc (Nat.le_refl _) _)).trans hS⟩
  clear hx hc h ht
  have hmf : ∀ (fn : Fn) (first cap : Array Value) (w : World), (Instr.makeFunc fn first cap).run Tryd.prog w = .ok (.func fn first cap) w := fun _ _ _ _ => rfl
  go_enter Tryd.func47, Tryd.ntmps47
  go_wp2_with fail
  refine HX.out.mono ?_
  intro en w1 hp
  obtain ⟨v0, v1, rfl, hq⟩ := HPO.out _ _ hp
  clear hp
  go_wp2
  go_ret2
  exact hq

set_option maxHeartbeats 1000000 in
set_option maxRecDepth 100000 in
theorem rString (rb : Nat) (s : ByteArray) (i : Nat) (e z : Int) (hl : s.size ≤ 1000000000) (w : World) (h : RAt w rb s i e) (ht : Tab w) :
    Calls Tryd.prog 45 #[.pointer (some ⟨rb, 0, none⟩), .int .i64 z] w (RPost w rb s i e (.string ⟨#[]⟩) (.string (strR (rest s i) z).1) (strR (rest s i) z).2.1 (strR (rest s i) z).2.2) := by
  have hc := string_clo (rest s i) z (rest_le s i hl) w.heap.size (w.alloc (.cells #[.int .i64 z] 3)).drew (ht.alloc _) (box_cell _ _ _)
  have hx := next_string rb s i e w.heap.size (.string (strR (rest s i) z).1) (strR (rest s i) z).2.1 (strR (rest s i) z).2.2 hl (w.alloc (.cells #[.int .i64 z] 3)) (h.below ((Below.refl _ _).alloc (Nat.le_refl _) _)) (fun hx => by rw [(strR_bd (rest s i) z).1 hx]) (strR_bd (rest s i) z).2 hc
  have HX := Lib.hid hx
  have HPO : Hid (∀ en w', RPost (w.alloc (.cells #[.int .i64 z] 3)) rb s i e (.string ⟨#[]⟩) (.string (strR (rest s i) z).1) (strR (rest s i) z).2.1 (strR (rest s i) z).2.2 en w' → ∃ v0 v1, en = .returned (.tuple #[v0, v1]) ∧ RPost w rb s i e (.string ⟨#[]⟩) (.string (strR (rest s i) z).1) (strR (rest s i) z).2.1 (strR (rest s i) z).2.2 (.returned (.tuple #[v0, v1])) w') := by
    rintro en w' ⟨hE, hR, hS⟩
    exact ⟨_, _, hE, rfl, hR, (RStep.of_below ((Below.refl _ _).alloc (Nat.le_refl _) _)).trans hS⟩
  clear hx hc h ht
  have hmf : ∀ (fn : Fn) (first cap : Array Value) (w : World), (Instr.makeFunc fn first cap).run Tryd.prog w = .ok (.func fn first cap) w := fun _ _ _ _ => rfl
  go_enter Tryd.func45, Tryd.ntmps45
  go_wp2_with fail
  refine HX.out.mono ?_
  intro en w1 hp
  obtain ⟨v0, v1, rfl, hq⟩ := HPO.out _ _ hp
  clear hp
  go_wp2
  go_ret2
  exact hq

set_option maxHeartbeats 1000000 in
set_option maxRecDepth 100000 in
theorem rRaw (rb : Nat) (s : ByteArray) (i : Nat) (e z : Int) (hl : s.size ≤ 1000000000) (w : World) (h : RAt w rb s i e) :
    Calls Tryd.prog 26 #[.pointer (some ⟨rb, 0, none⟩), .int .i64 z] w (RPost w rb s i e (.string ⟨#[]⟩) (.string (rawR (rest s i) z).1) (rawR (rest s i) z).2.1 (rawR (rest s i) z).2.2) := by
  have hc := raw_clo (rest s i) z (rest_le s i hl) w.heap.size (w.alloc (.cells #[.int .i64 z] 3)).drew (box_cell _ _ _)
  have hx := next_raw rb s i e w.heap.size (.string (rawR (rest s i) z).1) (rawR (rest s i) z).2.1 (rawR (rest s i) z).2.2 hl (w.alloc (.cells #[.int .i64 z] 3)) (h.below ((Below.refl _ _).alloc (Nat.le_refl _) _)) (fun hx => by rw [(rawR_bd (rest s i) z).1 hx]) (rawR_bd (rest s i) z).2 hc
  have HX := Lib.hid hx
  have HPO : Hid (∀ en w', RPost (w.alloc (.cells #[.int .i64 z] 3)) rb s i e (.string ⟨#[]⟩) (.string (rawR (rest s i) z).1) (rawR (rest s i) z).2.1 (rawR (rest s i) z).2.2 en w' → ∃ v0 v1, en = .returned (.tuple #[v0, v1]) ∧ RPost w rb s i e (.string ⟨#[]⟩) (.string (rawR (rest s i) z).1) (rawR (rest s i) z).2.1 (rawR (rest s i) z).2.2 (.returned (.tuple #[v0, v1])) w') := by
    rintro en w' ⟨hE, hR, hS⟩
    exact ⟨_, _, hE, rfl, hR, (RStep.of_below ((Below.refl _ _).alloc (Nat.le_refl _) _)).trans hS⟩
  clear hx hc h
  have hmf : ∀ (fn : Fn) (first cap : Array Value) (w : World), (Instr.makeFunc fn first cap).run Tryd.prog w = .ok (.func fn first cap) w := fun _ _ _ _ => rfl
  go_enter Tryd.func26, Tryd.ntmps26
  go_wp2_with fail
  refine HX.out.mono ?_
  intro en w1 hp
  obtain ⟨v0, v1, rfl, hq⟩ := HPO.out _ _ hp
  clear hp
  go_wp2
  go_ret2
  exact hq

set_option maxHeartbeats 1000000 in
set_option maxRecDepth 100000 in
theorem rBits (rb : Nat) (s : ByteArray) (i : Nat) (e z : Int) (hl : s.size ≤ 1000000000) (w : World) (h : RAt w rb s i e) (ht : Tab w) :
    Calls Tryd.prog 46 #[.pointer (some ⟨rb, 0, none⟩), .int .i64 z] w (RPostB w rb s i e (bitR (rest s i) z).1 (bitR (rest s i) z).2.1 (bitR (rest s i) z).2.2) := by
  have hc := bits_clo (rest s i) z (rest_le s i hl) w.heap.size (w.alloc (.cells #[.int .i64 z] 3)).drew (ht.alloc _) (box_cell _ _ _)
  have hx := next_bits rb s i e w.heap.size (bitR (rest s i) z).1 (bitR (rest s i) z).2.1 (bitR (rest s i) z).2.2 hl (w.alloc (.cells #[.int .i64 z] 3)) (h.below ((Below.refl _ _).alloc (Nat.le_refl _) _)) ((bitR_bd (rest s i) z).1) (bitR_bd (rest s i) z).2 hc
  have HX := Lib.hid hx
  have HPO : Hid (∀ en w', RPostB (w.alloc (.cells #[.int .i64 z] 3)) rb s i e (bitR (rest s i) z).1 (bitR (rest s i) z).2.1 (bitR (rest s i) z).2.2 en w' → ∃ v0 v1, en = .returned (.tuple #[v0, v1]) ∧ RPostB w rb s i e (bitR (rest s i) z).1 (bitR (rest s i) z).2.1 (bitR (rest s i) z).2.2 (.returned (.tuple #[v0, v1])) w') := by
    rintro en w' ⟨v, hE, hR, hS, hV⟩
    exact ⟨_, _, hE, v, rfl, hR, (RStep.of_below ((Below.refl _ _).alloc (Nat.le_refl _) _)).trans hS, hV.mono fun b hb => Nat.le_trans ((Below.refl w.heap.size w).alloc (Nat.le_refl _) (.cells #[.int .i64 z] 3)).size hb⟩
  clear hx hc h ht
  have hmf : ∀ (fn : Fn) (first cap : Array Value) (w : World), (Instr.makeFunc fn first cap).run Tryd.prog w = .ok (.func fn first cap) w := fun _ _ _ _ => rfl
  go_enter Tryd.func46, Tryd.ntmps46
  go_wp2_with fail
  refine HX.out.mono ?_
  intro en w1 hp
  obtain ⟨v0, v1, rfl, hq⟩ := HPO.out _ _ hp
  clear hp
  go_wp2
  go_ret2
  exact hq

set_option maxHeartbeats 1000000 in
set_option maxRecDepth 100000 in
theorem rNumber (rb : Nat) (s : ByteArray) (i : Nat) (e : Int) (hl : s.size ≤ 1000000000) (w : World) (h : RAt w rb s i e) (ht : Tab w) :
    Calls Tryd.prog 32 #[.pointer (some ⟨rb, 0, none⟩)] w (RPost w rb s i e (.int .i64 0) (.int .i64 (numR (rest s i)).1) (numR (rest s i)).2.1 (numR (rest s i)).2.2) := by
  have hc := number_read (rest s i) (rest_le s i hl) w.drew ht
  have hx := next_number rb s i e (.int .i64 (numR (rest s i)).1) (numR (rest s i)).2.1 (numR (rest s i)).2.2 hl w h (fun hx => by rw [(numR_bd2 (rest s i)).1 hx]) (numR_bd2 (rest s i)).2 hc
  have HX := Lib.hid hx
  have HPO : Hid (∀ en w', RPost w rb s i e (.int .i64 0) (.int .i64 (numR (rest s i)).1) (numR (rest s i)).2.1 (numR (rest s i)).2.2 en w' → ∃ v0 v1, en = .returned (.tuple #[v0, v1]) ∧ RPost w rb s i e (.int .i64 0) (.int .i64 (numR (rest s i)).1) (numR (rest s i)).2.1 (numR (rest s i)).2.2 (.returned (.tuple #[v0, v1])) w') := by
    rintro en w' ⟨hE, hR, hS⟩
    exact ⟨_, _, hE, rfl, hR, hS⟩
  clear hx hc h ht
  go_enter Tryd.func32, Tryd.ntmps32
  go_wp2_with fail
  refine HX.out.mono ?_
  intro en w1 hp
  obtain ⟨v0, v1, rfl, hq⟩ := HPO.out _ _ hp
  clear hp
  go_wp2
  go_ret2
  exact hq

set_option maxHeartbeats 1000000 in
set_option maxRecDepth 100000 in
theorem rEnd (rb : Nat) (s : ByteArray) (i : Nat) (e : Int) (hl : s.size ≤ 1000000000) (w : World) (h : RAt w rb s i e) :
    Calls Tryd.prog 25 #[.pointer (some ⟨rb, 0, none⟩)] w fun en w' =>
      en = .returned (.int .i64 (rdN i e (endR (rest s i)).2.1 (endR (rest s i)).2.2).2) ∧ RAt w' rb s (rdN i e (endR (rest s i)).2.1 (endR (rest s i)).2.2).1 (rdN i e (endR (rest s i)).2.1 (endR (rest s i)).2.2).2 ∧ RStep rb w w' := by
  have hc := end_clo (rest s i) w.drew
  have hx := next_end rb s i e (.bool (endR (rest s i)).1) (endR (rest s i)).2.1 (endR (rest s i)).2.2 hl w h (fun hx => by rw [(endR_bd (rest s i)).1 hx]) (endR_bd (rest s i)).2 hc
  have HX := Lib.hid hx
  have HPO : Hid (∀ en w', RPost w rb s i e (.bool false) (.bool (endR (rest s i)).1) (endR (rest s i)).2.1 (endR (rest s i)).2.2 en w' → ∃ v0 y, en = .returned (.tuple #[v0, .int .i64 y]) ∧ (.returned (.int .i64 y) : Ending) = .returned (.int .i64 (rdN i e (endR (rest s i)).2.1 (endR (rest s i)).2.2).2) ∧ RAt w' rb s (rdN i e (endR (rest s i)).2.1 (endR (rest s i)).2.2).1 (rdN i e (endR (rest s i)).2.1 (endR (rest s i)).2.2).2 ∧ RStep rb w w') := by
    rintro en w' ⟨hE, hR, hS⟩
    exact ⟨_, _, hE, rfl, hR, hS⟩
  clear hx hc h
  go_enter Tryd.func25, Tryd.ntmps25
  go_wp2_with fail
  refine HX.out.mono ?_
  intro en w1 hp
  obtain ⟨v0, y, rfl, hq⟩ := HPO.out _ _ hp
  clear hp
  go_wp2
  go_ret
  exact hq
end Go.Proofs.YtjjdfodjkoiedaaDoor
