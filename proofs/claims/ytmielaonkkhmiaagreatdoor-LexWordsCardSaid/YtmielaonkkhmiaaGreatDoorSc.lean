/-
  lex: where a scanner lies; reader.rest, reader.atEnd.
-/
import Derived.Test.YtmielaonkkhmiaaGreatDoorKw
import Derived.Lib.OthersKept
import Derived.WalkSmall
import Derived.Lib.Hide
import Derived.Deep.QuietTactic
import Derived.BigQuiet
set_option linter.unusedVariables false
namespace Go.Proofs.YtmielaonkkhmiaaGreatDoor
open Go.RowKit

/-- The scanner at the block b: its text, its place, its tokens. -/
def ScAt (b : Nat) (T : ByteArray) (a : Int) (tk : Value) (w : World) : Prop := w.heap[b]? = some (.cells #[.string T, .int .i64 a, tk] 48)
/-- All that lay there before is as it was, but for the block b. -/
structure Kp (b : Nat) (w w' : World) : Prop where
  os : w'.os = w.os
  tape : w'.tape = w.tape
  output : w'.output = w.output
  size : w.heap.size ≤ w'.heap.size
  block : ∀ k, k < w.heap.size → k ≠ b → w'.heap[k]? = w.heap[k]?
theorem Kp.refl (b : Nat) (w : World) : Kp b w w := ⟨rfl, rfl, rfl, Nat.le_refl _, fun _ _ _ => rfl⟩
theorem Kp.trans {b : Nat} {w w1 w2 : World} (h : Kp b w w1) (k : Kp b w1 w2) : Kp b w w2 :=
  ⟨k.os.trans h.os, k.tape.trans h.tape, k.output.trans h.output, Nat.le_trans h.size k.size, fun i hi hb => (k.block i (Nat.lt_of_lt_of_le hi h.size) hb).trans (h.block i hi hb)⟩
theorem Kp.of_below {b : Nat} {w w' : World} (h : Below w.heap.size w w') : Kp b w w' := ⟨h.os, h.tape, h.output, h.size, fun k hk _ => h.block k hk⟩
theorem Kp.drew {b : Nat} {w w' : World} (h : Kp b w w') : Kp b w w'.drew := ⟨h.os, h.tape, h.output, h.size, h.block⟩
theorem Kp.drewN {b : Nat} {w w' : World} (h : Kp b w w') (m : Nat) : Kp b w (w'.drewN m) := ⟨h.os, h.tape, h.output, h.size, h.block⟩
theorem Kp.setCell {b : Nat} {w w' : World} (h : Kp b w w') (j : Nat) (v : Value) : Kp b w (w'.setCell ⟨b, j, none⟩ v) :=
  ⟨h.os, h.tape, h.output, by rw [show (w'.setCell ⟨b, j, none⟩ v).heap.size = w'.heap.size from by simp [World.setCell]]; exact h.size, fun k hk hb => (Below.heap_setCell w' ⟨b, j, none⟩ v k hb).trans (h.block k hk hb)⟩
theorem Kp.alloc {b : Nat} {w w' : World} (h : Kp b w w') (o : Obj) : Kp b w (w'.alloc o) :=
  ⟨h.os, h.tape, h.output, Nat.le_trans h.size (by simp), fun k hk hb => (Below.heap_alloc w' o k (Nat.lt_of_lt_of_le hk h.size)).trans (h.block k hk hb)⟩
theorem Kp.below {b B : Nat} {w w' : World} (h : Kp b w w') (hB : B ≤ b) (hb : b < w.heap.size) : Below B w w' :=
  ⟨h.os, h.tape, h.output, h.size, fun k hk => h.block k (by omega) (by omega)⟩
theorem ScAt.lt {b : Nat} {T : ByteArray} {a : Int} {tk : Value} {w : World} (h : ScAt b T a tk w) : b < w.heap.size := (Array.getElem?_eq_some_iff.1 h).1
theorem ScAt.c0 {b : Nat} {T : ByteArray} {a : Int} {tk : Value} {w : World} (h : ScAt b T a tk w) : w.cell? ⟨b, 0, none⟩ = some (.string T) := (cell_of_row _ _ 0 _ _ _ h).trans rfl
theorem ScAt.c1 {b : Nat} {T : ByteArray} {a : Int} {tk : Value} {w : World} (h : ScAt b T a tk w) : w.cell? ⟨b, 1, none⟩ = some (.int .i64 a) := (cell_of_row _ _ 1 _ _ _ h).trans rfl
theorem ScAt.c2 {b : Nat} {T : ByteArray} {a : Int} {tk : Value} {w : World} (h : ScAt b T a tk w) : w.cell? ⟨b, 2, none⟩ = some tk := (cell_of_row _ _ 2 _ _ _ h).trans rfl
theorem ScAt.fz {b : Nat} {T : ByteArray} {a : Int} {tk : Value} {w : World} (h : ScAt b T a tk w) (j : Nat) : w.frozen? ⟨b, j, none⟩ = false := by
  simp [World.frozen?, show w.heap[b]? = _ from h]
theorem ScAt.drew {b : Nat} {T : ByteArray} {a : Int} {tk : Value} {w : World} (h : ScAt b T a tk w) : ScAt b T a tk w.drew := h
theorem ScAt.drewN {b : Nat} {T : ByteArray} {a : Int} {tk : Value} {w : World} (h : ScAt b T a tk w) (m : Nat) : ScAt b T a tk (w.drewN m) := h
theorem ScAt.below {b : Nat} {T : ByteArray} {a : Int} {tk : Value} {w w' : World} (h : ScAt b T a tk w) (k : Below w.heap.size w w') : ScAt b T a tk w' := (k.block b h.lt).trans h
theorem ScAt.set1 {b : Nat} {T : ByteArray} {a : Int} {tk : Value} {w : World} (h : ScAt b T a tk w) (a' : Int) : ScAt b T a' tk (w.setCell ⟨b, 1, none⟩ (.int .i64 a')) := by
  have hlt := h.lt
  unfold ScAt at *
  simp [World.setCell, Array.getElem?_modify, h]
theorem ScAt.set2 {b : Nat} {T : ByteArray} {a : Int} {tk : Value} {w : World} (h : ScAt b T a tk w) (tk' : Value) : ScAt b T a tk' (w.setCell ⟨b, 2, none⟩ tk') := by
  unfold ScAt at *
  simp [World.setCell, Array.getElem?_modify, h]
set_option maxRecDepth 100000 in
theorem rest_any (b : Nat) (T : ByteArray) (a : Nat) (tk : Value) (w : World) (h : ScAt b T a tk w) (ha : a ≤ T.size) :
    Calls Tryz.prog 94 #[.pointer (some ⟨b, 0, none⟩)] w fun e w' => e = .returned (.string (T.extract a T.size)) ∧ ∃ m, w' = w.drewN m := by
  have hc0 := h.c0
  have hc1 := h.c1
  have hd0 : w.drew.cell? ⟨b, 0, none⟩ = _ := hc0
  have hd1 : w.drew.cell? ⟨b, 1, none⟩ = _ := hc1
  have H := Lib.hid h
  clear h
  go_enter Tryz.func94, Tryz.ntmps94
  go_wp2
  go_quiet (fail)
  go_wp2
  go_ret
  exact ⟨rfl, _, rfl⟩
set_option maxRecDepth 100000 in
theorem atEnd_any (b : Nat) (T : ByteArray) (a : Int) (tk : Value) (w : World) (h : ScAt b T a tk w) :
    Calls Tryz.prog 47 #[.pointer (some ⟨b, 0, none⟩)] w fun e w' => e = .returned (.bool (a == (T.size : Int))) ∧ ∃ m, w' = w.drewN m := by
  have hc0 := h.c0
  have hc1 := h.c1
  have hd0 : w.drew.cell? ⟨b, 0, none⟩ = _ := hc0
  have hd1 : w.drew.cell? ⟨b, 1, none⟩ = _ := hc1
  have H := Lib.hid h
  clear h
  go_enter Tryz.func47, Tryz.ntmps47
  go_wp2
  go_quiet (fail)
  go_wp2
  go_ret
  exact ⟨rfl, _, rfl⟩
theorem Kp.iterAt {b : Nat} {w w' : World} (h : Kp b w w') {k : Nat} (hk : w.heap.size ≤ k) (s : ByteArray) (p : Nat) : Kp b w (w'.iterAt k s p) :=
  ⟨h.os, h.tape, h.output, by rw [Lib.iterAt_size]; exact h.size, fun i hi hb => (Lib.iterAt_other w' k i s p (by omega)).trans (h.block i hi hb)⟩
theorem ScAt.iterAt {b : Nat} {T : ByteArray} {a : Int} {tk : Value} {w : World} (h : ScAt b T a tk w) {k : Nat} (hk : b ≠ k) (s : ByteArray) (p : Nat) : ScAt b T a tk (w.iterAt k s p) := (Lib.iterAt_other w k b s p hk).trans h
theorem ScAt.alloc {b : Nat} {T : ByteArray} {a : Int} {tk : Value} {w : World} (h : ScAt b T a tk w) (o : Obj) : ScAt b T a tk (w.alloc o) := (Below.heap_alloc w o b h.lt).trans h
/-- What may stand at a text's place S: the first n of its bytes fit, and the next one doesn't. -/
structure Runs (S : ByteArray) (fits : Int → Bool) (n : Nat) : Prop where
  le : n ≤ S.size
  yes : ∀ i (h : i < S.size), i < n → (S[i]'h).toNat < 128 ∧ fits ((S[i]'h).toNat : Int) = true
  no : ∀ (h : n < S.size), (S[n]'h).toNat < 128 ∧ fits ((S[n]'h).toNat : Int) = false
-- WHILES
set_option maxRecDepth 100000 in
set_option maxHeartbeats 1000000 in
theorem while_bl (b : Nat) (T : ByteArray) (a : Nat) (tk : Value) (S : ByteArray) (n : Nat) (w : World) (h : ScAt b T a tk w) (ha : a ≤ T.size) (hT : T.size < 1000000) (hS : T.extract a T.size = S) (hn : Runs S isBl n) :
    Calls Tryz.prog 74 #[.pointer (some ⟨b, 0, none⟩), .func (.func 75) #[] #[]] w fun e w' => e = .returned (.string (S.extract 0 n)) ∧ ScAt b T ((a + n : Nat) : Int) tk w' ∧ Kp b w w' := by
  have HSl : Hid (S.size = T.size - a) := Lib.hid (by rw [← hS, ByteArray.size_extract]; omega)
  have hSz : S.size < 1000000 := by rw [HSl.out]; omega
  have hR := Lib.hid (rest_any b T a tk w h ha)
  rw [hS] at hR
  have HH := Lib.hid h
  clear hS h
  have HN := Lib.hid hn
  have hnl := hn.le
  clear hn
  go_enter Tryz.func74, Tryz.ntmps74
  go_wp2_with fail
  refine hR.out.mono ?_
  rintro e w1 ⟨rfl, m, hm⟩
  have hs : ScAt b T a tk w1 := by rw [hm]; exact HH.out.drewN m
  have hk : Kp b w w1 := by rw [hm]; exact (Kp.refl b w).drewN m
  clear hm
  have HS1 := Lib.hid hs
  have HK1 := Lib.hid hk
  have hlt : b < w1.heap.size := hs.lt
  clear hs hk
  go_wp2
  go_loopw [6, 7, 8] (fun ln _ _ wr => ln = .int .i64 S.size ∧ ∃ pos : Nat, pos ≤ n ∧ wr.heap[w1.heap.size]? = some (.stringIter S pos) ∧ ScAt b T a tk wr ∧ Kp b w1 wr) (fun _ _ _ wr => S.size - wr.iterPos w1.heap.size)
  case atStart => exact ⟨rfl, 0, Nat.zero_le _, by have := World.iter_heap w1 S 0; simpa using this, HS1.out.alloc _, (Kp.refl b w1).alloc _⟩
  case round =>
    obtain ⟨rfl, pos, hp, hit, hs, hk⟩ := hrel
    have HS2 := Lib.hid hs
    have HK2 := Lib.hid hk
    have HIT := Lib.hid hit
    clear hs hk
    by_cases hlt2 : pos < S.size
    · have hasc : (S[pos]'hlt2).toNat < 128 := by
        by_cases g : pos < n
        · exact (HN.out.yes pos hlt2 g).1
        · obtain rfl : pos = n := by omega
          exact (HN.out.no hlt2).1
      have hnx : ∀ ty, (Instr.next (.pointer (some ⟨w1.heap.size, 0, none⟩)) true ty).run Tryz.prog wr = _ := fun ty => Lib.run_next_ascii_at wr w1.heap.size S pos ty hit hlt2 hasc
      have hit2 := Lib.iterAt_heap wr w1.heap.size S pos (pos + 1) hit
      have HS3 := Lib.hid (HS2.out.iterAt (k := w1.heap.size) (by omega) S (pos + 1))
      have HK3 := Lib.hid (HK2.out.iterAt (k := w1.heap.size) (Nat.le_refl _) S (pos + 1))
      have HY : Hid (pos < n → isBl ((S[pos]'hlt2).toNat : Int) = true) := Lib.hid (fun g => (HN.out.yes pos hlt2 g).2)
      have HO : Hid (pos = n → isBl ((S[pos]'hlt2).toNat : Int) = false) := Lib.hid (fun g => by subst g; exact (HN.out.no hlt2).2)
      have hne : (((S[pos]'hlt2).toNat : Int) == 65533) = false := by rw [beq_eq_false_iff_ne]; omega
      generalize ((S[pos]'hlt2).toNat : Int) = c at *
      clear hasc hit
      have HIT2 := Lib.hid hit2
      clear hit2
      have HC := Lib.hid (fun w => isBlank_any c w)
      by_cases g : pos < n
      · have hv := HY.out g
        rw [hv] at HC
        clear hv HY HO
        go_wp2_with (go_at_call 75; refine (HC.out _).mono ?_; rintro e w' ⟨rfl, rfl⟩)
        go_roundw
        case rel => exact ⟨rfl, pos + 1, by omega, HIT2.out, HS3.out, HK3.out⟩
        case measure =>
          simp only [World.iterPos, HIT2.out, HIT.out]
          omega
      · have hpn : pos = n := by omega
        have hv := HO.out hpn
        rw [hv] at HC
        clear hv HY HO
        generalize wr.iterAt w1.heap.size S (pos + 1) = w2 at *
        have hc1 := HS3.out.c1
        have hf1 := HS3.out.fz 1
        subst hpn
        go_wp2_with (go_at_call 75; refine (HC.out _).mono ?_; rintro e w' ⟨rfl, rfl⟩)
        go_ret
        exact ⟨rfl, by rw [Int.natCast_add]; exact HS3.out.set1 _, HK1.out.trans (HK3.out.setCell 1 _)⟩
    · have hnx : ∀ ty, (Instr.next (.pointer (some ⟨w1.heap.size, 0, none⟩)) true ty).run Tryz.prog wr = _ := fun ty => Lib.run_next_end_at wr w1.heap.size S pos ty hit hlt2
      obtain rfl : pos = S.size := by omega
      obtain rfl : n = S.size := by omega
      have hc1 := HS2.out.c1
      have hf1 := HS2.out.fz 1
      go_wp2
      go_ret
      exact ⟨by rw [ByteArray.extract_zero_size]; rfl, by rw [Int.natCast_add]; exact HS2.out.set1 _, HK1.out.trans (HK2.out.setCell 1 _)⟩
set_option maxRecDepth 100000 in
set_option maxHeartbeats 1000000 in
theorem while_il (b : Nat) (T : ByteArray) (a : Nat) (tk : Value) (S : ByteArray) (n : Nat) (w : World) (h : ScAt b T a tk w) (ha : a ≤ T.size) (hT : T.size < 1000000) (hS : T.extract a T.size = S) (hn : Runs S isIl n) :
    Calls Tryz.prog 74 #[.pointer (some ⟨b, 0, none⟩), .func (.func 76) #[] #[]] w fun e w' => e = .returned (.string (S.extract 0 n)) ∧ ScAt b T ((a + n : Nat) : Int) tk w' ∧ Kp b w w' := by
  have HSl : Hid (S.size = T.size - a) := Lib.hid (by rw [← hS, ByteArray.size_extract]; omega)
  have hSz : S.size < 1000000 := by rw [HSl.out]; omega
  have hR := Lib.hid (rest_any b T a tk w h ha)
  rw [hS] at hR
  have HH := Lib.hid h
  clear hS h
  have HN := Lib.hid hn
  have hnl := hn.le
  clear hn
  go_enter Tryz.func74, Tryz.ntmps74
  go_wp2_with fail
  refine hR.out.mono ?_
  rintro e w1 ⟨rfl, m, hm⟩
  have hs : ScAt b T a tk w1 := by rw [hm]; exact HH.out.drewN m
  have hk : Kp b w w1 := by rw [hm]; exact (Kp.refl b w).drewN m
  clear hm
  have HS1 := Lib.hid hs
  have HK1 := Lib.hid hk
  have hlt : b < w1.heap.size := hs.lt
  clear hs hk
  go_wp2
  go_loopw [6, 7, 8] (fun ln _ _ wr => ln = .int .i64 S.size ∧ ∃ pos : Nat, pos ≤ n ∧ wr.heap[w1.heap.size]? = some (.stringIter S pos) ∧ ScAt b T a tk wr ∧ Kp b w1 wr) (fun _ _ _ wr => S.size - wr.iterPos w1.heap.size)
  case atStart => exact ⟨rfl, 0, Nat.zero_le _, by have := World.iter_heap w1 S 0; simpa using this, HS1.out.alloc _, (Kp.refl b w1).alloc _⟩
  case round =>
    obtain ⟨rfl, pos, hp, hit, hs, hk⟩ := hrel
    have HS2 := Lib.hid hs
    have HK2 := Lib.hid hk
    have HIT := Lib.hid hit
    clear hs hk
    by_cases hlt2 : pos < S.size
    · have hasc : (S[pos]'hlt2).toNat < 128 := by
        by_cases g : pos < n
        · exact (HN.out.yes pos hlt2 g).1
        · obtain rfl : pos = n := by omega
          exact (HN.out.no hlt2).1
      have hnx : ∀ ty, (Instr.next (.pointer (some ⟨w1.heap.size, 0, none⟩)) true ty).run Tryz.prog wr = _ := fun ty => Lib.run_next_ascii_at wr w1.heap.size S pos ty hit hlt2 hasc
      have hit2 := Lib.iterAt_heap wr w1.heap.size S pos (pos + 1) hit
      have HS3 := Lib.hid (HS2.out.iterAt (k := w1.heap.size) (by omega) S (pos + 1))
      have HK3 := Lib.hid (HK2.out.iterAt (k := w1.heap.size) (Nat.le_refl _) S (pos + 1))
      have HY : Hid (pos < n → isIl ((S[pos]'hlt2).toNat : Int) = true) := Lib.hid (fun g => (HN.out.yes pos hlt2 g).2)
      have HO : Hid (pos = n → isIl ((S[pos]'hlt2).toNat : Int) = false) := Lib.hid (fun g => by subst g; exact (HN.out.no hlt2).2)
      have hne : (((S[pos]'hlt2).toNat : Int) == 65533) = false := by rw [beq_eq_false_iff_ne]; omega
      generalize ((S[pos]'hlt2).toNat : Int) = c at *
      clear hasc hit
      have HIT2 := Lib.hid hit2
      clear hit2
      have HC := Lib.hid (fun w => isInLine_any c w)
      by_cases g : pos < n
      · have hv := HY.out g
        rw [hv] at HC
        clear hv HY HO
        go_wp2_with (go_at_call 76; refine (HC.out _).mono ?_; rintro e w' ⟨rfl, rfl⟩)
        go_roundw
        case rel => exact ⟨rfl, pos + 1, by omega, HIT2.out, HS3.out, HK3.out⟩
        case measure =>
          simp only [World.iterPos, HIT2.out, HIT.out]
          omega
      · have hpn : pos = n := by omega
        have hv := HO.out hpn
        rw [hv] at HC
        clear hv HY HO
        generalize wr.iterAt w1.heap.size S (pos + 1) = w2 at *
        have hc1 := HS3.out.c1
        have hf1 := HS3.out.fz 1
        subst hpn
        go_wp2_with (go_at_call 76; refine (HC.out _).mono ?_; rintro e w' ⟨rfl, rfl⟩)
        go_ret
        exact ⟨rfl, by rw [Int.natCast_add]; exact HS3.out.set1 _, HK1.out.trans (HK3.out.setCell 1 _)⟩
    · have hnx : ∀ ty, (Instr.next (.pointer (some ⟨w1.heap.size, 0, none⟩)) true ty).run Tryz.prog wr = _ := fun ty => Lib.run_next_end_at wr w1.heap.size S pos ty hit hlt2
      obtain rfl : pos = S.size := by omega
      obtain rfl : n = S.size := by omega
      have hc1 := HS2.out.c1
      have hf1 := HS2.out.fz 1
      go_wp2
      go_ret
      exact ⟨by rw [ByteArray.extract_zero_size]; rfl, by rw [Int.natCast_add]; exact HS2.out.set1 _, HK1.out.trans (HK2.out.setCell 1 _)⟩
set_option maxRecDepth 100000 in
set_option maxHeartbeats 1000000 in
theorem while_na (b : Nat) (T : ByteArray) (a : Nat) (tk : Value) (S : ByteArray) (n : Nat) (w : World) (h : ScAt b T a tk w) (ha : a ≤ T.size) (hT : T.size < 1000000) (hS : T.extract a T.size = S) (hn : Runs S isNa n) :
    Calls Tryz.prog 74 #[.pointer (some ⟨b, 0, none⟩), .func (.func 26) #[] #[]] w fun e w' => e = .returned (.string (S.extract 0 n)) ∧ ScAt b T ((a + n : Nat) : Int) tk w' ∧ Kp b w w' := by
  have HSl : Hid (S.size = T.size - a) := Lib.hid (by rw [← hS, ByteArray.size_extract]; omega)
  have hSz : S.size < 1000000 := by rw [HSl.out]; omega
  have hR := Lib.hid (rest_any b T a tk w h ha)
  rw [hS] at hR
  have HH := Lib.hid h
  clear hS h
  have HN := Lib.hid hn
  have hnl := hn.le
  clear hn
  go_enter Tryz.func74, Tryz.ntmps74
  go_wp2_with fail
  refine hR.out.mono ?_
  rintro e w1 ⟨rfl, m, hm⟩
  have hs : ScAt b T a tk w1 := by rw [hm]; exact HH.out.drewN m
  have hk : Kp b w w1 := by rw [hm]; exact (Kp.refl b w).drewN m
  clear hm
  have HS1 := Lib.hid hs
  have HK1 := Lib.hid hk
  have hlt : b < w1.heap.size := hs.lt
  clear hs hk
  go_wp2
  go_loopw [6, 7, 8] (fun ln _ _ wr => ln = .int .i64 S.size ∧ ∃ pos : Nat, pos ≤ n ∧ wr.heap[w1.heap.size]? = some (.stringIter S pos) ∧ ScAt b T a tk wr ∧ Kp b w1 wr) (fun _ _ _ wr => S.size - wr.iterPos w1.heap.size)
  case atStart => exact ⟨rfl, 0, Nat.zero_le _, by have := World.iter_heap w1 S 0; simpa using this, HS1.out.alloc _, (Kp.refl b w1).alloc _⟩
  case round =>
    obtain ⟨rfl, pos, hp, hit, hs, hk⟩ := hrel
    have HS2 := Lib.hid hs
    have HK2 := Lib.hid hk
    have HIT := Lib.hid hit
    clear hs hk
    by_cases hlt2 : pos < S.size
    · have hasc : (S[pos]'hlt2).toNat < 128 := by
        by_cases g : pos < n
        · exact (HN.out.yes pos hlt2 g).1
        · obtain rfl : pos = n := by omega
          exact (HN.out.no hlt2).1
      have hnx : ∀ ty, (Instr.next (.pointer (some ⟨w1.heap.size, 0, none⟩)) true ty).run Tryz.prog wr = _ := fun ty => Lib.run_next_ascii_at wr w1.heap.size S pos ty hit hlt2 hasc
      have hit2 := Lib.iterAt_heap wr w1.heap.size S pos (pos + 1) hit
      have HS3 := Lib.hid (HS2.out.iterAt (k := w1.heap.size) (by omega) S (pos + 1))
      have HK3 := Lib.hid (HK2.out.iterAt (k := w1.heap.size) (Nat.le_refl _) S (pos + 1))
      have HY : Hid (pos < n → isNa ((S[pos]'hlt2).toNat : Int) = true) := Lib.hid (fun g => (HN.out.yes pos hlt2 g).2)
      have HO : Hid (pos = n → isNa ((S[pos]'hlt2).toNat : Int) = false) := Lib.hid (fun g => by subst g; exact (HN.out.no hlt2).2)
      have hne : (((S[pos]'hlt2).toNat : Int) == 65533) = false := by rw [beq_eq_false_iff_ne]; omega
      generalize ((S[pos]'hlt2).toNat : Int) = c at *
      clear hasc hit
      have HIT2 := Lib.hid hit2
      clear hit2
      have HC := Lib.hid (fun w => isNamePart_any c w)
      by_cases g : pos < n
      · have hv := HY.out g
        rw [hv] at HC
        clear hv HY HO
        go_wp2_with (go_at_call 26; refine (HC.out _).mono ?_; rintro e w' ⟨rfl, rfl⟩)
        go_roundw
        case rel => exact ⟨rfl, pos + 1, by omega, HIT2.out, HS3.out, HK3.out⟩
        case measure =>
          simp only [World.iterPos, HIT2.out, HIT.out]
          omega
      · have hpn : pos = n := by omega
        have hv := HO.out hpn
        rw [hv] at HC
        clear hv HY HO
        generalize wr.iterAt w1.heap.size S (pos + 1) = w2 at *
        have hc1 := HS3.out.c1
        have hf1 := HS3.out.fz 1
        subst hpn
        go_wp2_with (go_at_call 26; refine (HC.out _).mono ?_; rintro e w' ⟨rfl, rfl⟩)
        go_ret
        exact ⟨rfl, by rw [Int.natCast_add]; exact HS3.out.set1 _, HK1.out.trans (HK3.out.setCell 1 _)⟩
    · have hnx : ∀ ty, (Instr.next (.pointer (some ⟨w1.heap.size, 0, none⟩)) true ty).run Tryz.prog wr = _ := fun ty => Lib.run_next_end_at wr w1.heap.size S pos ty hit hlt2
      obtain rfl : pos = S.size := by omega
      obtain rfl : n = S.size := by omega
      have hc1 := HS2.out.c1
      have hf1 := HS2.out.fz 1
      go_wp2
      go_ret
      exact ⟨by rw [ByteArray.extract_zero_size]; rfl, by rw [Int.natCast_add]; exact HS2.out.set1 _, HK1.out.trans (HK2.out.setCell 1 _)⟩
end Go.Proofs.YtmielaonkkhmiaaGreatDoor
