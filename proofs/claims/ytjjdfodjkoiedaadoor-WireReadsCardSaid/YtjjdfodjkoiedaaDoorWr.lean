/-
  acheronlaw02.write at a writer of the call's own, kind by kind. Written by gen_wr.py.
-/
import Derived.Test.YtjjdfodjkoiedaaDoorOpen
import Derived.Test.YtjjdfodjkoiedaaDoorWBits
set_option linter.unusedVariables false
namespace Go.Proofs.YtjjdfodjkoiedaaDoor
open Go.RowKit

/-- The error and the bytes of an item whose bits are l. -/
def wrS (x : It) (l : List Bool) : Int × List UInt8 :=
  if x.k = 0 then litS x.n x.z else if x.k = 1 then sigS x.n x.z else if x.k = 2 ∨ x.k = 6 then (0, encNum x.n)
  else if x.k = 3 then (0, strS x.s) else if x.k = 4 then (0, bitS l) else (0, x.s.data.toList)

theorem wpost_box {w W w' : World} {wb B : Nat} {v : Value} {bs : List UInt8} {r : Int × List UInt8} {e : Ending} (hW : Below w.heap.size w W) (h : WPost W wb B v bs r e w') : e = .returned (.int .i64 r.1) ∧ WPost w wb B v bs r (.returned (.int .i64 r.1)) w' := by
  obtain ⟨he, v', ha, hs⟩ := h
  exact ⟨he, rfl, v', ha, hs.ahead hW⟩

set_option maxHeartbeats 1000000 in
set_option maxRecDepth 100000 in
theorem wr_little (wb B : Nat) (v : Value) (bs : List UInt8) (z n : Int) (s : ByteArray) (la : Option Addr) (ll lc : Nat) (l : List Bool) (hl : bs.length ≤ 800000000) (hs : s.size ≤ 1048576) (hb : l.length ≤ 65536) (w : World) (h : WAt w wb B v bs) (ht : Tab w) (hB : 0 < B)
    (hbl : BoolsAt (fun b => b ≠ wb ∧ v.ownBlock ≠ some b) w (.slice la ll lc) l) :
    Calls Tryd.prog 16 #[.pointer (some ⟨wb, 0, none⟩), .agg #[.int .i64 0, .int .i64 z, .int .i64 n, .string s, .slice la ll lc]] w (WPost w wb B v bs (litS n z)) := by
  have hbw : Below w.heap.size w (w.alloc (.cells #[.int .i64 0, .int .i64 z, .int .i64 n, .string s, .slice la ll lc] 31)) := below_al (Below.refl _ _)
  have hc := little_any wb B v bs n z (by omega) _ (h.below hbw)
  have HC := Lib.hid (hc.mono (R' := fun e w' => e = .returned (.int .i64 (litS n z).1) ∧ WPost w wb B v bs (litS n z) (.returned (.int .i64 (litS n z).1)) w') fun e w' hp => wpost_box hbw hp)
  clear hc hbw h ht hbl
  go_enter Tryd.func16, Tryd.ntmps16
  go_wp2_with fail
  refine HC.out.mono ?_
  rintro e w1 ⟨rfl, hp⟩
  go_wp2
  go_ret
  exact hp

set_option maxHeartbeats 1000000 in
set_option maxRecDepth 100000 in
theorem wr_signed (wb B : Nat) (v : Value) (bs : List UInt8) (z n : Int) (s : ByteArray) (la : Option Addr) (ll lc : Nat) (l : List Bool) (hl : bs.length ≤ 800000000) (hs : s.size ≤ 1048576) (hb : l.length ≤ 65536) (w : World) (h : WAt w wb B v bs) (ht : Tab w) (hB : 0 < B)
    (hbl : BoolsAt (fun b => b ≠ wb ∧ v.ownBlock ≠ some b) w (.slice la ll lc) l) :
    Calls Tryd.prog 16 #[.pointer (some ⟨wb, 0, none⟩), .agg #[.int .i64 1, .int .i64 z, .int .i64 n, .string s, .slice la ll lc]] w (WPost w wb B v bs (sigS n z)) := by
  have hbw : Below w.heap.size w (w.alloc (.cells #[.int .i64 1, .int .i64 z, .int .i64 n, .string s, .slice la ll lc] 31)) := below_al (Below.refl _ _)
  have hc := signedW_any wb B v bs n z (by omega) _ (h.below hbw)
  have HC := Lib.hid (hc.mono (R' := fun e w' => e = .returned (.int .i64 (sigS n z).1) ∧ WPost w wb B v bs (sigS n z) (.returned (.int .i64 (sigS n z).1)) w') fun e w' hp => wpost_box hbw hp)
  clear hc hbw h ht hbl
  go_enter Tryd.func16, Tryd.ntmps16
  go_wp2_with fail
  refine HC.out.mono ?_
  rintro e w1 ⟨rfl, hp⟩
  go_wp2
  go_ret
  exact hp

set_option maxHeartbeats 1000000 in
set_option maxRecDepth 100000 in
theorem wr_number (wb B : Nat) (v : Value) (bs : List UInt8) (z n : Int) (s : ByteArray) (la : Option Addr) (ll lc : Nat) (l : List Bool) (hl : bs.length ≤ 800000000) (hs : s.size ≤ 1048576) (hb : l.length ≤ 65536) (w : World) (h : WAt w wb B v bs) (ht : Tab w) (hB : 0 < B)
    (hbl : BoolsAt (fun b => b ≠ wb ∧ v.ownBlock ≠ some b) w (.slice la ll lc) l) :
    Calls Tryd.prog 16 #[.pointer (some ⟨wb, 0, none⟩), .agg #[.int .i64 2, .int .i64 z, .int .i64 n, .string s, .slice la ll lc]] w (WPost w wb B v bs (0, encNum n)) := by
  have hbw : Below w.heap.size w (w.alloc (.cells #[.int .i64 2, .int .i64 z, .int .i64 n, .string s, .slice la ll lc] 31)) := below_al (Below.refl _ _)
  have hc := number_any wb B v bs n (by omega) _ (h.below hbw) (ht.below hbw ht.pos)
  have HC := Lib.hid (hc.mono (R' := fun e w' => e = .returned (.int .i64 (0, encNum n).1) ∧ WPost w wb B v bs (0, encNum n) (.returned (.int .i64 (0, encNum n).1)) w') fun e w' hp => wpost_box hbw hp)
  clear hc hbw h ht hbl
  go_enter Tryd.func16, Tryd.ntmps16
  go_wp2_with fail
  refine HC.out.mono ?_
  rintro e w1 ⟨rfl, hp⟩
  go_wp2
  go_ret
  exact hp

set_option maxHeartbeats 1000000 in
set_option maxRecDepth 100000 in
theorem wr_count (wb B : Nat) (v : Value) (bs : List UInt8) (z n : Int) (s : ByteArray) (la : Option Addr) (ll lc : Nat) (l : List Bool) (hl : bs.length ≤ 800000000) (hs : s.size ≤ 1048576) (hb : l.length ≤ 65536) (w : World) (h : WAt w wb B v bs) (ht : Tab w) (hB : 0 < B)
    (hbl : BoolsAt (fun b => b ≠ wb ∧ v.ownBlock ≠ some b) w (.slice la ll lc) l) :
    Calls Tryd.prog 16 #[.pointer (some ⟨wb, 0, none⟩), .agg #[.int .i64 6, .int .i64 z, .int .i64 n, .string s, .slice la ll lc]] w (WPost w wb B v bs (0, encNum n)) := by
  have hbw : Below w.heap.size w (w.alloc (.cells #[.int .i64 6, .int .i64 z, .int .i64 n, .string s, .slice la ll lc] 31)) := below_al (Below.refl _ _)
  have hc := number_any wb B v bs n (by omega) _ (h.below hbw) (ht.below hbw ht.pos)
  have HC := Lib.hid (hc.mono (R' := fun e w' => e = .returned (.int .i64 (0, encNum n).1) ∧ WPost w wb B v bs (0, encNum n) (.returned (.int .i64 (0, encNum n).1)) w') fun e w' hp => wpost_box hbw hp)
  clear hc hbw h ht hbl
  go_enter Tryd.func16, Tryd.ntmps16
  go_wp2_with fail
  refine HC.out.mono ?_
  rintro e w1 ⟨rfl, hp⟩
  go_wp2
  go_ret
  exact hp

set_option maxHeartbeats 1000000 in
set_option maxRecDepth 100000 in
theorem wr_string (wb B : Nat) (v : Value) (bs : List UInt8) (z n : Int) (s : ByteArray) (la : Option Addr) (ll lc : Nat) (l : List Bool) (hl : bs.length ≤ 800000000) (hs : s.size ≤ 1048576) (hb : l.length ≤ 65536) (w : World) (h : WAt w wb B v bs) (ht : Tab w) (hB : 0 < B)
    (hbl : BoolsAt (fun b => b ≠ wb ∧ v.ownBlock ≠ some b) w (.slice la ll lc) l) :
    Calls Tryd.prog 16 #[.pointer (some ⟨wb, 0, none⟩), .agg #[.int .i64 3, .int .i64 z, .int .i64 n, .string s, .slice la ll lc]] w (WPost w wb B v bs (0, strS s)) := by
  have hbw : Below w.heap.size w (w.alloc (.cells #[.int .i64 3, .int .i64 z, .int .i64 n, .string s, .slice la ll lc] 31)) := below_al (Below.refl _ _)
  have hc := string_any wb B v bs s (by omega) hs _ (h.below hbw) (ht.below hbw ht.pos)
  have HC := Lib.hid (hc.mono (R' := fun e w' => e = .returned (.int .i64 (0, strS s).1) ∧ WPost w wb B v bs (0, strS s) (.returned (.int .i64 (0, strS s).1)) w') fun e w' hp => wpost_box hbw hp)
  clear hc hbw h ht hbl
  go_enter Tryd.func16, Tryd.ntmps16
  go_wp2_with fail
  refine HC.out.mono ?_
  rintro e w1 ⟨rfl, hp⟩
  go_wp2
  go_ret
  exact hp

set_option maxHeartbeats 1000000 in
set_option maxRecDepth 100000 in
theorem wr_bits (wb B : Nat) (v : Value) (bs : List UInt8) (z n : Int) (s : ByteArray) (la : Option Addr) (ll lc : Nat) (l : List Bool) (hl : bs.length ≤ 800000000) (hs : s.size ≤ 1048576) (hb : l.length ≤ 65536) (w : World) (h : WAt w wb B v bs) (ht : Tab w) (hB : 0 < B)
    (hbl : BoolsAt (fun b => b ≠ wb ∧ v.ownBlock ≠ some b) w (.slice la ll lc) l) :
    Calls Tryd.prog 16 #[.pointer (some ⟨wb, 0, none⟩), .agg #[.int .i64 4, .int .i64 z, .int .i64 n, .string s, .slice la ll lc]] w (WPost w wb B v bs (0, bitS l)) := by
  have hbw : Below w.heap.size w (w.alloc (.cells #[.int .i64 4, .int .i64 z, .int .i64 n, .string s, .slice la ll lc] 31)) := below_al (Below.refl _ _)
  have hc := bits_any wb B v bs l (.slice la ll lc) (by omega) hb _ (h.below hbw) (ht.below hbw ht.pos) hB (hbl.below hbw)
  have HC := Lib.hid (hc.mono (R' := fun e w' => e = .returned (.int .i64 (0, bitS l).1) ∧ WPost w wb B v bs (0, bitS l) (.returned (.int .i64 (0, bitS l).1)) w') fun e w' hp => wpost_box hbw hp)
  clear hc hbw h ht hbl
  go_enter Tryd.func16, Tryd.ntmps16
  go_wp2_with fail
  refine HC.out.mono ?_
  rintro e w1 ⟨rfl, hp⟩
  go_wp2
  go_ret
  exact hp

set_option maxHeartbeats 1000000 in
set_option maxRecDepth 100000 in
theorem wr_raw (wb B : Nat) (v : Value) (bs : List UInt8) (k z n : Int) (s : ByteArray) (la : Option Addr) (ll lc : Nat) (l : List Bool) (hl : bs.length ≤ 800000000) (hs : s.size ≤ 1048576) (hb : l.length ≤ 65536) (w : World) (h : WAt w wb B v bs) (ht : Tab w) (hB : 0 < B)
    (hbl : BoolsAt (fun b => b ≠ wb ∧ v.ownBlock ≠ some b) w (.slice la ll lc) l) (hk0 : k ≠ 0) (hk1 : k ≠ 1) (hk2 : k ≠ 2) (hk3 : k ≠ 3) (hk4 : k ≠ 4) (hk6 : k ≠ 6) :
    Calls Tryd.prog 16 #[.pointer (some ⟨wb, 0, none⟩), .agg #[.int .i64 k, .int .i64 z, .int .i64 n, .string s, .slice la ll lc]] w (WPost w wb B v bs (0, s.data.toList)) := by
  have hbw : Below w.heap.size w (w.alloc (.cells #[.int .i64 k, .int .i64 z, .int .i64 n, .string s, .slice la ll lc] 31)) := below_al (Below.refl _ _)
  have hc := raw_any wb B v bs s (by omega) (by omega) _ (h.below hbw)
  have HC := Lib.hid (hc.mono (R' := fun e w' => e = .returned (.int .i64 (0, s.data.toList).1) ∧ WPost w wb B v bs (0, s.data.toList) (.returned (.int .i64 (0, s.data.toList).1)) w') fun e w' hp => wpost_box hbw hp)
  clear hc hbw h ht hbl
  have q0 : (k == 0) = false := by rw [beq_eq_false_iff_ne]; exact hk0
  have q1 : (k == 1) = false := by rw [beq_eq_false_iff_ne]; exact hk1
  have q2 : (k == 2) = false := by rw [beq_eq_false_iff_ne]; exact hk2
  have q3 : (k == 3) = false := by rw [beq_eq_false_iff_ne]; exact hk3
  have q4 : (k == 4) = false := by rw [beq_eq_false_iff_ne]; exact hk4
  have q6 : (k == 6) = false := by rw [beq_eq_false_iff_ne]; exact hk6
  clear hk0 hk1 hk2 hk3 hk4 hk6
  go_enter Tryd.func16, Tryd.ntmps16
  go_wp2_with fail
  refine HC.out.mono ?_
  rintro e w1 ⟨rfl, hp⟩
  go_wp2
  go_ret
  exact hp

theorem write_any (wb B : Nat) (v : Value) (bs : List UInt8) (x : It) (l : List Bool) (hl : bs.length ≤ 800000000) (hs : x.s.size ≤ 1048576) (hb : l.length ≤ 65536) (w : World) (h : WAt w wb B v bs) (ht : Tab w) (hB : 0 < B)
    (hbl : BoolsAt (fun b => b ≠ wb ∧ v.ownBlock ≠ some b) w (.slice x.la x.ll x.lc) l) :
    Calls Tryd.prog 16 #[.pointer (some ⟨wb, 0, none⟩), x.val] w (WPost w wb B v bs (wrS x l)) := by
  obtain ⟨k, z, n, s, la, ll, lc⟩ := x
  unfold It.val wrS
  simp only at *
  by_cases h0 : k = 0
  · subst h0; rw [if_pos rfl]; exact wr_little wb B v bs z n s la ll lc l hl hs hb w h ht hB hbl
  rw [if_neg h0]
  by_cases h1 : k = 1
  · subst h1; rw [if_pos rfl]; exact wr_signed wb B v bs z n s la ll lc l hl hs hb w h ht hB hbl
  rw [if_neg h1]
  by_cases h2 : k = 2
  · subst h2; rw [if_pos (by simp)]; exact wr_number wb B v bs z n s la ll lc l hl hs hb w h ht hB hbl
  by_cases h6 : k = 6
  · subst h6; rw [if_pos (by simp)]; exact wr_count wb B v bs z n s la ll lc l hl hs hb w h ht hB hbl
  rw [if_neg (by simp [h2, h6])]
  by_cases h3 : k = 3
  · subst h3; rw [if_pos rfl]; exact wr_string wb B v bs z n s la ll lc l hl hs hb w h ht hB hbl
  rw [if_neg h3]
  by_cases h4 : k = 4
  · subst h4; rw [if_pos rfl]; exact wr_bits wb B v bs z n s la ll lc l hl hs hb w h ht hB hbl
  rw [if_neg h4]
  exact wr_raw wb B v bs k z n s la ll lc l hl hs hb w h ht hB hbl h0 h1 h2 h3 h4 h6
end Go.Proofs.YtjjdfodjkoiedaaDoor
