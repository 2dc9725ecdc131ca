/-
  wire: signed, fits, isSize, packed, place, shapeOf, Size, shapeFrom, over the table of the forms.
-/
import Derived.Test.YtjjdfodjkoiedaaDoorWMath
import Derived.Test.YtjjdfodjkoiedaaDoorChecked
import Derived.Below
import Derived.LoopN
import Derived.Outline
import Derived.Lib.Hide
import Derived.Deep.QuietTactic
import Derived.BigQuiet
import Derived.WalkSpells
import Derived.IntWalk
set_option linter.unusedVariables false
namespace Go.Proofs.YtjjdfodjkoiedaaDoor
open Go.RowKit

theorem ret_int {k : IntKind} {a b : Int} (h : a = b) : Ending.returned (.int k a) = .returned (.int k b) := by rw [h]
theorem ret_bool {a b : Bool} (h : a = b) : Ending.returned (.bool a) = .returned (.bool b) := by rw [h]

/-- The table of the forms as the program lays it. -/
def Tab (w : World) : Prop :=
  (w.cell? ⟨0, 0, none⟩ = some (.int .i64 1) ∧ w.cell? ⟨0, 1, none⟩ = some (.int .i64 7) ∧ w.cell? ⟨0, 2, none⟩ = some (.int .u8 0) ∧ w.cell? ⟨0, 3, none⟩ = some (.int .u8 127)) ∧
  (w.cell? ⟨0, 4, none⟩ = some (.int .i64 2) ∧ w.cell? ⟨0, 5, none⟩ = some (.int .i64 14) ∧ w.cell? ⟨0, 6, none⟩ = some (.int .u8 128) ∧ w.cell? ⟨0, 7, none⟩ = some (.int .u8 63)) ∧
  (w.cell? ⟨0, 8, none⟩ = some (.int .i64 4) ∧ w.cell? ⟨0, 9, none⟩ = some (.int .i64 29) ∧ w.cell? ⟨0, 10, none⟩ = some (.int .u8 192) ∧ w.cell? ⟨0, 11, none⟩ = some (.int .u8 31)) ∧
  (w.cell? ⟨0, 12, none⟩ = some (.int .i64 9) ∧ w.cell? ⟨0, 13, none⟩ = some (.int .i64 64) ∧ w.cell? ⟨0, 14, none⟩ = some (.int .u8 224) ∧ w.cell? ⟨0, 15, none⟩ = some (.int .u8 0))

theorem Tab.of_block {w w' : World} (h : Tab w) (e : w'.heap[0]? = w.heap[0]?) : Tab w' := by
  unfold Tab at *
  simpa only [World.cell?_of_block (w := w) (w' := w') (a := ⟨0, _, none⟩) e] using h
theorem Tab.pos {w : World} (h : Tab w) : 0 < w.heap.size := World.block_lt_of_cell? w ⟨0, 0, none⟩ h.1.1
theorem Tab.below {B : Nat} {w w' : World} (h : Tab w) (hb : Below B w w') (hB : 0 < B) : Tab w' := h.of_block (hb.block 0 hB)
theorem Tab.alloc {w : World} (h : Tab w) (o : Obj) : Tab (w.alloc o) := h.of_block (Below.heap_alloc _ _ _ h.pos)

set_option maxHeartbeats 400000 in
theorem signed_any (u b : Int) (h0 : 1 ≤ b) (h1 : b ≤ 64) (w : World) :
    Calls Tryd.prog 75 #[.int .u64 u, .int .i64 b] w fun e w' => e = .returned (.int .i64 (sgn u b.toNat)) ∧ w = w' := by
  have hs := sgn_shift u b.toNat (by omega) (by omega)
  have h2 : (64 - b).toNat = 64 - b.toNat := by omega
  have HS := Lib.hid hs
  have H2 := Lib.hid h2
  clear hs h2
  go_enter Tryd.func75, Tryd.ntmps75
  go_wp2
  go_ret
  refine ⟨ret_int ?_, rfl⟩
  show wrap64 (IntKind.u64.wrap (u * 2 ^ (64 - b).toNat)) / 2 ^ (64 - b).toNat = _
  rw [H2.out, IntKind.wrap_u64]
  refine HS.out _ ?_ ?_ ?_ <;> (unfold wrap64; omega)

/-- Has the number room in b bits? -/
def fitsB (n : Int) (b : Nat) : Bool := decide (sgn n b = n)
theorem fitsB_iff (n : Int) (b : Nat) (hb : 0 < b) : fitsB n b = decide (-(2 ^ (b - 1)) ≤ n ∧ n < 2 ^ (b - 1)) := by
  unfold fitsB
  exact decide_eq_decide.2 (sgn_id n b hb)
theorem sgn_congr {u v : Int} {b : Nat} (h : u % 2 ^ b = v % 2 ^ b) : sgn u b = sgn v b := by unfold sgn; rw [h]
theorem mod_mod_pow (n : Int) (b : Nat) (hb : b ≤ 64) : (n % 18446744073709551616) % 2 ^ b = n % 2 ^ b := by
  refine Int.emod_emod_of_dvd n ?_
  have : (18446744073709551616 : Int) = 2 ^ 64 := by rfl
  rw [this]
  exact ⟨2 ^ (64 - b), by rw [← Int.pow_add, show b + (64 - b) = 64 by omega]⟩

set_option maxHeartbeats 400000 in
theorem fits_any (n b : Int) (h0 : 1 ≤ b) (h1 : b ≤ 64) (w : World) :
    Calls Tryd.prog 65 #[.int .i64 n, .int .i64 b] w fun e w' => e = .returned (.bool (fitsB n b.toNat)) ∧ w = w' := by
  have hs := signed_any (IntKind.u64.wrap n) b h0 h1
  have hc : sgn (IntKind.u64.wrap n) b.toNat = sgn n b.toNat := sgn_congr (by rw [IntKind.wrap_u64]; exact mod_mod_pow n _ (by omega))
  rw [hc] at hs
  have HS := Lib.hid hs
  clear hs hc
  have hf : ∀ x : Int, x = sgn n b.toNat → (x == n) = fitsB n b.toNat := by rintro x rfl; unfold fitsB; rfl
  have HF := Lib.hid hf
  clear hf
  go_enter Tryd.func65, Tryd.ntmps65
  go_wp2_with fail
  refine (HS.out _).mono ?_
  rintro e w1 ⟨rfl, rfl⟩
  go_wp2
  go_ret
  exact ⟨ret_bool (HF.out _ rfl), rfl⟩

set_option maxHeartbeats 400000 in
theorem isSize_any (n : Int) (w : World) :
    Calls Tryd.prog 64 #[.int .i64 n] w fun e w' => e = .returned (.bool (isSz n)) ∧ w = w' := by
  have hfin : ∀ b : Bool, (b = true ↔ (n = 1 ∨ n = 2 ∨ n = 4 ∨ n = 8)) → b = isSz n := by
    intro b hb
    unfold isSz
    cases b
    · symm; rw [decide_eq_false_iff_not]; intro h; have := hb.2 h; cases this
    · symm; rw [decide_eq_true_eq]; exact hb.1 rfl
  have HF := Lib.hid hfin
  clear hfin
  go_enter Tryd.func64, Tryd.ntmps64
  go_wp2
  all_goals
    go_ret
    first
      | exact ⟨ret_bool (HF.out true (by simp; omega)), rfl⟩
      | exact ⟨ret_bool (HF.out (n == 1 || n == 2 || n == 4 || n == 8) (by simp [or_assoc])), rfl⟩

set_option maxHeartbeats 400000 in
theorem packed_any (n : Int) (h0 : 0 ≤ n) (h1 : n ≤ 4611686018427387904) (w : World) :
    Calls Tryd.prog 62 #[.int .i64 n] w fun e w' => e = .returned (.int .i64 ((n + 7) / 8)) ∧ w = w' := by
  go_enter Tryd.func62, Tryd.ntmps62
  go_wp2
  go_ret
  exact ⟨rfl, rfl⟩

set_option maxHeartbeats 400000 in
theorem place_any (n : Int) (h0 : 0 ≤ n) (h1 : n ≤ 4611686018427387904) (w : World) :
    Calls Tryd.prog 63 #[.int .i64 n] w fun e w' => e = .returned (.int .u8 (128 / 2 ^ (n % 8).toNat)) ∧ w = w' := by
  go_enter Tryd.func63, Tryd.ntmps63
  go_wp2
  go_ret
  exact ⟨rfl, rfl⟩

/-- The value of a form. -/
def formV (s b k m : Int) : Value := .agg #[.int .i64 s, .int .i64 b, .int .u8 k, .int .u8 m]
def formN (n : Int) : Value := if -64 ≤ n ∧ n ≤ 63 then formV 1 7 0 127 else if -8192 ≤ n ∧ n ≤ 8191 then formV 2 14 128 63 else if -268435456 ≤ n ∧ n ≤ 268435455 then formV 4 29 192 31 else formV 9 64 224 0

theorem fits7 (n : Int) : fitsB n 7 = decide (-64 ≤ n ∧ n ≤ 63) := by rw [fitsB_iff _ _ (by decide)]; exact decide_eq_decide.2 (by show -(64 : Int) ≤ n ∧ n < 64 ↔ _; omega)
theorem fits14 (n : Int) : fitsB n 14 = decide (-8192 ≤ n ∧ n ≤ 8191) := by rw [fitsB_iff _ _ (by decide)]; exact decide_eq_decide.2 (by show -(8192 : Int) ≤ n ∧ n < 8192 ↔ _; omega)
theorem fits29 (n : Int) : fitsB n 29 = decide (-268435456 ≤ n ∧ n ≤ 268435455) := by rw [fitsB_iff _ _ (by decide)]; exact decide_eq_decide.2 (by show -(268435456 : Int) ≤ n ∧ n < 268435456 ↔ _; omega)

theorem fits_is (n b : Int) (r : Bool) (h0 : 1 ≤ b) (h1 : b ≤ 64) (h : fitsB n b.toNat = r) (w : World) :
    Calls Tryd.prog 65 #[.int .i64 n, .int .i64 b] w fun e w' => e = .returned (.bool r) ∧ w = w' := by
  subst h; exact fits_any n b h0 h1 w

set_option maxHeartbeats 1000000 in
set_option maxRecDepth 100000 in
theorem shapeOf_any (n : Int) (w : World) (ht : Tab w) :
    Calls Tryd.prog 61 #[.int .i64 n] w fun e w' => e = .returned (formN n) ∧ Below w.heap.size w w' := by
  have hp := ht.pos
  obtain ⟨⟨a0, a1, a2, a3⟩, ⟨b0, b1, b2, b3⟩, ⟨c0, c1, c2, c3⟩, ⟨d0, d1, d2, d3⟩⟩ := ht
  unfold formN formV
  by_cases h7 : -64 ≤ n ∧ n ≤ 63
  · have k7 := fits_is n 7 true (by omega) (by omega) ((fits7 n).trans (decide_eq_true h7))
    rw [if_pos h7]
    have K7 := Lib.hid k7
    clear k7 h7
    go_enter Tryd.func61, Tryd.ntmps61
    go_wp2
    refine wp_loop_rounds 1 ?_
    rw [rounds_succ]
    go_wp2_with fail
    refine (K7.out _).mono ?_
    rintro e w1 ⟨rfl, rfl⟩
    go_wp2
    refine bodyPost_ret (v := .agg #[.int .i64 1, .int .i64 7, .int .u8 0, .int .u8 127]) (by simp [results, Tryd.results61, go_sem]) rfl ⟨rfl, (Below.refl _ _).alloc (Nat.le_refl _) _⟩
  have k7 := fits_is n 7 false (by omega) (by omega) ((fits7 n).trans (decide_eq_false h7))
  rw [if_neg h7]
  have K7 := Lib.hid k7
  clear k7 h7
  by_cases h14 : -8192 ≤ n ∧ n ≤ 8191
  · have k14 := fits_is n 14 true (by omega) (by omega) ((fits14 n).trans (decide_eq_true h14))
    rw [if_pos h14]
    have K14 := Lib.hid k14
    clear k14 h14
    go_enter Tryd.func61, Tryd.ntmps61
    go_wp2
    refine wp_loop_rounds 2 ?_
    rw [rounds_succ]
    go_wp2_with fail
    refine (K7.out _).mono ?_
    rintro e w1 ⟨rfl, rfl⟩
    go_wp2
    rw [rounds_succ]
    go_wp2_with fail
    refine (K14.out _).mono ?_
    rintro e w2 ⟨rfl, rfl⟩
    go_wp2
    refine bodyPost_ret (v := .agg #[.int .i64 2, .int .i64 14, .int .u8 128, .int .u8 63]) (by simp [results, Tryd.results61, go_sem]) rfl ⟨rfl, (Below.refl _ _).alloc (Nat.le_refl _) _⟩
  have k14 := fits_is n 14 false (by omega) (by omega) ((fits14 n).trans (decide_eq_false h14))
  rw [if_neg h14]
  have K14 := Lib.hid k14
  clear k14 h14
  by_cases h29 : -268435456 ≤ n ∧ n ≤ 268435455
  · have k29 := fits_is n 29 true (by omega) (by omega) ((fits29 n).trans (decide_eq_true h29))
    rw [if_pos h29]
    have K29 := Lib.hid k29
    clear k29 h29
    go_enter Tryd.func61, Tryd.ntmps61
    go_wp2
    refine wp_loop_rounds 3 ?_
    rw [rounds_succ]
    go_wp2_with fail
    refine (K7.out _).mono ?_
    rintro e w1 ⟨rfl, rfl⟩
    go_wp2
    rw [rounds_succ]
    go_wp2_with fail
    refine (K14.out _).mono ?_
    rintro e w2 ⟨rfl, rfl⟩
    go_wp2
    rw [rounds_succ]
    go_wp2_with fail
    refine (K29.out _).mono ?_
    rintro e w3 ⟨rfl, rfl⟩
    go_wp2
    refine bodyPost_ret (v := .agg #[.int .i64 4, .int .i64 29, .int .u8 192, .int .u8 31]) (by simp [results, Tryd.results61, go_sem]) rfl ⟨rfl, (Below.refl _ _).alloc (Nat.le_refl _) _⟩
  · have k29 := fits_is n 29 false (by omega) (by omega) ((fits29 n).trans (decide_eq_false h29))
    rw [if_neg h29]
    have K29 := Lib.hid k29
    clear k29 h29
    go_enter Tryd.func61, Tryd.ntmps61
    go_wp2
    refine wp_loop_rounds 4 ?_
    rw [rounds_succ]
    go_wp2_with fail
    refine (K7.out _).mono ?_
    rintro e w1 ⟨rfl, rfl⟩
    go_wp2
    rw [rounds_succ]
    go_wp2_with fail
    refine (K14.out _).mono ?_
    rintro e w2 ⟨rfl, rfl⟩
    go_wp2
    rw [rounds_succ]
    go_wp2_with fail
    refine (K29.out _).mono ?_
    rintro e w3 ⟨rfl, rfl⟩
    go_wp2
    rw [rounds_succ]
    go_wp2
    refine bodyPost_ret (v := .agg #[.int .i64 9, .int .i64 64, .int .u8 224, .int .u8 0]) (by simp [results, Tryd.results61, go_sem]) rfl ⟨rfl, (Below.refl _ _).alloc (Nat.le_refl _) _⟩

theorem below_al {w W : World} {o : Obj} (h : Below w.heap.size w W) : Below w.heap.size w (W.alloc o) := h.alloc h.size o

theorem formN_size (n : Int) : ∃ b k m, formN n = formV (szN n) b k m := by
  unfold formN szN
  repeat' split
  all_goals exact ⟨_, _, _, rfl⟩

set_option maxRecDepth 100000 in
set_option maxHeartbeats 400000 in
theorem size_any (n : Int) (w : World) (ht : Tab w) :
    Calls Tryd.prog 28 #[.int .i64 n] w fun e w' => e = .returned (.int .i64 (szN n)) ∧ Below w.heap.size w w' := by
  have h := shapeOf_any n w ht
  obtain ⟨b, k, m, hf⟩ := formN_size n
  rw [hf] at h
  unfold formV at h
  have H := Lib.hid h
  clear h hf ht
  generalize szN n = z at *
  have hfd : ∀ w, (Instr.field 96 (.agg #[.int .i64 z, .int .i64 b, .int .u8 k, .int .u8 m]) 0).run Tryd.prog w = .ok (.int .i64 z) w := fun _ => by kernel_rfl
  go_enter Tryd.func28, Tryd.ntmps28
  go_wp2_with fail
  refine H.out.mono ?_
  rintro e w1 ⟨rfl, hb⟩
  go_wp2
  go_ret
  exact ⟨rfl, hb⟩

set_option maxRecDepth 100000 in
theorem andNot_mask (c : Nat) (h : c < 256) :
    (bits .andNot .u8 (c : Int) 127 = 0 ↔ c < 128) ∧ (bits .andNot .u8 (c : Int) 63 = 128 ↔ 128 ≤ c ∧ c < 192) ∧ (bits .andNot .u8 (c : Int) 31 = 192 ↔ 192 ≤ c ∧ c < 224) ∧ (bits .andNot .u8 (c : Int) 0 = 224 ↔ c = 224) := by
  have key : ∀ k : Fin 256, (bits .andNot .u8 (k.val : Int) 127 = 0 ↔ k.val < 128) ∧ (bits .andNot .u8 (k.val : Int) 63 = 128 ↔ 128 ≤ k.val ∧ k.val < 192) ∧ (bits .andNot .u8 (k.val : Int) 31 = 192 ↔ 192 ≤ k.val ∧ k.val < 224) ∧ (bits .andNot .u8 (k.val : Int) 0 = 224 ↔ k.val = 224) := by decide +kernel
  exact key ⟨c, h⟩

/-- The form that begins with a byte. -/
def formC (c : Int) : Value := if c < 128 then formV 1 7 0 127 else if c < 192 then formV 2 14 128 63 else if c < 224 then formV 4 29 192 31 else formV 9 64 224 0

set_option maxHeartbeats 2000000 in
set_option maxRecDepth 100000 in
theorem shapeFrom_core (n : Nat) (r : Value) (q : Bool) (h : n < 256) (w : World) (ht : Tab w) (hr : q = decide (n ≤ 224)) (hv : r = if n ≤ 224 then formC n else formV 0 0 0 0) :
    Calls Tryd.prog 84 #[.int .u8 (n : Int)] w fun e w' => e = .returned (.tuple #[r, .bool q]) ∧ Below w.heap.size w w' := by
  have hp := ht.pos
  obtain ⟨⟨a0, a1, a2, a3⟩, ⟨b0, b1, b2, b3⟩, ⟨c0, c1, c2, c3⟩, ⟨d0, d1, d2, d3⟩⟩ := ht
  obtain ⟨m1, m2, m3, m4⟩ := andNot_mask n h
  have i0 : ∀ w, (Instr.index 121 (.agg #[.int .i64 1, .int .i64 7, .int .u8 0, .int .u8 127, .int .i64 2, .int .i64 14, .int .u8 128, .int .u8 63, .int .i64 4, .int .i64 29, .int .u8 192, .int .u8 31, .int .i64 9, .int .i64 64, .int .u8 224, .int .u8 0]) (.int .i64 0)).run Tryd.prog w = .ok (.agg #[.int .i64 1, .int .i64 7, .int .u8 0, .int .u8 127]) w := fun _ => by kernel_rfl
  have i1 : ∀ w, (Instr.index 121 (.agg #[.int .i64 1, .int .i64 7, .int .u8 0, .int .u8 127, .int .i64 2, .int .i64 14, .int .u8 128, .int .u8 63, .int .i64 4, .int .i64 29, .int .u8 192, .int .u8 31, .int .i64 9, .int .i64 64, .int .u8 224, .int .u8 0]) (.int .i64 1)).run Tryd.prog w = .ok (.agg #[.int .i64 2, .int .i64 14, .int .u8 128, .int .u8 63]) w := fun _ => by kernel_rfl
  have i2 : ∀ w, (Instr.index 121 (.agg #[.int .i64 1, .int .i64 7, .int .u8 0, .int .u8 127, .int .i64 2, .int .i64 14, .int .u8 128, .int .u8 63, .int .i64 4, .int .i64 29, .int .u8 192, .int .u8 31, .int .i64 9, .int .i64 64, .int .u8 224, .int .u8 0]) (.int .i64 2)).run Tryd.prog w = .ok (.agg #[.int .i64 4, .int .i64 29, .int .u8 192, .int .u8 31]) w := fun _ => by kernel_rfl
  have i3 : ∀ w, (Instr.index 121 (.agg #[.int .i64 1, .int .i64 7, .int .u8 0, .int .u8 127, .int .i64 2, .int .i64 14, .int .u8 128, .int .u8 63, .int .i64 4, .int .i64 29, .int .u8 192, .int .u8 31, .int .i64 9, .int .i64 64, .int .u8 224, .int .u8 0]) (.int .i64 3)).run Tryd.prog w = .ok (.agg #[.int .i64 9, .int .i64 64, .int .u8 224, .int .u8 0]) w := fun _ => by kernel_rfl
  unfold formC formV at hv
  by_cases h1 : n < 128
  · obtain rfl : r = .agg #[.int .i64 1, .int .i64 7, .int .u8 0, .int .u8 127] := by rw [hv, if_pos (by omega), if_pos (by omega)]
    obtain rfl : q = true := by rw [hr]; exact decide_eq_true (by omega)
    clear hr hv
    have t1 : (bits .andNot .u8 (n : Int) 127 == 0) = true := by rw [beq_iff_eq]; exact m1.2 (by omega)
    clear m1 m2 m3 m4 h h1
    go_enter Tryd.func84, Tryd.ntmps84
    go_wp2
    refine wp_loop_rounds 1 ?_
    rw [rounds_succ]
    go_wp2
    refine bodyPost_ret (v := .tuple #[.agg #[.int .i64 1, .int .i64 7, .int .u8 0, .int .u8 127], .bool true]) (by simp [results, Tryd.results84, go_sem]) rfl ⟨rfl, ?_⟩
    exact below_al (below_al (Below.refl _ _))
  by_cases h2 : n < 192
  · obtain rfl : r = .agg #[.int .i64 2, .int .i64 14, .int .u8 128, .int .u8 63] := by rw [hv, if_pos (by omega), if_neg (by omega), if_pos (by omega)]
    obtain rfl : q = true := by rw [hr]; exact decide_eq_true (by omega)
    clear hr hv
    have t1 : (bits .andNot .u8 (n : Int) 127 == 0) = false := by rw [beq_eq_false_iff_ne]; exact fun e => by have := m1.1 e; omega
    have t2 : (bits .andNot .u8 (n : Int) 63 == 128) = true := by rw [beq_iff_eq]; exact m2.2 (by omega)
    clear m1 m2 m3 m4 h h1 h2
    go_enter Tryd.func84, Tryd.ntmps84
    go_wp2
    refine wp_loop_rounds 2 ?_
    rw [rounds_succ]
    go_wp2
    rw [rounds_succ]
    go_wp2
    refine bodyPost_ret (v := .tuple #[.agg #[.int .i64 2, .int .i64 14, .int .u8 128, .int .u8 63], .bool true]) (by simp [results, Tryd.results84, go_sem]) rfl ⟨rfl, ?_⟩
    exact below_al (below_al (below_al (Below.refl _ _)))
  by_cases h3 : n < 224
  · obtain rfl : r = .agg #[.int .i64 4, .int .i64 29, .int .u8 192, .int .u8 31] := by rw [hv, if_pos (by omega), if_neg (by omega), if_neg (by omega), if_pos (by omega)]
    obtain rfl : q = true := by rw [hr]; exact decide_eq_true (by omega)
    clear hr hv
    have t1 : (bits .andNot .u8 (n : Int) 127 == 0) = false := by rw [beq_eq_false_iff_ne]; exact fun e => by have := m1.1 e; omega
    have t2 : (bits .andNot .u8 (n : Int) 63 == 128) = false := by rw [beq_eq_false_iff_ne]; exact fun e => by have := m2.1 e; omega
    have t3 : (bits .andNot .u8 (n : Int) 31 == 192) = true := by rw [beq_iff_eq]; exact m3.2 (by omega)
    clear m1 m2 m3 m4 h h1 h2 h3
    go_enter Tryd.func84, Tryd.ntmps84
    go_wp2
    refine wp_loop_rounds 3 ?_
    rw [rounds_succ]
    go_wp2
    rw [rounds_succ]
    go_wp2
    rw [rounds_succ]
    go_wp2
    refine bodyPost_ret (v := .tuple #[.agg #[.int .i64 4, .int .i64 29, .int .u8 192, .int .u8 31], .bool true]) (by simp [results, Tryd.results84, go_sem]) rfl ⟨rfl, ?_⟩
    exact below_al (below_al (below_al (below_al (Below.refl _ _))))
  by_cases h4 : n ≤ 224
  · obtain rfl : r = .agg #[.int .i64 9, .int .i64 64, .int .u8 224, .int .u8 0] := by rw [hv, if_pos (by omega), if_neg (by omega), if_neg (by omega), if_neg (by omega)]
    obtain rfl : q = true := by rw [hr]; exact decide_eq_true (by omega)
    clear hr hv
    have t1 : (bits .andNot .u8 (n : Int) 127 == 0) = false := by rw [beq_eq_false_iff_ne]; exact fun e => by have := m1.1 e; omega
    have t2 : (bits .andNot .u8 (n : Int) 63 == 128) = false := by rw [beq_eq_false_iff_ne]; exact fun e => by have := m2.1 e; omega
    have t3 : (bits .andNot .u8 (n : Int) 31 == 192) = false := by rw [beq_eq_false_iff_ne]; exact fun e => by have := m3.1 e; omega
    have t4 : (bits .andNot .u8 (n : Int) 0 == 224) = true := by rw [beq_iff_eq]; exact m4.2 (by omega)
    clear m1 m2 m3 m4 h h1 h2 h3 h4
    go_enter Tryd.func84, Tryd.ntmps84
    go_wp2
    refine wp_loop_rounds 4 ?_
    rw [rounds_succ]
    go_wp2
    rw [rounds_succ]
    go_wp2
    rw [rounds_succ]
    go_wp2
    rw [rounds_succ]
    go_wp2
    refine bodyPost_ret (v := .tuple #[.agg #[.int .i64 9, .int .i64 64, .int .u8 224, .int .u8 0], .bool true]) (by simp [results, Tryd.results84, go_sem]) rfl ⟨rfl, ?_⟩
    exact below_al (below_al (below_al (below_al (below_al (Below.refl _ _)))))
  · obtain rfl : r = .agg #[.int .i64 0, .int .i64 0, .int .u8 0, .int .u8 0] := by rw [hv, if_neg (by omega)]
    obtain rfl : q = false := by rw [hr]; exact decide_eq_false (by omega)
    clear hr hv
    have t1 : (bits .andNot .u8 (n : Int) 127 == 0) = false := by rw [beq_eq_false_iff_ne]; exact fun e => by have := m1.1 e; omega
    have t2 : (bits .andNot .u8 (n : Int) 63 == 128) = false := by rw [beq_eq_false_iff_ne]; exact fun e => by have := m2.1 e; omega
    have t3 : (bits .andNot .u8 (n : Int) 31 == 192) = false := by rw [beq_eq_false_iff_ne]; exact fun e => by have := m3.1 e; omega
    have t4 : (bits .andNot .u8 (n : Int) 0 == 224) = false := by rw [beq_eq_false_iff_ne]; exact fun e => by have := m4.1 e; omega
    clear m1 m2 m3 m4 h h1 h2 h3 h4
    go_enter Tryd.func84, Tryd.ntmps84
    go_wp2
    refine wp_loop_rounds 5 ?_
    rw [rounds_succ]
    go_wp2
    rw [rounds_succ]
    go_wp2
    rw [rounds_succ]
    go_wp2
    rw [rounds_succ]
    go_wp2
    rw [rounds_succ]
    go_wp2
    refine bodyPost_ret (v := .tuple #[.agg #[.int .i64 0, .int .i64 0, .int .u8 0, .int .u8 0], .bool false]) (by simp [results, Tryd.results84, go_sem]) rfl ⟨rfl, ?_⟩
    exact below_al (below_al (below_al (below_al (below_al (Below.refl _ _)))))
end Go.Proofs.YtjjdfodjkoiedaaDoor
