/-
  The reference's readers: stop, take, value.
-/
import Derived.Test.YtjjdfodjkoiedaaDoorMathA
import Derived.Test.YtjjdfodjkoiedaaDoorRefW3
import Derived.Lib.EndianBits
set_option linter.unusedVariables false
namespace Go.Proofs.YtjjdfodjkoiedaaDoor
open Go.RowKit

/-- A reader of the reference. -/
def rdr (S : ByteArray) (i : Nat) (e : Int) : Value := .agg #[.string S, .int .i64 (i : Int), .int .i64 e]

set_option maxHeartbeats 1000000 in
theorem stop_any (S : ByteArray) (i : Nat) (e x : Int) (w : World) :
    Calls Tryd.prog 56 #[rdr S i e, .int .i64 x] w fun en w' => en = .returned (rdr S i x) ∧ Below w.heap.size w w' := by
  unfold rdr
  go_enter Tryd.func56, Tryd.ntmps56
  go_wp2
  refine bodyPost_ret (v := .agg #[.string S, .int .i64 (i : Int), .int .i64 x]) (by simp [results, Tryd.results56, go_sem]) rfl ?_
  exact ⟨rfl, below_al (below_al (Below.refl _ _))⟩

/-- A fresh result of a reader's kind. -/
def z3 : Array Value := #[.string ⟨#[]⟩, .int .i64 0, .int .i64 0]
def Res3 (w : World) (b : Nat) : Prop :=
  (w.cell? ⟨b, 0, none⟩ = some (.string ⟨#[]⟩) ∧ w.cell? ⟨b, 1, none⟩ = some (.int .i64 0) ∧ w.cell? ⟨b, 2, none⟩ = some (.int .i64 0)) ∧
  (w.frozen? ⟨b, 0, none⟩ = false ∧ w.frozen? ⟨b, 1, none⟩ = false ∧ w.frozen? ⟨b, 2, none⟩ = false)
theorem res3_of {w : World} {b : Nat} {T : TypeId} (h : w.heap[b]? = some (.cells z3 T (0, 0))) : Res3 w b := by
  unfold Res3
  simp [World.cell?, World.frozen?, h, z3]
theorem res3_below {W w1 : World} {o : Obj} {T : TypeId} (hb : Below ((W.alloc o).alloc (.cells z3 T)).heap.size ((W.alloc o).alloc (.cells z3 T)) w1) : Res3 w1 (W.heap.size + 1) := by
  refine res3_of (T := T) ?_
  rw [hb.block _ (by simp)]
  have := heap_alloc_new (W.alloc o) (.cells z3 T)
  simpa using this
theorem two_below {w w1 : World} {o1 o2 : Obj} (hb : Below ((w.alloc o1).alloc o2).heap.size ((w.alloc o1).alloc o2) w1) : Below w.heap.size w w1 :=
  (below_al (below_al (Below.refl _ _))).trans (hb.mono (by simp; omega))
theorem three_cells {w w1 : World} (hb : Below w.heap.size w w1) (b : Nat) (h : w.heap.size ≤ b) (u0 u1 u2 : Value) : Below w.heap.size w (((w1.setCell ⟨b, 0, none⟩ u0).setCell ⟨b, 1, none⟩ u1).setCell ⟨b, 2, none⟩ u2) :=
  ((hb.setCell (p := ⟨b, 0, none⟩) h u0).setCell (p := ⟨b, 1, none⟩) h u1).setCell (p := ⟨b, 2, none⟩) h u2

set_option maxHeartbeats 2000000 in
set_option maxRecDepth 100000 in
theorem take_no (S : ByteArray) (i : Nat) (e n : Int) (hS : S.size ≤ 1000000000) (hi : i ≤ S.size) (h : (S.size : Int) - (i : Int) < n) (w : World) :
    Calls Tryd.prog 82 #[rdr S i e, .int .i64 n] w fun en w' => en = .returned (.tuple #[.string ⟨#[]⟩, rdr S i 16]) ∧ Below w.heap.size w w' := by
  have hs := fun w => stop_any S i e 16 w
  unfold rdr at *
  have HS := Lib.hid hs
  have h0 : (0 : Int) ≤ i := by omega
  have h1 : (i : Int) ≤ S.size := by omega
  have h2 : (S.size : Int) ≤ 1000000000 := by omega
  clear hs hS hi
  go_enter Tryd.func82, Tryd.ntmps82
  go_wp2_with fail
  refine (HS.out _).mono ?_
  rintro en w1 ⟨rfl, hb⟩
  have HB := Lib.hid (two_below hb)
  obtain ⟨⟨a0, a1, a2⟩, ⟨g0, g1, g2⟩⟩ := res3_below hb
  clear hb
  go_wp2
  refine bodyPost_ret (v := .tuple #[.string ⟨#[]⟩, .agg #[.string S, .int .i64 (i : Int), .int .i64 16]]) (by simp [results, Tryd.results82, go_sem, a0, a1, a2]) rfl ?_
  exact ⟨rfl, three_cells HB.out _ (by omega) _ _ _⟩

set_option maxHeartbeats 2000000 in
set_option maxRecDepth 100000 in
theorem take_ok (S : ByteArray) (i n : Nat) (e : Int) (hS : S.size ≤ 1000000000) (hi : i + n ≤ S.size) (w : World) :
    Calls Tryd.prog 82 #[rdr S i e, .int .i64 (n : Int)] w fun en w' => en = .returned (.tuple #[.string (S.extract i (i + n)), rdr S (i + n) e]) ∧ Below w.heap.size w w' := by
  unfold rdr at *
  have h0 : (0 : Int) ≤ i := by omega
  have h1 : (i : Int) + n ≤ S.size := by omega
  have h2 : (S.size : Int) ≤ 1000000000 := by omega
  have h3 : (0 : Int) ≤ n := by omega
  clear hS hi
  go_enter Tryd.func82, Tryd.ntmps82
  go_wp2
  go_region
  all_goals
    go_wp2
    refine bodyPost_ret (v := .tuple #[.string (S.extract i (i + n)), .agg #[.string S, .int .i64 ((i + n : Nat) : Int), .int .i64 e]]) (by simp [results, Tryd.results82, go_sem]) rfl ?_
    exact ⟨rfl, (below_al (below_al (Below.refl _ _))).drew⟩

/-- The value of the highest k of the n bytes. -/
def leT (s : ByteArray) (n : Nat) : Nat → Int
  | 0 => 0
  | k + 1 => leT s n k * 256 + bt s (n - (k + 1))
theorem leT_bd (s : ByteArray) (n k : Nat) : 0 ≤ leT s n k ∧ leT s n k < 256 ^ k := by
  induction k with
  | zero => simp [leT]
  | succ k ih =>
    have hb := bt_bd s (n - (k + 1))
    simp only [leT, Int.pow_succ]
    omega
theorem leT_leV (s : ByteArray) (n k : Nat) (h : k ≤ n) : leV s n = leV s (n - k) + 256 ^ (n - k) * leT s n k := by
  induction k with
  | zero => simp [leT]
  | succ k ih =>
    rw [ih (by omega)]
    have e : n - k = (n - (k + 1)) + 1 := by omega
    rw [e, leV, Int.pow_succ]
    simp only [leT]
    rw [Int.mul_add, Int.mul_assoc, Int.mul_comm 256, Int.mul_comm (bt s _)]
    omega
theorem leT_all (s : ByteArray) (n : Nat) : leT s n n = leV s n := by
  have := leT_leV s n n (Nat.le_refl _)
  simp [leV] at this
  omega

theorem or_round (u b : Int) (h0 : 0 ≤ u) (h1 : u < 72057594037927936) (hb : 0 ≤ b ∧ b < 256) : bits .or .u64 (IntKind.u64.wrap (u * 256)) b = u * 256 + b := by
  rw [IntKind.wrap_u64]
  have h64 : (2 : Int) ^ 64 = 18446744073709551616 := by rfl
  have h8 : (2 : Int) ^ 8 = 256 := by rfl
  rw [bits_join .u64 64 (by decide) wraps_u64 8 _ b (by omega) (by rw [h8]; omega) (by rw [h64]; omega) hb.1 (by rw [h8]; omega) (by rw [h64]; omega)]
  omega

set_option maxHeartbeats 2000000 in
set_option maxRecDepth 100000 in
theorem value_any (s : ByteArray) (h : s.size ≤ 8) (w : World) :
    Calls Tryd.prog 83 #[.string s] w fun en w' => en = .returned (.int .u64 (leV s s.size)) ∧ w = w' := by
  have HA := Lib.hid (leT_all s s.size)
  have HBT := Lib.hid (fun k h => bt_in s k h)
  obtain ⟨m, hm⟩ : ∃ m, m = s.size := ⟨_, rfl⟩
  have hm8 : (s.size : Int) ≤ 8 := by omega
  have hm0 : (0 : Int) ≤ (s.size : Int) := by omega
  clear h hm
  go_enter Tryd.func83, Tryd.ntmps83
  go_wp2
  go_loop [3, 4] (fun u i => ∃ k : Nat, k ≤ s.size ∧ i = .int .i64 ((s.size : Int) - 1 - (k : Int)) ∧ u = .int .u64 (leT s s.size k)) (fun _ i => (intOf i + 1).toNat)
  case atStart => exact ⟨0, Nat.zero_le _, by simp, rfl⟩
  case round =>
    obtain ⟨k, hk, rfl, rfl⟩ := hrel
    by_cases hlt : k < s.size
    · obtain ⟨q, hq⟩ : ∃ q : Nat, q = s.size - (k + 1) := ⟨_, rfl⟩
      have hqI : (s.size : Int) - 1 - (k : Int) = (q : Int) := by omega
      have hqs : q < s.size := by omega
      have hq0 : (0 : Int) ≤ (q : Int) := by omega
      have HB := Lib.hid (HBT.out q hqs)
      have hl := leT_bd s s.size k
      have h7 : (256 : Int) ^ k ≤ 72057594037927936 := by
        rcases (by omega : k = 0 ∨ k = 1 ∨ k = 2 ∨ k = 3 ∨ k = 4 ∨ k = 5 ∨ k = 6 ∨ k = 7) with rfl | rfl | rfl | rfl | rfl | rfl | rfl | rfl <;> decide
      have HR := Lib.hid (or_round (leT s s.size k) (bt s q) hl.1 (by omega) (bt_bd s q))
      have HE : Hid (leT s s.size (k + 1) = leT s s.size k * 256 + bt s q) := by show _ = _; rw [leT, hq]
      have HQ := Lib.hid hq
      have HQI := Lib.hid hqI
      rw [hqI]
      clear hq hqI hl h7
      go_wp2
      go_round
      case rel => exact ⟨k + 1, by omega, by have := HQ.out; show Value.int .i64 _ = _; congr 1; omega, by rw [HE.out, ← HR.out, HB.out, wrap64_byte]⟩
      case measure => simp [intOf]
    · obtain rfl : k = s.size := by omega
      go_wp2
      go_ret
      exact ⟨by rw [← HA.out]; rfl, rfl⟩

theorem bt_ext (S : ByteArray) (i z k : Nat) (hk : k < z) (h : i + z ≤ S.size) : bt (S.extract i (i + z)) k = bt (rest S i) k := by
  have h1 : k < (S.extract i (i + z)).size := by rw [ext_size S i z h]; exact hk
  have h2 : k < (rest S i).size := by rw [rest_size]; omega
  rw [bt_in _ k h1, bt_in _ k h2]
  have e1 : (S.extract i (i + z))[k]'h1 = S[i + k] := by simp [ByteArray.getElem_extract]
  have e2 : (rest S i)[k]'h2 = S[i + k] := by simp [rest, ByteArray.getElem_extract]
  rw [e1, e2]
theorem leV_ext (S : ByteArray) (i z k : Nat) (hk : k ≤ z) (h : i + z ≤ S.size) : leV (S.extract i (i + z)) k = leV (rest S i) k := by
  induction k with
  | zero => rfl
  | succ k ih => rw [leV, leV, ih (by omega), bt_ext S i z k (by omega) h]
theorem beV_ext (S : ByteArray) (i z k : Nat) (hk : k ≤ z) (h : i + z ≤ S.size) : beV (S.extract i (i + z)) k = beV (rest S i) k := by
  induction k with
  | zero => rfl
  | succ k ih => rw [beV, beV, ih (by omega), bt_ext S i z k (by omega) h]

/-- An answer of a reader of the reference. -/
def RR (w : World) (S : ByteArray) (i : Nat) (e : Int) (zero v : Value) (n x : Int) (en : Ending) (w' : World) : Prop :=
  en = .returned (.tuple #[if e ≠ 0 then zero else v, rdr S (rdN i e n x).1 (rdN i e n x).2]) ∧ Below w.heap.size w w'

/-- The reader that is the parameter, in its box. -/
def Par3 (w : World) (b : Nat) (S : ByteArray) (i e : Int) : Prop :=
  w.cell? ⟨b, 0, none⟩ = some (.string S) ∧ w.cell? ⟨b, 1, none⟩ = some (.int .i64 i) ∧ w.cell? ⟨b, 2, none⟩ = some (.int .i64 e)
def W0 (w : World) (S : ByteArray) (i e : Int) : World := (w.alloc (.cells #[.string S, .int .i64 i, .int .i64 e] 40)).alloc (.cells #[.string ⟨#[]⟩, .int .i64 0, .int .i64 0] 40)
theorem w0_below (w : World) (S : ByteArray) (i e : Int) : Below w.heap.size w (W0 w S i e) := below_al (below_al (Below.refl _ _))
theorem w0_size (w : World) (S : ByteArray) (i e : Int) : (W0 w S i e).heap.size = w.heap.size + 1 + 1 := by simp [W0]
theorem w0_facts {w w1 : World} {S : ByteArray} {i e : Int} (hb : Below (W0 w S i e).heap.size (W0 w S i e) w1) : Par3 w1 w.heap.size S i e ∧ Res3 w1 (w.heap.size + 1) ∧ w.heap.size + 1 < w1.heap.size ∧ Below w.heap.size w w1 := by
  have hs := w0_size w S i e
  have h1 : w1.heap[w.heap.size]? = some (.cells #[.string S, .int .i64 i, .int .i64 e] 40 (0, 0)) := by
    rw [hb.block _ (by omega)]
    exact ((below_al (o := .cells #[.string ⟨#[]⟩, .int .i64 0, .int .i64 0] 40) (Below.refl (w.alloc (.cells #[.string S, .int .i64 i, .int .i64 e] 40)).heap.size (w.alloc (.cells #[.string S, .int .i64 i, .int .i64 e] 40)))).block _ (by simp)).trans (heap_alloc_new w _)
  refine ⟨?_, res3_below (o := .cells #[.string S, .int .i64 i, .int .i64 e] 40) (T := 40) hb, ?_, (w0_below w S i e).trans (hb.mono (by omega))⟩
  · unfold Par3
    simp [World.cell?, h1]
  · have := hb.size
    omega

theorem res_alloc {w1 : World} {b : Nat} (o : Obj) (u0 u1 u2 : Value) (h : Res3 w1 b) :
    ((((w1.setCell ⟨b, 0, none⟩ u0).setCell ⟨b, 1, none⟩ u1).setCell ⟨b, 2, none⟩ u2).alloc o).cell? ⟨b, 0, none⟩ = some u0 ∧
    ((((w1.setCell ⟨b, 0, none⟩ u0).setCell ⟨b, 1, none⟩ u1).setCell ⟨b, 2, none⟩ u2).alloc o).cell? ⟨b, 1, none⟩ = some u1 ∧
    ((((w1.setCell ⟨b, 0, none⟩ u0).setCell ⟨b, 1, none⟩ u1).setCell ⟨b, 2, none⟩ u2).alloc o).cell? ⟨b, 2, none⟩ = some u2 := by
  obtain ⟨⟨a0, a1, a2⟩, _⟩ := h
  have hlt : b < w1.heap.size := World.block_lt_of_cell? w1 _ a0
  have hlt3 : b < (((w1.setCell ⟨b, 0, none⟩ u0).setCell ⟨b, 1, none⟩ u1).setCell ⟨b, 2, none⟩ u2).heap.size := by simpa using hlt
  rw [World.cell?_alloc_lt _ o ⟨b, 0, none⟩ hlt3, World.cell?_alloc_lt _ o ⟨b, 1, none⟩ hlt3, World.cell?_alloc_lt _ o ⟨b, 2, none⟩ hlt3]
  refine ⟨?_, ?_, ?_⟩ <;> simp [go_sem, a0, a1, a2]
theorem w0_chain {w w1 w3 : World} {S : ByteArray} {i e : Int} {o : Obj} (hb : Below (W0 w S i e).heap.size (W0 w S i e) w1) (hb3 : Below (w1.alloc o).heap.size (w1.alloc o) w3) : Below (W0 w S i e).heap.size (W0 w S i e) w3 :=
  (below_al hb).trans (hb3.mono (by have := hb.size; simp; omega))

set_option maxHeartbeats 2000000 in
set_option maxRecDepth 100000 in
theorem refReadLittle_any (S : ByteArray) (i : Nat) (e z : Int) (hS : S.size ≤ 1000000000) (hi : i ≤ S.size) (w : World) :
    Calls Tryd.prog 48 #[rdr S i e, .int .i64 z] w (RR w S i e (.int .i64 0) (.int .i64 (litR (rest S i) z).1) (litR (rest S i) z).2.1 (litR (rest S i) z).2.2) := by
  by_cases he : e = 0
  · subst he
    have hsz := rest_size S i
    unfold litR lowS
    cases hz : isSz z
    · have HZ := Lib.hid (sized_is z false hz)
      have hs := fun w => stop_any S i 0 1 w
      unfold rdr at hs
      have HS := Lib.hid hs
      have HG : Hid (∀ w1, Below w.heap.size w w1 → RR w S i 0 (.int .i64 0) (.int .i64 0) 0 1 (.returned (.tuple #[.int .i64 0, .agg #[.string S, .int .i64 (i : Int), .int .i64 1]])) w1) := fun w1 hb => ⟨by simp [rdN, rdr], hb⟩
      simp only [Bool.false_eq_true, if_false, show ¬ ((1 : Int) = 0) by decide]
      clear hz hs hsz
      unfold rdr
      go_enter Tryd.func48, Tryd.ntmps48
      go_wp2_with fail
      refine (HZ.out _).mono ?_
      rintro en w1 ⟨rfl, rfl⟩
      go_wp2_with fail
      refine (HS.out _).mono ?_
      rintro en w1 ⟨rfl, hb⟩
      obtain ⟨_, ⟨⟨a0, a1, a2⟩, ⟨g0, g1, g2⟩⟩, hlt, hbel⟩ := w0_facts (S := S) (i := i) (e := 0) hb
      have HB := Lib.hid hbel
      clear hb hbel
      go_wp2
      refine bodyPost_ret (v := .tuple #[.int .i64 0, .agg #[.string S, .int .i64 (i : Int), .int .i64 1]]) (by simp [results, Tryd.results48, go_sem, a0, a1, a2]) rfl ?_
      exact HG.out _ (three_cells HB.out _ (by omega) _ _ _)
    · have HZ := Lib.hid (sized_is z true hz)
      obtain ⟨n, rfl, hn⟩ := isSz_cases hz
      simp only [if_true, Int.toNat_natCast]
      clear hz
      by_cases hlt : ((rest S i).size : Int) < (n : Int)
      · rw [if_pos hlt]
        simp only [show ¬ ((16 : Int) = 0) by decide, if_false]
        have hs := fun w => take_no S i 0 (n : Int) hS hi (by omega) w
        unfold rdr at hs
        have HS := Lib.hid hs
        have HG : Hid (∀ w1, Below w.heap.size w w1 → RR w S i 0 (.int .i64 0) (.int .i64 0) 0 16 (.returned (.tuple #[.int .i64 0, .agg #[.string S, .int .i64 (i : Int), .int .i64 16]])) w1) := fun w1 hb => ⟨by simp [rdN, rdr], hb⟩
        clear hs hsz hlt hn
        unfold rdr
        go_enter Tryd.func48, Tryd.ntmps48
        go_wp2_with fail
        refine (HZ.out _).mono ?_
        rintro en w1 ⟨rfl, rfl⟩
        go_wp2_with fail
        refine (HS.out _).mono ?_
        rintro en w1 ⟨rfl, hb⟩
        obtain ⟨_, ⟨⟨a0, a1, a2⟩, ⟨g0, g1, g2⟩⟩, hlt, hbel⟩ := w0_facts (S := S) (i := i) (e := 0) hb
        have HB := Lib.hid hbel
        obtain ⟨z0, z1, z2⟩ := res_alloc (.cells #[.string S, .int .i64 (i : Int), .int .i64 16] 40) (.string S) (.int .i64 (i : Int)) (.int .i64 16) (h := (w0_facts (S := S) (i := i) (e := 0) hb).2.1)
        clear hb hbel
        go_wp2_with fail
        go_region
        all_goals
          go_wp2
          refine bodyPost_ret (v := .tuple #[.int .i64 0, .agg #[.string S, .int .i64 (i : Int), .int .i64 16]]) (by simp [results, Tryd.results48, go_sem, z0, z1, z2]) rfl ?_
          exact HG.out _ (below_al (three_cells HB.out _ (by omega) _ _ _)).drew
      · rw [if_neg hlt]
        simp only [if_true]
        have hin : i + n ≤ S.size := by omega
        have hv := leV_ext S i n n (Nat.le_refl _) hin
        have hes := ext_size S i n hin
        have hval := fun w => value_any (S.extract i (i + n)) (by rw [hes]; omega) w
        rw [hes, hv] at hval
        have HV := Lib.hid hval
        have hbd := leV_bd (rest S i) n
        have hu : (256 : Int) ^ n ≤ 18446744073709551616 := by rcases hn with rfl | rfl | rfl | rfl <;> decide
        have hs := fun w => take_ok S i n 0 hS hin w
        have hst := fun w => stop_any S i 0 11 w
        unfold rdr at hs hst
        have HS := Lib.hid hs
        have HST := Lib.hid hst
        generalize leV (rest S i) n = u at *
        have hu0 : 0 ≤ u := hbd.1
        have hu1 : u < 18446744073709551616 := by omega
        clear hs hst hsz hlt hn hv hes hval hbd hu
        by_cases hr : 9223372036854775807 < u
        · rw [if_pos hr]
          have HG : Hid (∀ w1, Below w.heap.size w w1 → RR w S i 0 (.int .i64 0) (.int .i64 0) 0 11 (.returned (.tuple #[.int .i64 0, .agg #[.string S, .int .i64 (i : Int), .int .i64 11]])) w1) := fun w1 hb => ⟨by simp [rdN, rdr], hb⟩
          unfold rdr
          go_enter Tryd.func48, Tryd.ntmps48
          go_wp2_with fail
          refine (HZ.out _).mono ?_
          rintro en w1 ⟨rfl, rfl⟩
          go_wp2_with fail
          refine (HS.out _).mono ?_
          rintro en w1 ⟨rfl, hb⟩
          obtain ⟨⟨p0, p1, p2⟩, ⟨⟨a0, a1, a2⟩, ⟨g0, g1, g2⟩⟩, hlt, hbel⟩ := w0_facts (S := S) (i := i) (e := 0) hb
          have hlt0 : w.heap.size < w1.heap.size := by omega
          have HB := Lib.hid hb
          clear hbel hb
          go_wp2_with fail
          refine (HV.out _).mono ?_
          rintro en w2 ⟨rfl, rfl⟩
          go_wp2_with fail
          refine (HST.out _).mono ?_
          rintro en w3 ⟨rfl, hb⟩
          have hb3 := w0_chain HB.out hb
          obtain ⟨_, ⟨⟨b0, b1, b2⟩, ⟨f0, f1, f2⟩⟩, hlt3, hbel3⟩ := w0_facts (S := S) (i := i) (e := 0) hb3
          have HB3 := Lib.hid hbel3
          clear hb hb3 hbel3 a0 a1 a2 g0 g1 g2 p0 p1 p2
          go_wp2
          refine bodyPost_ret (v := .tuple #[.int .i64 0, .agg #[.string S, .int .i64 (i : Int), .int .i64 11]]) (by simp [results, Tryd.results48, go_sem, b0, b1, b2]) rfl ?_
          exact HG.out _ (three_cells HB3.out _ (by omega) _ _ _)
        · rw [if_neg hr]
          have HG : Hid (∀ w1, Below w.heap.size w w1 → RR w S i 0 (.int .i64 0) (.int .i64 u) (n : Int) 0 (.returned (.tuple #[.int .i64 u, .agg #[.string S, .int .i64 ((i : Int) + (n : Int)), .int .i64 0]])) w1) := fun w1 hb => ⟨by simp [rdN, rdr], hb⟩
          unfold rdr
          go_enter Tryd.func48, Tryd.ntmps48
          go_wp2_with fail
          refine (HZ.out _).mono ?_
          rintro en w1 ⟨rfl, rfl⟩
          go_wp2_with fail
          refine (HS.out _).mono ?_
          rintro en w1 ⟨rfl, hb⟩
          obtain ⟨⟨p0, p1, p2⟩, ⟨⟨a0, a1, a2⟩, ⟨g0, g1, g2⟩⟩, hlt, hbel⟩ := w0_facts (S := S) (i := i) (e := 0) hb
          obtain ⟨z0, z1, z2⟩ := res_alloc (.cells #[.string S, .int .i64 ((i : Int) + (n : Int)), .int .i64 0] 40) (.string S) (.int .i64 ((i : Int) + (n : Int))) (.int .i64 0) (h := (w0_facts (S := S) (i := i) (e := 0) hb).2.1)
          have HB := Lib.hid hbel
          clear hbel hb
          go_wp2_with fail
          refine (HV.out _).mono ?_
          rintro en w2 ⟨rfl, rfl⟩
          go_wp2_with fail
          go_region
          all_goals
            go_wp2
            refine bodyPost_ret (v := .tuple #[.int .i64 u, .agg #[.string S, .int .i64 ((i : Int) + (n : Int)), .int .i64 0]]) (by simp [results, Tryd.results48, go_sem, z0, z1, z2]) rfl ?_
            exact HG.out _ (below_al (three_cells HB.out _ (by omega) _ _ _)).drew
  · have HG : Hid (∀ w1, Below w.heap.size w w1 → RR w S i e (.int .i64 0) (.int .i64 (litR (rest S i) z).1) (litR (rest S i) z).2.1 (litR (rest S i) z).2.2 (.returned (.tuple #[.int .i64 0, .agg #[.string S, .int .i64 (i : Int), .int .i64 e]])) w1) := fun w1 hb => ⟨by simp [rdN, rdr, he], hb⟩
    have hq : (e != 0) = true := by rw [bne_iff_ne]; exact he
    clear he
    unfold rdr
    go_enter Tryd.func48, Tryd.ntmps48
    go_wp2_with fail
    go_region
    all_goals
      go_wp2
      refine bodyPost_ret (v := .tuple #[.int .i64 0, .agg #[.string S, .int .i64 (i : Int), .int .i64 e]]) (by simp [results, Tryd.results48, go_sem]) rfl ?_
      exact HG.out _ (below_al (below_al (Below.refl _ _))).drew
end Go.Proofs.YtjjdfodjkoiedaaDoor
