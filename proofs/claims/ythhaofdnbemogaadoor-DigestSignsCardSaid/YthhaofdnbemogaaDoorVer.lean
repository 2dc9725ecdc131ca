/-
  digest.Verify; acheronref03.Verify.
-/
import Derived.Test.YthhaofdnbemogaaDoorSgn
import Derived.Deep.RegionHeld3
set_option linter.unusedVariables false
namespace Go.Proofs.YthhaofdnbemogaaDoor
open Go.RowKit

def expoB (a : Int) : Bool := decide (0 ≤ a ∧ a < 1152921504606845789)
theorem expoB_yes {a : Int} (h0 : 0 ≤ a) (h1 : a < 1152921504606845789) : expoB a = true := decide_eq_true ⟨h0, h1⟩
theorem expoB_of {a : Int} (h : expoB a = true) : 0 ≤ a ∧ a < 1152921504606845789 := of_decide_eq_true h
theorem expo_any (a : Int) (w : World) : Calls Tryd.prog 69 #[.int .i64 a] w fun e w' => e = .returned (.bool (expoB a)) ∧ w = w' := by
  by_cases h0 : 0 ≤ a
  · by_cases h1 : a < 1152921504606845789
    · have e := Lib.hid (expoB_yes h0 h1)
      go_enter Tryd.func69, Tryd.ntmps69
      go_wp2
      go_ret
      exact ⟨ret_bool e.out.symm, rfl⟩
    · have e := Lib.hid (show expoB a = false from decide_eq_false (fun h => h1 h.2))
      go_enter Tryd.func69, Tryd.ntmps69
      go_wp2
      go_ret
      exact ⟨ret_bool e.out.symm, rfl⟩
  · have e := Lib.hid (show expoB a = false from decide_eq_false (fun h => h0 h.1))
    go_enter Tryd.func69, Tryd.ntmps69
    go_wp2
    go_ret
    exact ⟨ret_bool e.out.symm, rfl⟩
theorem expo_is (a : Int) (b : Bool) (h : expoB a = b) (w : World) : Calls Tryd.prog 69 #[.int .i64 a] w fun e w' => e = .returned (.bool b) ∧ w = w' := by
  have := expo_any a w; rw [h] at this; exact this
noncomputable def verR (k E S : Nat) : Nat := powP 4 S * powP (powP k E) 2305843009213691577 % 2305843009213691579
noncomputable def verB (k : Int) (s : List UInt8) (E S : Int) : Bool := validB k && expoB E && expoB S && ((chalN (verR k.toNat E.toNat S.toNat) s : Int) == E)
theorem verB_k {k : Int} {s : List UInt8} {E S : Int} (h : validB k = false) : verB k s E S = false := by unfold verB; rw [h]; rfl
theorem verB_e {k : Int} {s : List UInt8} {E S : Int} (hk : validB k = true) (h : expoB E = false) : verB k s E S = false := by unfold verB; rw [hk, h]; rfl
theorem verB_s {k : Int} {s : List UInt8} {E S : Int} (hk : validB k = true) (hE : expoB E = true) (h : expoB S = false) : verB k s E S = false := by unfold verB; rw [hk, hE, h]; rfl
theorem verB_all {k E S : Nat} {s : List UInt8} (hk : validB (k : Int) = true) (hE : expoB (E : Int) = true) (hS : expoB (S : Int) = true) : verB k s E S = ((chalN (verR k E S) s : Int) == (E : Int)) := by unfold verB; rw [hk, hE, hS]; simp

theorem carryB {w W : World} {F : FuncId} {args : Array Value} {v : Value} (hc : Calls Tryd.prog F args W fun e w' => e = .returned v ∧ Below W.heap.size W w') (hB : Below w.heap.size w W) :
    Calls Tryd.prog F args W fun e w' => e = .returned v ∧ Below W.heap.size W w' ∧ Below w.heap.size w w' :=
  hc.mono fun e w' ⟨he, hb⟩ => ⟨he, hb, hB.trans (hb.mono hB.size)⟩
theorem keep2 {w w' : World} {b : Nat} {x y : Value} (h0 : w.cell? ⟨b, 0, none⟩ = some x) (h1 : w.cell? ⟨b, 1, none⟩ = some y) (hb : Below w.heap.size w w') : w'.cell? ⟨b, 0, none⟩ = some x ∧ w'.cell? ⟨b, 1, none⟩ = some y :=
  ⟨(hb.cell (p := ⟨b, 0, none⟩) (World.block_lt_of_cell? w _ h0)).trans h0, (hb.cell (p := ⟨b, 1, none⟩) (World.block_lt_of_cell? w _ h1)).trans h1⟩

theorem keep1 {w w' : World} {b : Nat} {x : Value} (h0 : w.cell? ⟨b, 0, none⟩ = some x) (hb : Below w.heap.size w w') : w'.cell? ⟨b, 0, none⟩ = some x :=
  (hb.cell (p := ⟨b, 0, none⟩) (World.block_lt_of_cell? w _ h0)).trans h0
set_option maxHeartbeats 2000000 in
set_option maxRecDepth 100000 in
theorem Verify_k (k : Int) (s : ByteArray) (E S : Int) (h : validB k = false) (w : World) :
    Calls Tryd.prog 43 #[.int .i64 k, .string s, .agg #[.int .i64 E, .int .i64 S]] w fun e w' => e = .returned (.bool false) ∧ Below w.heap.size w w' := by
  have HV := Lib.hid (fun w => valid_no k h w)
  clear h
  go_enter Tryd.func43, Tryd.ntmps43
  go_wp2_with fail
  refine (HV.out _).mono ?_
  rintro e w1 ⟨rfl, hb⟩
  have HB := Lib.hid (((Below.refl w.heap.size w).alloc (Nat.le_refl _) _).trans (hb.mono (by simp)))
  clear hb
  go_wp2_with fail
  go_ret
  exact ⟨rfl, HB.out⟩
set_option maxHeartbeats 2000000 in
set_option maxRecDepth 100000 in
theorem Verify_e (k : Int) (s : ByteArray) (E S : Int) (hk : validB k = true) (h : expoB E = false) (w : World) :
    Calls Tryd.prog 43 #[.int .i64 k, .string s, .agg #[.int .i64 E, .int .i64 S]] w fun e w' => e = .returned (.bool false) ∧ Below w.heap.size w w' := by
  have HV := Lib.hid (fun w => valid_yes k hk w)
  have HE := Lib.hid (fun w => expo_is E false h w)
  clear h hk
  go_enter Tryd.func43, Tryd.ntmps43
  go_wp2_with fail
  refine (HV.out _).mono ?_
  rintro e w1 ⟨rfl, hb⟩
  have HB := Lib.hid (((Below.refl w.heap.size w).alloc (Nat.le_refl _) _).trans (hb.mono (by simp)))
  have hr : w1.heap[w.heap.size]? = some (.cells #[.int .i64 E, .int .i64 S] 58 (0, 0)) := (hb.block _ (by simp)).trans (heap_alloc_new w _)
  have c0 : w1.cell? ⟨w.heap.size, 0, none⟩ = some (.int .i64 E) := (cell_of_row _ _ 0 _ _ _ hr).trans rfl
  clear hb hr
  go_wp2_with fail
  refine (HE.out _).mono ?_
  rintro e w2 ⟨rfl, rfl⟩
  go_wp2_with fail
  go_ret
  exact ⟨rfl, HB.out⟩
set_option maxHeartbeats 2000000 in
set_option maxRecDepth 100000 in
theorem Verify_s (k : Int) (s : ByteArray) (E S : Int) (hk : validB k = true) (hE : expoB E = true) (h : expoB S = false) (w : World) :
    Calls Tryd.prog 43 #[.int .i64 k, .string s, .agg #[.int .i64 E, .int .i64 S]] w fun e w' => e = .returned (.bool false) ∧ Below w.heap.size w w' := by
  have HV := Lib.hid (fun w => valid_yes k hk w)
  have HE := Lib.hid (fun w => expo_is E true hE w)
  have HS := Lib.hid (fun w => expo_is S false h w)
  clear h hk hE
  go_enter Tryd.func43, Tryd.ntmps43
  go_wp2_with fail
  refine (HV.out _).mono ?_
  rintro e w1 ⟨rfl, hb⟩
  have HB := Lib.hid (((Below.refl w.heap.size w).alloc (Nat.le_refl _) _).trans (hb.mono (by simp)))
  have hr : w1.heap[w.heap.size]? = some (.cells #[.int .i64 E, .int .i64 S] 58 (0, 0)) := (hb.block _ (by simp)).trans (heap_alloc_new w _)
  have c0 : w1.cell? ⟨w.heap.size, 0, none⟩ = some (.int .i64 E) := (cell_of_row _ _ 0 _ _ _ hr).trans rfl
  have c1 : w1.cell? ⟨w.heap.size, 1, none⟩ = some (.int .i64 S) := (cell_of_row _ _ 1 _ _ _ hr).trans rfl
  clear hb hr
  go_wp2_with fail
  refine (HE.out _).mono ?_
  rintro e w2 ⟨rfl, rfl⟩
  go_wp2_with fail
  refine (HS.out _).mono ?_
  rintro e w3 ⟨rfl, rfl⟩
  go_wp2_with fail
  go_ret
  exact ⟨rfl, HB.out⟩
set_option maxHeartbeats 4000000 in
set_option maxRecDepth 100000 in
theorem Verify_all (k E S : Nat) (s : ByteArray) (hs : s.size ≤ 1000000) (hk : validB (k : Int) = true) (hE : expoB (E : Int) = true) (hS : expoB (S : Int) = true) (w : World) (ht : TabD w) :
    Calls Tryd.prog 43 #[.int .i64 (k : Int), .string s, .agg #[.int .i64 (E : Int), .int .i64 (S : Int)]] w fun e w' => e = .returned (.bool ((chalN (verR k E S) s.data.toList : Int) == (E : Int))) ∧ Below w.heap.size w w' := by
  have bk := unitB_nat (unitB_valid hk)
  have bE := expoB_of hE
  have bS := expoB_of hS
  have HV := Lib.hid (fun w => valid_yes (k : Int) hk w)
  have HE := Lib.hid (fun w => expo_is (E : Int) true hE w)
  have HS := Lib.hid (fun w => expo_is (S : Int) true hS w)
  have HP1 := Lib.hid (fun w => power_any 4 S (by omega) (by omega) w)
  have HP2 := Lib.hid (fun w => power_any k E (by omega) (by omega) w)
  have HI := Lib.hid (fun w => inverse_any (powP k E) (by have := powP_lt k E; omega) w)
  have HM := Lib.hid (fun w => product_p (powP 4 S) (powP (powP k E) 2305843009213691577) (by have := powP_lt 4 S; omega) (by have := powP_lt (powP k E) 2305843009213691577; omega) w)
  have hR : powP 4 S * powP (powP k E) 2305843009213691577 % 2305843009213691579 = verR k E S := rfl
  rw [hR] at HM
  have HC := Lib.hid (fun w ht => challengeN (verR k E S) (by have : verR k E S < 2305843009213691579 := Nat.mod_lt _ (by decide); omega) s hs w ht)
  have h4 : ((4 : Nat) : Int) = 4 := rfl
  rw [h4] at HP1
  have HT := Lib.hid ht
  generalize chalN (verR k E S) s.data.toList = C at *
  generalize verR k E S = R at *
  generalize powP (powP k E) 2305843009213691577 = I at *
  generalize powP k E = K at *
  generalize powP 4 S = G at *
  clear bk bE bS hk hE hS hs hR h4 ht
  go_enter Tryd.func43, Tryd.ntmps43
  go_wp2_with fail
  refine (HV.out _).mono ?_
  rintro e w1 ⟨rfl, hb⟩
  have hB1 : Below w.heap.size w w1 := ((Below.refl w.heap.size w).alloc (Nat.le_refl _) _).trans (hb.mono (by simp))
  have hr : w1.heap[w.heap.size]? = some (.cells #[.int .i64 (E : Int), .int .i64 (S : Int)] 58 (0, 0)) := (hb.block _ (by simp)).trans (heap_alloc_new w _)
  have c0 : w1.cell? ⟨w.heap.size, 0, none⟩ = some (.int .i64 (E : Int)) := (cell_of_row _ _ 0 _ _ _ hr).trans rfl
  have c1 : w1.cell? ⟨w.heap.size, 1, none⟩ = some (.int .i64 (S : Int)) := (cell_of_row _ _ 1 _ _ _ hr).trans rfl
  have HB1 := Lib.hid hB1
  clear hb hr hB1
  go_wp2_with fail
  refine (HE.out _).mono ?_
  rintro e w2 ⟨rfl, rfl⟩
  go_wp2_with fail
  refine (HS.out _).mono ?_
  rintro e w3 ⟨rfl, rfl⟩
  go_upto_region 3 with (fail)
  go_cut [7] (fun v wr => v = .int .i64 (R : Int) ∧ wr.cell? ⟨w.heap.size, 0, none⟩ = some (.int .i64 (E : Int)) ∧ Below w.heap.size w wr)
  case first =>
    have hB1 := HB1.out
    have hB1d := hB1.drew
    go_region_held3 (fun w' => w'.cell? ⟨w.heap.size, 0, none⟩ = some (.int .i64 (E : Int)) ∧ w'.cell? ⟨w.heap.size, 1, none⟩ = some (.int .i64 (S : Int)))
      (first
        | go_keep
        | (go_split_ands; exact keep2 (by assumption) (by assumption) hb4)
        | (go_split_ands; exact keep2 (by assumption) (by assumption) hb5)
        | (go_split_ands; exact keep2 (by assumption) (by assumption) hb6)
        | (go_split_ands; exact keep2 (by assumption) (by assumption) hb7))
      (first
        | (go_at_call 63; (with_reducible refine (carryB (w := w) (HP1.out _) (by assumption)).mono ?_); rintro e w4 ⟨rfl, hb4, hB4⟩)
        | (go_at_call 63; (with_reducible refine (carryB (w := w) (HP2.out _) (by assumption)).mono ?_); rintro e w5 ⟨rfl, hb5, hB5⟩)
        | (go_at_call 64; (with_reducible refine (carryB (w := w) (HI.out _) (by assumption)).mono ?_); rintro e w6 ⟨rfl, hb6, hB6⟩)
        | (go_at_call 62; (with_reducible refine (carryB (w := w) (HM.out _) (by assumption)).mono ?_); rintro e w7 ⟨rfl, hb7, hB7⟩))
    go_wp2_with fail
    go_meet
    exact ⟨rfl, by first | assumption | exact (by assumption : _ ∧ _).1, hB7⟩
  case rest =>
    obtain ⟨rfl, c0, hB⟩ := hcut
    have hBd := hB.drew
    go_wp2_with fail
    go_region_held3 (fun w' => w'.cell? ⟨w.heap.size, 0, none⟩ = some (.int .i64 (E : Int)))
      (first
        | go_keep
        | (go_split_ands; exact keep1 (by assumption) hb8))
      (first
        | (go_at_call 67; (with_reducible refine (carryB (w := w) (HC.out _ (HT.out.below (B := w.heap.size) (by assumption) HT.out.pos)) (by assumption)).mono ?_); rintro e w8 ⟨rfl, hb8, hB8⟩))
    go_wp2_with fail
    go_ret
    exact ⟨rfl, hB8⟩
theorem Verify_any (k : Int) (s : ByteArray) (E S : Int) (hs : s.size ≤ 1000000) (w : World) (ht : TabD w) :
    Calls Tryd.prog 43 #[.int .i64 k, .string s, .agg #[.int .i64 E, .int .i64 S]] w fun e w' => e = .returned (.bool (verB k s.data.toList E S)) ∧ Below w.heap.size w w' := by
  cases hk : validB k
  · rw [verB_k hk]; exact Verify_k k s E S hk w
  cases hE : expoB E
  · rw [verB_e hk hE]; exact Verify_e k s E S hk hE w
  cases hS : expoB S
  · rw [verB_s hk hE hS]; exact Verify_s k s E S hk hE hS w
  obtain ⟨k, rfl⟩ := Int.eq_ofNat_of_zero_le (show 0 ≤ k by have := unitB_of (unitB_valid hk); omega)
  obtain ⟨E, rfl⟩ := Int.eq_ofNat_of_zero_le (expoB_of hE).1
  obtain ⟨S, rfl⟩ := Int.eq_ofNat_of_zero_le (expoB_of hS).1
  rw [verB_all hk hE hS]
  exact Verify_all k E S s hs hk hE hS w ht

set_option maxHeartbeats 4000000 in
set_option maxRecDepth 100000 in
theorem refVerify_all (k E S : Nat) (s : ByteArray) (hs : s.size ≤ 1000000) (hk : validB (k : Int) = true) (hE : expoB (E : Int) = true) (hS : expoB (S : Int) = true) (w : World) :
    Calls Tryd.prog 44 #[.int .i64 (k : Int), .string s, .int .i64 (E : Int), .int .i64 (S : Int)] w fun e w' => e = .returned (.bool ((chalN (verR k E S) s.data.toList : Int) == (E : Int))) ∧ Below w.heap.size w w' := by
  have bk := unitB_nat (unitB_valid hk)
  have bE := expoB_of hE
  have bS := expoB_of hS
  have HV := Lib.hid (fun w => refValid_yes (k : Int) hk w)
  have HP1 := Lib.hid (fun w => refPower_any 4 S (by omega) (by omega) w)
  have HP2 := Lib.hid (fun w => refPower_any k E (by omega) (by omega) w)
  have HI := Lib.hid (fun w => refInverse_any (powP k E) (powP_lt k E) w)
  have HM := Lib.hid (fun w => refTimes_any (powP 4 S) (powP (powP k E) 2305843009213691577) (powP_lt 4 S) (by have := powP_lt (powP k E) 2305843009213691577; omega) w)
  have hR : powP 4 S * powP (powP k E) 2305843009213691577 % 2305843009213691579 = verR k E S := rfl
  rw [hR] at HM
  have HC := Lib.hid (fun w => numberN (verR k E S) (by have : verR k E S < 2305843009213691579 := Nat.mod_lt _ (by decide); omega) s hs w)
  have h4 : ((4 : Nat) : Int) = 4 := rfl
  rw [h4] at HP1
  have i0 : ¬ (E : Int) < 0 := by omega
  have i1 : ¬ (1152921504606845789 : Int) ≤ (E : Int) := by omega
  have i2 : ¬ (S : Int) < 0 := by omega
  have i3 : ¬ (1152921504606845789 : Int) ≤ (S : Int) := by omega
  generalize chalN (verR k E S) s.data.toList = C at *
  generalize verR k E S = R at *
  generalize powP (powP k E) 2305843009213691577 = I at *
  generalize powP k E = K at *
  generalize powP 4 S = G at *
  clear bk bE bS hk hE hS hs hR h4
  generalize (E : Int) = e0 at *
  generalize (S : Int) = s0 at *
  go_enter Tryd.func44, Tryd.ntmps44
  go_wp2_with fail
  refine (HV.out _).mono ?_
  rintro e w1 ⟨rfl, rfl⟩
  go_wp2_with fail
  refine (HP1.out _).mono ?_
  rintro e w2 ⟨rfl, rfl⟩
  go_wp2_with fail
  refine (HP2.out _).mono ?_
  rintro e w3 ⟨rfl, rfl⟩
  go_wp2_with fail
  refine (HI.out _).mono ?_
  rintro e w4 ⟨rfl, rfl⟩
  go_wp2_with fail
  refine (HM.out _).mono ?_
  rintro e w5 ⟨rfl, rfl⟩
  go_wp2_with fail
  refine (HC.out _).mono ?_
  rintro e w6 ⟨rfl, hb⟩
  have HB := Lib.hid hb
  clear hb
  go_wp2_with fail
  go_ret
  exact ⟨rfl, HB.out⟩
set_option maxHeartbeats 2000000 in
set_option maxRecDepth 100000 in
theorem refVerify_k (k : Int) (s : ByteArray) (E S : Int) (h : validB k = false) (w : World) :
    Calls Tryd.prog 44 #[.int .i64 k, .string s, .int .i64 E, .int .i64 S] w fun e w' => e = .returned (.bool false) ∧ w = w' := by
  have HV := Lib.hid (fun w => refValid_no k h w)
  clear h
  go_enter Tryd.func44, Tryd.ntmps44
  go_wp2_with fail
  refine (HV.out _).mono ?_
  rintro e w1 ⟨rfl, rfl⟩
  go_wp2_with fail
  go_ret
  exact ⟨rfl, rfl⟩
set_option maxHeartbeats 2000000 in
set_option maxRecDepth 100000 in
theorem refVerify_bad (k : Int) (s : ByteArray) (E S : Int) (hk : validB k = true) (h : expoB E = false ∨ expoB S = false) (w : World) :
    Calls Tryd.prog 44 #[.int .i64 k, .string s, .int .i64 E, .int .i64 S] w fun e w' => e = .returned (.bool false) ∧ w = w' := by
  have HV := Lib.hid (fun w => refValid_yes k hk w)
  have hh : E < 0 ∨ (¬ E < 0 ∧ 1152921504606845789 ≤ E) ∨ (¬ E < 0 ∧ ¬ 1152921504606845789 ≤ E ∧ S < 0) ∨ (¬ E < 0 ∧ ¬ 1152921504606845789 ≤ E ∧ ¬ S < 0 ∧ 1152921504606845789 ≤ S) := by
    rcases h with h | h
    · have := of_decide_eq_false h; omega
    · have := of_decide_eq_false h; omega
  clear h hk
  rcases hh with h0 | ⟨h0, h1⟩ | ⟨h0, h1, h2⟩ | ⟨h0, h1, h2, h3⟩
  all_goals
    go_enter Tryd.func44, Tryd.ntmps44
    go_wp2_with fail
    refine (HV.out _).mono ?_
    rintro e w1 ⟨rfl, rfl⟩
    go_wp2_with fail
    go_ret
    exact ⟨rfl, rfl⟩
theorem refVerify_any (k : Int) (s : ByteArray) (E S : Int) (hs : s.size ≤ 1000000) (w : World) :
    Calls Tryd.prog 44 #[.int .i64 k, .string s, .int .i64 E, .int .i64 S] w fun e w' => e = .returned (.bool (verB k s.data.toList E S)) ∧ Below w.heap.size w w' := by
  cases hk : validB k
  · rw [verB_k hk]; exact (refVerify_k k s E S hk w).mono fun e w' ⟨he, hw⟩ => ⟨he, by rw [← hw]; exact Below.refl _ _⟩
  cases hE : expoB E
  · rw [verB_e hk hE]; exact (refVerify_bad k s E S hk (.inl hE) w).mono fun e w' ⟨he, hw⟩ => ⟨he, by rw [← hw]; exact Below.refl _ _⟩
  cases hS : expoB S
  · rw [verB_s hk hE hS]; exact (refVerify_bad k s E S hk (.inr hS) w).mono fun e w' ⟨he, hw⟩ => ⟨he, by rw [← hw]; exact Below.refl _ _⟩
  obtain ⟨k, rfl⟩ := Int.eq_ofNat_of_zero_le (show 0 ≤ k by have := unitB_of (unitB_valid hk); omega)
  obtain ⟨E, rfl⟩ := Int.eq_ofNat_of_zero_le (expoB_of hE).1
  obtain ⟨S, rfl⟩ := Int.eq_ofNat_of_zero_le (expoB_of hS).1
  rw [verB_all hk hE hS]
  exact refVerify_all k E S s hs hk hE hS w
/-- A signature belongs to its key and its message. -/
theorem ver_own (x n : Nat) (hx : secretB (x : Int) = true) (s : List UInt8) : verB (powP 4 x : Int) s (chalN (powP 4 n) s : Int) (sigN x n s : Int) = true := by
  have bx := secretB_of hx
  have hk := key_valid x (by omega) (by show x < 1152921504606845789; omega)
  have hE : expoB (chalN (powP 4 n) s : Int) = true := expoB_yes (by omega) (by have := chalN_lt (powP 4 n) s; omega)
  have hSl : sigN x n s < 1152921504606845789 := Nat.mod_lt _ (by decide)
  have hS : expoB (sigN x n s : Int) = true := expoB_yes (by omega) (by omega)
  rw [verB_all hk hE hS]
  have e : verR (powP 4 x) (chalN (powP 4 n) s) (sigN x n s) = powP 4 n := by
    unfold verR sigN
    exact sign_ok n x (chalN (powP 4 n) s)
  rw [e]
  simp
end Go.Proofs.YthhaofdnbemogaaDoor
