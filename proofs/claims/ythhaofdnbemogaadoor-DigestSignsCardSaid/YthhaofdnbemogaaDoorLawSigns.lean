/-
  For all messages with what signs them and what is changed of them the law DigestSigns returns true. No condition.
-/
import Derived.Test.YthhaofdnbemogaaDoorRows
import Derived.Test.YthhaofdnbemogaaDoorAwake
import Derived.Test.YthhaofdnbemogaaDoorVer
import Derived.Test.YthhaofdnbemogaaDoorStrs
import Derived.Test.YthhaofdnbemogaaDoorLaidD
import Derived.WalkKit
import Derived.ProofKit
import Derived.OpenShut
import Derived.ShutString
import Derived.ChangeOld
import Derived.Carry
import Derived.SevenTiedAt
import Derived.Test.YthhaofdnbemogaaDoorCards
import Derived.Test.YthhaofdnbemogaaDoorTie
set_option linter.unusedVariables false
namespace Go.Proofs.YthhaofdnbemogaaDoor.digestSigns
open Go.ChangeShapes Go.WideShapes Go.ChangeAt Go.RowKit Go.WideElems Go.Deep
open Go.ChangeMaps (open_string shut_string)

theorem own : ownKnob Tryd.prog.godebug = none := by kernel_rfl

theorem row_lt {w : World} {b : Nat} {o : Obj} (h : w.heap[b]? = some o) : b < w.heap.size := (Array.getElem?_eq_some_iff.1 h).1
theorem row_below {w w' : World} {b B : Nat} {o : Obj} (h : w.heap[b]? = some o) (hb : Below B w w') (hB : b < B) : w'.heap[b]? = some o := (hb.block b hB).trans h
theorem cells7 {w : World} {b : Nat} {T : TypeId} {a0 a1 a2 a3 a4 a5 a6 : Value} (h : w.heap[b]? = some (.cells #[a0, a1, a2, a3, a4, a5, a6] T (0, 0))) :
    w.cell? ⟨b, 0, none⟩ = some a0 ∧ w.cell? ⟨b, 1, none⟩ = some a1 ∧ w.cell? ⟨b, 2, none⟩ = some a2 ∧ w.cell? ⟨b, 3, none⟩ = some a3 ∧ w.cell? ⟨b, 4, none⟩ = some a4 ∧ w.cell? ⟨b, 5, none⟩ = some a5 ∧ w.cell? ⟨b, 6, none⟩ = some a6 := by
  have c := fun (j : Nat) => cell_of_row w b j _ _ _ h
  exact ⟨(c 0).trans rfl, (c 1).trans rfl, (c 2).trans rfl, (c 3).trans rfl, (c 4).trans rfl, (c 5).trans rfl, (c 6).trans rfl⟩
theorem cells2 {w : World} {b : Nat} {T : TypeId} {a0 a1 : Value} (h : w.heap[b]? = some (.cells #[a0, a1] T (0, 0))) : w.cell? ⟨b, 0, none⟩ = some a0 ∧ w.cell? ⟨b, 1, none⟩ = some a1 := by
  have c := fun (j : Nat) => cell_of_row w b j _ _ _ h
  exact ⟨(c 0).trans rfl, (c 1).trans rfl⟩
theorem below_drew' {w w' : World} (h : Below w.drew.heap.size w.drew w') : Below w.heap.size w w' := (Below.refl w.heap.size w).drew.trans h
theorem keep5 {w w' : World} {b g : Nat} {v2 v3 v6 g0 g1 : Value} (h2 : w.cell? ⟨b, 2, none⟩ = some v2) (h3 : w.cell? ⟨b, 3, none⟩ = some v3) (h6 : w.cell? ⟨b, 6, none⟩ = some v6) (k0 : w.cell? ⟨g, 0, none⟩ = some g0) (k1 : w.cell? ⟨g, 1, none⟩ = some g1) (hb : Below w.heap.size w w') :
    w'.cell? ⟨b, 2, none⟩ = some v2 ∧ w'.cell? ⟨b, 3, none⟩ = some v3 ∧ w'.cell? ⟨b, 6, none⟩ = some v6 ∧ w'.cell? ⟨g, 0, none⟩ = some g0 ∧ w'.cell? ⟨g, 1, none⟩ = some g1 := by
  have k : ∀ (b o : Nat) (v : Value), w.cell? ⟨b, o, none⟩ = some v → w'.cell? ⟨b, o, none⟩ = some v := fun b o v h => (hb.cell (p := ⟨b, o, none⟩) (World.block_lt_of_cell? w _ h)).trans h
  exact ⟨k _ _ _ h2, k _ _ _ h3, k _ _ _ h6, k _ _ _ k0, k _ _ _ k1⟩


set_option maxHeartbeats 8000000 in
set_option maxRecDepth 100000 in
theorem walk0 (x n : Int) (t : ByteArray) (ke xe xs : Int) (u : ByteArray) (h : 300 < t.size) (w : World) (ht : TabD w) :
    Calls Tryd.prog 10 #[.agg #[.int .i64 x, .int .i64 n, .string t, .int .i64 ke, .int .i64 xe, .int .i64 xs, .string u]] w fun e w' => e = .returned (.bool true) ∧ Below w.heap.size w w' := by
  have HT := Lib.hid ht
  have HAW := Lib.hid (fun w ht => awake_any w ht)
  clear ht
  have i0 : (300 : Int) < (t.size : Int) := by omega
  clear h
  go_enter Tryd.func10, Tryd.ntmps10
  go_wp2_with fail
  refine (HAW.out _ (HT.out.below ((Below.refl w.heap.size w).alloc (Nat.le_refl _) _) HT.out.pos)).mono ?_
  rintro e w1 ⟨rfl, hb⟩
  have HB1 := Lib.hid (((Below.refl w.heap.size w).alloc (Nat.le_refl _) _).trans (hb.mono (by simp)))
  have HX1 : Hid (w1.heap[w.heap.size]? = some (.cells #[.int .i64 x, .int .i64 n, .string t, .int .i64 ke, .int .i64 xe, .int .i64 xs, .string u] 56 (0, 0))) := Lib.hid ((hb.block _ (by simp)).trans (heap_alloc_new w _))
  obtain ⟨c0, c1, c2, c3, c4, c5, c6⟩ := cells7 HX1.out
  clear hb
  go_wp2_with fail
  go_ret
  exact ⟨rfl, HB1.out⟩

set_option maxHeartbeats 8000000 in
set_option maxRecDepth 100000 in
theorem walk1 (x n : Int) (t : ByteArray) (ke xe xs : Int) (u : ByteArray) (h0 : t.size ≤ 300) (h : 300 < u.size) (w : World) (ht : TabD w) :
    Calls Tryd.prog 10 #[.agg #[.int .i64 x, .int .i64 n, .string t, .int .i64 ke, .int .i64 xe, .int .i64 xs, .string u]] w fun e w' => e = .returned (.bool true) ∧ Below w.heap.size w w' := by
  have HT := Lib.hid ht
  have HAW := Lib.hid (fun w ht => awake_any w ht)
  clear ht
  have i0 : ¬ (300 : Int) < (t.size : Int) := by omega
  have i1 : (300 : Int) < (u.size : Int) := by omega
  clear h0 h
  go_enter Tryd.func10, Tryd.ntmps10
  go_wp2_with fail
  refine (HAW.out _ (HT.out.below ((Below.refl w.heap.size w).alloc (Nat.le_refl _) _) HT.out.pos)).mono ?_
  rintro e w1 ⟨rfl, hb⟩
  have HB1 := Lib.hid (((Below.refl w.heap.size w).alloc (Nat.le_refl _) _).trans (hb.mono (by simp)))
  have HX1 : Hid (w1.heap[w.heap.size]? = some (.cells #[.int .i64 x, .int .i64 n, .string t, .int .i64 ke, .int .i64 xe, .int .i64 xs, .string u] 56 (0, 0))) := Lib.hid ((hb.block _ (by simp)).trans (heap_alloc_new w _))
  obtain ⟨c0, c1, c2, c3, c4, c5, c6⟩ := cells7 HX1.out
  clear hb
  go_wp2_with fail
  go_ret
  exact ⟨rfl, HB1.out⟩

set_option maxHeartbeats 8000000 in
set_option maxRecDepth 100000 in
theorem walk2 (x n : Int) (t : ByteArray) (ke xe xs : Int) (u : ByteArray) (h0 : t.size ≤ 300) (h1 : u.size ≤ 300) (hx : secretB x = false) (w : World) (ht : TabD w) :
    Calls Tryd.prog 10 #[.agg #[.int .i64 x, .int .i64 n, .string t, .int .i64 ke, .int .i64 xe, .int .i64 xs, .string u]] w fun e w' => e = .returned (.bool true) ∧ Below w.heap.size w w' := by
  have HT := Lib.hid ht
  have HAW := Lib.hid (fun w ht => awake_any w ht)
  clear ht
  have i0 : ¬ (300 : Int) < (t.size : Int) := by omega
  have i1 : ¬ (300 : Int) < (u.size : Int) := by omega
  have HSG := Lib.hid (fun w => Sign_no1 x n t hx w)
  have HSX := Lib.hid (fun w => refSecret_no x hx w)
  clear h0 h1 hx
  go_enter Tryd.func10, Tryd.ntmps10
  go_wp2_with fail
  refine (HAW.out _ (HT.out.below ((Below.refl w.heap.size w).alloc (Nat.le_refl _) _) HT.out.pos)).mono ?_
  rintro e w1 ⟨rfl, hb⟩
  have HB1 := Lib.hid (((Below.refl w.heap.size w).alloc (Nat.le_refl _) _).trans (hb.mono (by simp)))
  have HX1 : Hid (w1.heap[w.heap.size]? = some (.cells #[.int .i64 x, .int .i64 n, .string t, .int .i64 ke, .int .i64 xe, .int .i64 xs, .string u] 56 (0, 0))) := Lib.hid ((hb.block _ (by simp)).trans (heap_alloc_new w _))
  obtain ⟨c0, c1, c2, c3, c4, c5, c6⟩ := cells7 HX1.out
  clear hb
  go_wp2_with fail
  refine (HSG.out _).mono ?_
  rintro e w2 ⟨rfl, hb⟩
  have HB2 := Lib.hid (HB1.out.trans (hb.mono HB1.out.size))
  have HX2 := Lib.hid (row_below HX1.out hb (row_lt HX1.out))
  clear hb c0 c1 c2 c3 c4 c5 c6
  go_upto_region 6 with (refine wpList_store_row rfl 58 _ _ rfl (w2.heap.size) #[.int .i64 0, .int .i64 0] rfl rfl 58 _ (heap_alloc_new w2 _) ?z2 ?z3 ?z4 ?_; (case z2 => exact sig_size); (case z3 => rfl); (case z4 => simp [Value.oneCell']))
  obtain ⟨w3, hw3⟩ : ∃ z, z = World.setRow (w2.alloc (.cells #[.int .i64 0, .int .i64 0] 58)) w2.heap.size #[.int .i64 0, .int .i64 0] := ⟨_, rfl⟩
  have HG3 : Hid (w3.heap[w2.heap.size]? = some (.cells #[.int .i64 0, .int .i64 0] 58 (0, 0))) := Lib.hid (by rw [hw3]; exact setRow_heap _ _ _ _ _ _ (heap_alloc_new w2 _))
  have HB23 : Hid (Below w2.heap.size w2 w3) := Lib.hid (by rw [hw3]; exact below_setRow ((Below.refl _ _).alloc (Nat.le_refl _) _) (Nat.le_refl _) _)
  have HX3 := Lib.hid (row_below HX2.out HB23.out (row_lt HX2.out))
  have HB3 := Lib.hid (HB2.out.trans (HB23.out.mono HB2.out.size))
  rw [← hw3]
  clear hw3
  obtain ⟨c0, c1, c2, c3, c4, c5, c6⟩ := cells7 HX3.out
  obtain ⟨d0, d1⟩ := cells2 HG3.out
  go_wp2_with fail
  refine (HSX.out _).mono ?_
  rintro e w4 ⟨rfl, rfl⟩
  go_wp2_with fail
  go_ret
  exact ⟨rfl, HB3.out⟩

set_option maxHeartbeats 8000000 in
set_option maxRecDepth 100000 in
theorem walk3 (x n : Int) (t : ByteArray) (ke xe xs : Int) (u : ByteArray) (h0 : t.size ≤ 300) (h1 : u.size ≤ 300) (hx : secretB x = true) (hn : secretB n = false) (w : World) (ht : TabD w) :
    Calls Tryd.prog 10 #[.agg #[.int .i64 x, .int .i64 n, .string t, .int .i64 ke, .int .i64 xe, .int .i64 xs, .string u]] w fun e w' => e = .returned (.bool true) ∧ Below w.heap.size w w' := by
  have HT := Lib.hid ht
  have HAW := Lib.hid (fun w ht => awake_any w ht)
  clear ht
  have i0 : ¬ (300 : Int) < (t.size : Int) := by omega
  have i1 : ¬ (300 : Int) < (u.size : Int) := by omega
  have HSG := Lib.hid (fun w => Sign_no2 x n t hx hn w)
  have HSX := Lib.hid (fun w => refSecret_yes x hx w)
  have HSN := Lib.hid (fun w => refSecret_no n hn w)
  clear h0 h1 hx hn
  go_enter Tryd.func10, Tryd.ntmps10
  go_wp2_with fail
  refine (HAW.out _ (HT.out.below ((Below.refl w.heap.size w).alloc (Nat.le_refl _) _) HT.out.pos)).mono ?_
  rintro e w1 ⟨rfl, hb⟩
  have HB1 := Lib.hid (((Below.refl w.heap.size w).alloc (Nat.le_refl _) _).trans (hb.mono (by simp)))
  have HX1 : Hid (w1.heap[w.heap.size]? = some (.cells #[.int .i64 x, .int .i64 n, .string t, .int .i64 ke, .int .i64 xe, .int .i64 xs, .string u] 56 (0, 0))) := Lib.hid ((hb.block _ (by simp)).trans (heap_alloc_new w _))
  obtain ⟨c0, c1, c2, c3, c4, c5, c6⟩ := cells7 HX1.out
  clear hb
  go_wp2_with fail
  refine (HSG.out _).mono ?_
  rintro e w2 ⟨rfl, hb⟩
  have HB2 := Lib.hid (HB1.out.trans (hb.mono HB1.out.size))
  have HX2 := Lib.hid (row_below HX1.out hb (row_lt HX1.out))
  clear hb c0 c1 c2 c3 c4 c5 c6
  go_upto_region 6 with (refine wpList_store_row rfl 58 _ _ rfl (w2.heap.size) #[.int .i64 0, .int .i64 0] rfl rfl 58 _ (heap_alloc_new w2 _) ?z2 ?z3 ?z4 ?_; (case z2 => exact sig_size); (case z3 => rfl); (case z4 => simp [Value.oneCell']))
  obtain ⟨w3, hw3⟩ : ∃ z, z = World.setRow (w2.alloc (.cells #[.int .i64 0, .int .i64 0] 58)) w2.heap.size #[.int .i64 0, .int .i64 0] := ⟨_, rfl⟩
  have HG3 : Hid (w3.heap[w2.heap.size]? = some (.cells #[.int .i64 0, .int .i64 0] 58 (0, 0))) := Lib.hid (by rw [hw3]; exact setRow_heap _ _ _ _ _ _ (heap_alloc_new w2 _))
  have HB23 : Hid (Below w2.heap.size w2 w3) := Lib.hid (by rw [hw3]; exact below_setRow ((Below.refl _ _).alloc (Nat.le_refl _) _) (Nat.le_refl _) _)
  have HX3 := Lib.hid (row_below HX2.out HB23.out (row_lt HX2.out))
  have HB3 := Lib.hid (HB2.out.trans (HB23.out.mono HB2.out.size))
  rw [← hw3]
  clear hw3
  obtain ⟨c0, c1, c2, c3, c4, c5, c6⟩ := cells7 HX3.out
  obtain ⟨d0, d1⟩ := cells2 HG3.out
  go_wp2_with fail
  refine (HSX.out _).mono ?_
  rintro e w4 ⟨rfl, rfl⟩
  go_wp2_with fail
  refine (HSN.out _).mono ?_
  rintro e w5 ⟨rfl, rfl⟩
  go_wp2_with fail
  go_ret
  exact ⟨rfl, HB3.out⟩

set_option maxHeartbeats 8000000 in
set_option maxRecDepth 100000 in
theorem walk4 (x n : Nat) (t : ByteArray) (ke xe xs : Int) (u : ByteArray) (h0 : t.size ≤ 300) (h1 : u.size ≤ 300) (hx : secretB (x : Int) = true) (hn : secretB (n : Int) = true) (w : World) (ht : TabD w) :
    Calls Tryd.prog 10 #[.agg #[.int .i64 (x : Int), .int .i64 (n : Int), .string t, .int .i64 ke, .int .i64 xe, .int .i64 xs, .string u]] w fun e w' => e = .returned (.bool true) ∧ Below w.heap.size w w' := by
  have HT := Lib.hid ht
  have HAW := Lib.hid (fun w ht => awake_any w ht)
  clear ht
  have i0 : ¬ (300 : Int) < (t.size : Int) := by omega
  have i1 : ¬ (300 : Int) < (u.size : Int) := by omega
  have HSG := Lib.hid (fun w ht => Sign_yes x n t (by omega) hx hn w ht)
  have HRS := Lib.hid (fun w => refSign_yes x n t (by omega) hx hn w)
  have HSX := Lib.hid (fun w => refSecret_yes (x : Int) hx w)
  have HSN := Lib.hid (fun w => refSecret_yes (n : Int) hn w)
  have HKY := Lib.hid (fun w => Key_yes x hx w)
  have hown := ver_own x n hx t.data.toList
  have HV0 := Lib.hid (fun w ht => Verify_any (powP 4 x : Int) t (chalN (powP 4 n) t.data.toList : Int) (sigN x n t.data.toList : Int) (by omega) w ht)
  rw [hown] at HV0
  have HV1 := Lib.hid (fun w ht => Verify_any (powP 4 x : Int) u (chalN (powP 4 n) t.data.toList : Int) (sigN x n t.data.toList : Int) (by omega) w ht)
  have HV2 := Lib.hid (fun w ht => Verify_any ke t (chalN (powP 4 n) t.data.toList : Int) (sigN x n t.data.toList : Int) (by omega) w ht)
  have HW1 := Lib.hid (fun w => refVerify_any (powP 4 x : Int) u (chalN (powP 4 n) t.data.toList : Int) (sigN x n t.data.toList : Int) (by omega) w)
  have HW2 := Lib.hid (fun w => refVerify_any ke t (chalN (powP 4 n) t.data.toList : Int) (sigN x n t.data.toList : Int) (by omega) w)
  have HV3 := Lib.hid (fun w ht => Verify_any (powP 4 x : Int) t (bits .xor .i64 (chalN (powP 4 n) t.data.toList : Int) xe) (bits .xor .i64 (sigN x n t.data.toList : Int) xs) (by omega) w ht)
  have HW3 := Lib.hid (fun w => refVerify_any (powP 4 x : Int) t (bits .xor .i64 (chalN (powP 4 n) t.data.toList : Int) xe) (bits .xor .i64 (sigN x n t.data.toList : Int) xs) (by omega) w)
  generalize (chalN (powP 4 n) t.data.toList : Int) = E at *
  generalize (sigN x n t.data.toList : Int) = S at *
  generalize (powP 4 x : Int) = K at *
  generalize verB K u.data.toList E S = V1 at *
  generalize verB ke t.data.toList E S = V2 at *
  generalize hxe : bits .xor .i64 E xe = E' at *
  generalize hxs : bits .xor .i64 S xs = S' at *
  generalize verB K t.data.toList E' S' = V3 at *
  generalize (x : Int) = x at *
  generalize (n : Int) = n at *
  have HXE := Lib.hid hxe
  have HXS := Lib.hid hxs
  clear h0 h1 hx hn hown hxe hxs
  go_enter Tryd.func10, Tryd.ntmps10
  go_wp2_with fail
  refine (HAW.out _ (HT.out.below ((Below.refl w.heap.size w).alloc (Nat.le_refl _) _) HT.out.pos)).mono ?_
  rintro e w1 ⟨rfl, hb⟩
  have HB1 := Lib.hid (((Below.refl w.heap.size w).alloc (Nat.le_refl _) _).trans (hb.mono (by simp)))
  have HX1 : Hid (w1.heap[w.heap.size]? = some (.cells #[.int .i64 x, .int .i64 n, .string t, .int .i64 ke, .int .i64 xe, .int .i64 xs, .string u] 56 (0, 0))) := Lib.hid ((hb.block _ (by simp)).trans (heap_alloc_new w _))
  obtain ⟨c0, c1, c2, c3, c4, c5, c6⟩ := cells7 HX1.out
  clear hb
  go_wp2_with fail
  refine (HSG.out _ (HT.out.below HB1.out HT.out.pos)).mono ?_
  rintro e w2 ⟨rfl, hb⟩
  have HB2 := Lib.hid (HB1.out.trans (hb.mono HB1.out.size))
  have HX2 := Lib.hid (row_below HX1.out hb (row_lt HX1.out))
  clear hb c0 c1 c2 c3 c4 c5 c6
  go_upto_region 6 with (refine wpList_store_row rfl 58 _ _ rfl (w2.heap.size) #[.int .i64 E, .int .i64 S] rfl rfl 58 _ (heap_alloc_new w2 _) ?z2 ?z3 ?z4 ?_; (case z2 => exact sig_size); (case z3 => rfl); (case z4 => simp [Value.oneCell']))
  obtain ⟨w3, hw3⟩ : ∃ z, z = World.setRow (w2.alloc (.cells #[.int .i64 0, .int .i64 0] 58)) w2.heap.size #[.int .i64 E, .int .i64 S] := ⟨_, rfl⟩
  have HG3 : Hid (w3.heap[w2.heap.size]? = some (.cells #[.int .i64 E, .int .i64 S] 58 (0, 0))) := Lib.hid (by rw [hw3]; exact setRow_heap _ _ _ _ _ _ (heap_alloc_new w2 _))
  have HB23 : Hid (Below w2.heap.size w2 w3) := Lib.hid (by rw [hw3]; exact below_setRow ((Below.refl _ _).alloc (Nat.le_refl _) _) (Nat.le_refl _) _)
  have HX3 := Lib.hid (row_below HX2.out HB23.out (row_lt HX2.out))
  have HB3 := Lib.hid (HB2.out.trans (HB23.out.mono HB2.out.size))
  rw [← hw3]
  clear hw3
  obtain ⟨c0, c1, c2, c3, c4, c5, c6⟩ := cells7 HX3.out
  obtain ⟨d0, d1⟩ := cells2 HG3.out
  go_wp2_with fail
  refine (HSX.out _).mono ?_
  rintro e w4 ⟨rfl, rfl⟩
  go_wp2_with fail
  refine (HSN.out _).mono ?_
  rintro e w5 ⟨rfl, rfl⟩
  go_wp2_with fail
  refine (HRS.out _).mono ?_
  rintro e w6 ⟨rfl, hb⟩
  have HB6 := Lib.hid (HB3.out.trans (hb.mono HB3.out.size))
  have HX6 := Lib.hid (row_below HX3.out hb (row_lt HX3.out))
  have HG6 := Lib.hid (row_below HG3.out hb (row_lt HG3.out))
  clear hb c0 c1 c2 c3 c4 c5 c6 d0 d1
  obtain ⟨c0, c1, c2, c3, c4, c5, c6⟩ := cells7 HX6.out
  go_wp2_with fail
  refine (HKY.out _).mono ?_
  rintro e w7 ⟨rfl, hb⟩
  have HB7 := Lib.hid (HB6.out.trans (hb.mono HB6.out.size))
  have HX7 := Lib.hid (row_below HX6.out hb (row_lt HX6.out))
  have HG7 := Lib.hid (row_below HG6.out hb (row_lt HG6.out))
  clear hb c0 c1 c2 c3 c4 c5 c6
  obtain ⟨c0, c1, c2, c3, c4, c5, c6⟩ := cells7 HX7.out
  obtain ⟨d0, d1⟩ := cells2 HG7.out
  go_wp2_with fail
  refine (HV0.out _ (HT.out.below HB7.out HT.out.pos)).mono ?_
  rintro e w8 ⟨rfl, hb⟩
  have hB8 := HB7.out.trans (hb.mono HB7.out.size)
  have hB8d := hB8.drew
  have HX8 := Lib.hid (row_below HX7.out hb (row_lt HX7.out))
  have HG8 := Lib.hid (row_below HG7.out hb (row_lt HG7.out))
  clear hb c0 c1 c2 c3 c4 c5 c6 d0 d1
  obtain ⟨c0, c1, c2, c3, c4, c5, c6⟩ := cells7 HX8.out
  obtain ⟨d0, d1⟩ := cells2 HG8.out
  have hv1 : (V1 != V1) = false := by simp
  have hv2 : (V2 != V2) = false := by simp
  go_wp2_with fail
  go_region_held3 (fun w' => w'.cell? ⟨w.heap.size, 2, none⟩ = some (.string t) ∧ w'.cell? ⟨w.heap.size, 3, none⟩ = some (.int .i64 ke) ∧ w'.cell? ⟨w.heap.size, 6, none⟩ = some (.string u) ∧ w'.cell? ⟨w2.heap.size, 0, none⟩ = some (.int .i64 E) ∧ w'.cell? ⟨w2.heap.size, 1, none⟩ = some (.int .i64 S))
    (first
      | go_keep
      | (go_split_ands; exact keep5 (by assumption) (by assumption) (by assumption) (by assumption) (by assumption) hb11)
      | (go_split_ands; exact keep5 (by assumption) (by assumption) (by assumption) (by assumption) (by assumption) hb12)
      | (go_split_ands; exact keep5 (by assumption) (by assumption) (by assumption) (by assumption) (by assumption) hb13)
      | (go_split_ands; exact keep5 (by assumption) (by assumption) (by assumption) (by assumption) (by assumption) hb14))
    (first
      | (go_at_call 43; (with_reducible refine (carryB (w := w) (HV1.out _ (HT.out.below (B := w.heap.size) (by assumption) HT.out.pos)) (by assumption)).mono ?_); rintro e w11 ⟨rfl, hb11, hB11⟩)
      | (go_at_call 44; (with_reducible refine (carryB (w := w) (HW1.out _) (by assumption)).mono ?_); rintro e w12 ⟨rfl, hb12, hB12⟩)
      | (go_at_call 43; (with_reducible refine (carryB (w := w) (HV2.out _ (HT.out.below (B := w.heap.size) (by assumption) HT.out.pos)) (by assumption)).mono ?_); rintro e w13 ⟨rfl, hb13, hB13⟩)
      | (go_at_call 44; (with_reducible refine (carryB (w := w) (HW2.out _) (by assumption)).mono ?_); rintro e w14 ⟨rfl, hb14, hB14⟩))
  have hX14 : w14.heap[w.heap.size]? = some (.cells #[.int .i64 x, .int .i64 n, .string t, .int .i64 ke, .int .i64 xe, .int .i64 xs, .string u] 56 (0, 0)) := row_below HX8.out (((below_drew' hb11).trans (hb12.mono (below_drew' hb11).size)).trans ((hb13.trans (hb14.mono hb13.size)).mono ((below_drew' hb11).trans (hb12.mono (below_drew' hb11).size)).size)) (row_lt HX8.out)
  have hG14 : w14.heap[w2.heap.size]? = some (.cells #[.int .i64 E, .int .i64 S] 58 (0, 0)) := row_below HG8.out (((below_drew' hb11).trans (hb12.mono (below_drew' hb11).size)).trans ((hb13.trans (hb14.mono hb13.size)).mono ((below_drew' hb11).trans (hb12.mono (below_drew' hb11).size)).size)) (row_lt HG8.out)
  have HX14 := Lib.hid hX14
  have HG14 := Lib.hid hG14
  have HB14 := Lib.hid hB14
  have hh := ‹_ ∧ _ ∧ _ ∧ _ ∧ _›
  clear hX14 hG14 hb11 hb12 hb13 hb14 hB11 hB12 hB13 hB14 hB8 hB8d c0 c1 c2 c3 c4 c5 c6 d0 d1 hh
  obtain ⟨c0, c1, c2, c3, c4, c5, c6⟩ := cells7 HX14.out
  obtain ⟨d0, d1⟩ := cells2 HG14.out
  have hxe := HXE.out
  have hxs := HXS.out
  go_upto_region 15 with (refine wpList_store_row rfl 58 _ _ rfl (w14.heap.size) #[.int .i64 E', .int .i64 S'] rfl rfl 58 _ (heap_alloc_new w14 _) ?z2 ?z3 ?z4 ?_; (case z2 => exact sig_size); (case z3 => rfl); (case z4 => simp [Value.oneCell']))
  obtain ⟨w15, hw15⟩ : ∃ z, z = World.setRow (w14.alloc (.cells #[.int .i64 0, .int .i64 0] 58)) w14.heap.size #[.int .i64 E', .int .i64 S'] := ⟨_, rfl⟩
  have hG15 : w15.heap[w14.heap.size]? = some (.cells #[.int .i64 E', .int .i64 S'] 58 (0, 0)) := by rw [hw15]; exact setRow_heap _ _ _ _ _ _ (heap_alloc_new w14 _)
  have HB145 : Hid (Below w14.heap.size w14 w15) := Lib.hid (by rw [hw15]; exact below_setRow ((Below.refl _ _).alloc (Nat.le_refl _) _) (Nat.le_refl _) _)
  have hX15 := row_below HX14.out HB145.out (row_lt HX14.out)
  have hB15 := HB14.out.trans (HB145.out.mono HB14.out.size)
  have hB15d := hB15.drew
  rw [← hw15]
  clear hw15 c0 c1 c2 c3 c4 c5 c6 d0 d1 hxe hxs
  obtain ⟨c0, c1, c2, c3, c4, c5, c6⟩ := cells7 hX15
  obtain ⟨d0, d1⟩ := cells2 hG15
  clear hX15 hG15
  go_region_held3 (fun w' => w'.cell? ⟨w.heap.size, 2, none⟩ = some (.string t) ∧ w'.cell? ⟨w.heap.size, 3, none⟩ = some (.int .i64 ke) ∧ w'.cell? ⟨w.heap.size, 6, none⟩ = some (.string u) ∧ w'.cell? ⟨w14.heap.size, 0, none⟩ = some (.int .i64 E') ∧ w'.cell? ⟨w14.heap.size, 1, none⟩ = some (.int .i64 S'))
    (first
      | go_keep
      | (go_split_ands; exact keep5 (by assumption) (by assumption) (by assumption) (by assumption) (by assumption) hb21)
      | (go_split_ands; exact keep5 (by assumption) (by assumption) (by assumption) (by assumption) (by assumption) hb22))
    (first
      | (go_at_call 43; (with_reducible refine (carryB (w := w) (HV3.out _ (HT.out.below (B := w.heap.size) (by assumption) HT.out.pos)) (by assumption)).mono ?_); rintro e w21 ⟨rfl, hb21, hB21⟩)
      | (go_at_call 44; (with_reducible refine (carryB (w := w) (HW3.out _) (by assumption)).mono ?_); rintro e w22 ⟨rfl, hb22, hB22⟩))
  go_wp2_with fail
  go_ret
  exact ⟨by simp, hB22⟩

theorem walk (x n : Int) (t : ByteArray) (ke xe xs : Int) (u : ByteArray) (w : World) (ht : TabD w) :
    Calls Tryd.prog 10 #[.agg #[.int .i64 x, .int .i64 n, .string t, .int .i64 ke, .int .i64 xe, .int .i64 xs, .string u]] w fun e w' => e = .returned (.bool true) ∧ Below w.heap.size w w' := by
  by_cases h0 : 300 < t.size
  · exact walk0 x n t ke xe xs u h0 w ht
  by_cases h1 : 300 < u.size
  · exact walk1 x n t ke xe xs u (by omega) h1 w ht
  cases hx : secretB x
  · exact walk2 x n t ke xe xs u (by omega) (by omega) hx w ht
  cases hn : secretB n
  · exact walk3 x n t ke xe xs u (by omega) (by omega) hx hn w ht
  obtain ⟨x, rfl⟩ := Int.eq_ofNat_of_zero_le (show 0 ≤ x by have := secretB_of hx; omega)
  obtain ⟨n, rfl⟩ := Int.eq_ofNat_of_zero_le (show 0 ≤ n by have := secretB_of hn; omega)
  exact walk4 x n t ke xe xs u (by omega) (by omega) hx hn w ht
theorem laidOut : laidOutB Tryd.prog = true := by kernel_rfl
set_option maxRecDepth 100000
theorem open_signed {H : Type} {enc : TypeId × Value → H} {W : World} {held : Bool} {fuel : Nat} {cs : List Value} {y : DataW H × List MemPlace} (h : DataW.trod enc Tryd.prog W 0 (fun _ => true) held fuel 56 cs = some y) :
    ∃ (x n : Int) (t : ByteArray) (ke xe xs : Int) (u : ByteArray), cs = [.int .i64 x, .int .i64 n, .string t, .int .i64 ke, .int .i64 xe, .int .i64 xs, .string u] := by
  obtain ⟨xs, n, _, _, hl, hlen, hf⟩ := DataW.trod_struct Tryd.underlying56 h
  have c7 : Tryd.prog.cellsOf 56 = 7 := by kernel_rfl
  have i1 : Tryd.prog.cellsOf 3 = 1 := by kernel_rfl
  have i3 : Tryd.prog.cellsOf 9 = 1 := by kernel_rfl
  rw [c7] at hl
  have f0 := hf 0 _ rfl
  have f1 := hf 1 _ rfl
  have f2 := hf 2 _ rfl
  have f3 := hf 3 _ rfl
  have f4 := hf 4 _ rfl
  have f5 := hf 5 _ rfl
  have f6 := hf 6 _ rfl
  match cs, hl, xs, hlen, f0, f1, f2, f3, f4, f5, f6 with
  | [c0, c1, c2, c3, c4, c5, c6], _, [x0, x1, x2, x3, x4, x5, x6], _, f0, f1, f2, f3, f4, f5, f6 =>
    have f0 : DataW.trod enc Tryd.prog W 0 (fun _ => true) held n 3 (List.take (Tryd.prog.cellsOf 3) [c0, c1, c2, c3, c4, c5, c6]) = some x0 := f0
    have f1 : DataW.trod enc Tryd.prog W 0 (fun _ => true) held n 3 (List.take (Tryd.prog.cellsOf 3) [c1, c2, c3, c4, c5, c6]) = some x1 := f1
    have f2 : DataW.trod enc Tryd.prog W 0 (fun _ => true) held n 9 (List.take (Tryd.prog.cellsOf 9) [c2, c3, c4, c5, c6]) = some x2 := f2
    have f3 : DataW.trod enc Tryd.prog W 0 (fun _ => true) held n 3 (List.take (Tryd.prog.cellsOf 3) [c3, c4, c5, c6]) = some x3 := f3
    have f4 : DataW.trod enc Tryd.prog W 0 (fun _ => true) held n 3 (List.take (Tryd.prog.cellsOf 3) [c4, c5, c6]) = some x4 := f4
    have f5 : DataW.trod enc Tryd.prog W 0 (fun _ => true) held n 3 (List.take (Tryd.prog.cellsOf 3) [c5, c6]) = some x5 := f5
    have f6 : DataW.trod enc Tryd.prog W 0 (fun _ => true) held n 9 (List.take (Tryd.prog.cellsOf 9) [c6]) = some x6 := f6
    rw [i1] at f0 f1 f3 f4 f5
    rw [i3] at f2 f6
    obtain ⟨v0, e0, _, _⟩ := DataW.trod_int Tryd.underlying3 f0
    obtain ⟨v1, e1, _, _⟩ := DataW.trod_int Tryd.underlying3 f1
    obtain ⟨v2, e2, _, _⟩ := DataW.trod_string Tryd.underlying9 f2
    obtain ⟨v3, e3, _, _⟩ := DataW.trod_int Tryd.underlying3 f3
    obtain ⟨v4, e4, _, _⟩ := DataW.trod_int Tryd.underlying3 f4
    obtain ⟨v5, e5, _, _⟩ := DataW.trod_int Tryd.underlying3 f5
    obtain ⟨v6, e6, _, _⟩ := DataW.trod_string Tryd.underlying9 f6
    simp at e0 e1 e2 e3 e4 e5 e6
    subst e0 e1 e2 e3 e4 e5 e6
    exact ⟨v0, v1, v2, v3, v4, v5, v6, rfl⟩
theorem open_signed_val {H : Type} {enc : TypeId × Value → H} {W : World} {held : Bool} {r : Reach} {b0 : Nat} {v : Value} {d : DataW H} {p : List MemPlace} (hv : Value.okWide Tryd.prog W r b0 56 v) (h : DataW.Trod enc Tryd.prog W 0 (fun _ => true) held 56 v d p) :
    ∃ (x n : Int) (t : ByteArray) (ke xe xs : Int) (u : ByteArray), v = .agg #[.int .i64 x, .int .i64 n, .string t, .int .i64 ke, .int .i64 xe, .int .i64 xs, .string u] := by
  obtain ⟨cs, rfl, _⟩ := okWide_struct Tryd.underlying56 hv
  obtain ⟨fuel, hf⟩ := h
  obtain ⟨x, n, t, ke, xe, xs, u, e⟩ := open_signed hf
  obtain ⟨cs⟩ := cs
  simp [Value.cells] at e
  exact ⟨x, n, t, ke, xe, xs, u, by rw [e]⟩
set_option maxRecDepth 100000 in
theorem lifted (os : Os) (started : os.Started) (H : Type) (enc : TypeId × Value → H) :
    ReturnsInHanded {} Tryd.checked os 10 .any (fun w args => (Rows.digestSignsSpec.pre enc Tryd.prog Tryd.f10 [] false w args ∧ laidMetH Tryd.prog laid2 w) ∧ sizedMet enc Tryd.prog Tryd.f10 (OpenSpec.ofChange Rows.digestSignsSpec) false w args)
      (Rows.digestSignsSpec.post enc Tryd.prog Tryd.f10 false true false false) := by
  refine returnsInHanded_of_change_and (C := Tryd.checked) (X := fun w _ => laidMetH Tryd.prog laid2 w) (fun _ _ _ hh h => h.of_heap hh) own started (by kernel_rfl) Tryd.func10
    (ChangeSpec.witness_shaped (enc := enc) (C := Tryd.checked) (os := os) (X := fun w _ => laidMetH Tryd.prog laid2 w) false (World.doorLaid Tryd.prog 400 os) #[.agg #[.int .i64 0, .int .i64 0, .string ByteArray.empty, .int .i64 0, .int .i64 0, .int .i64 0, .string ByteArray.empty]] 8 rfl (World.shaped_of_RefB (by kernel_rfl) (by kernel_rfl)) (by kernel_rfl) (by kernel_rfl) (by kernel_rfl) (door_met os _)) ?_
  intro W base args ds gs before hval0 hW _ _ hL _
  have hval : ∀ (j : Nat) t v, Tryd.f10.params[j]? = some t → args[j]? = some v → Value.okWide Tryd.prog W .any base t v := hval0
  have hW' := hW
  obtain ⟨p, q, hA0, hV, rfl, hfz, hnd⟩ := hW
  have hA : DataW.TrodAll enc Tryd.prog W 0 (fun _ => true) true Tryd.f10.params.toList args.toList ds p := hA0
  rw [Tryd.params10] at hA hval
  obtain ⟨v0, d0, rfl, rfl, h0⟩ := trodAll_one hA
  obtain ⟨rfl, rfl⟩ := trodVars_none hV
  have k0 := h0
  have lt0 : ∀ x ∈ p, x.block < W.heap.size := by obtain ⟨m, hm⟩ := k0; exact DataW.trod_lt m _ _ _ hm
  obtain ⟨x0, n0, t0, ke0, xe0, xs0, u0, rfl⟩ := open_signed_val (hval 0 56 v0 rfl rfl) h0
  clear hA0 hval0
  have ht := of_laid hL
  simp only [List.append_nil] at hW'
  refine (walk x0 n0 t0 ke0 xe0 xs0 u0 W ht).mono fun e W' ⟨he, bel⟩ => ?_
  subst he
  exact ⟨_, rfl, _, _, _, [], _, [], hW', trodAll_mk1 (shut_bool Tryd.underlying4 _), (trodAll_mk1 (Below.trod laidOut (by kernel_rfl) (of_decide_eq_true (by kernel_rfl)) k0 bel lt0)), rfl, bel.frame _, fun h => by cases h⟩

theorem over : Rows.digestSignsRow.holds Tryd.pinned (OpenSpec.ofChange Rows.digestSignsSpec) :=
  OpenClaim.holds_of_wide 10 Tryd.f10 rfl rfl rfl rfl rfl rfl rfl ⟨rfl, rfl, rfl, rfl, rfl⟩ rfl rfl rfl rfl rfl (by kernel_rfl) Tryd.func10 (by kernel_rfl)
    (of_decide_eq_true (by kernel_rfl)) (by unfold Func.isWrapper; first | (rw [if_pos (by decide +kernel)]; kernel_rfl) | (rw [if_neg (by decide +kernel)]; exact ⟨rfl, rfl⟩))
    (fun os started H enc _ => lifted os started H enc)

theorem card_holds : Rows.DigestSignsCardSaid :=
  Claim7.holds_tied_plain_at .later [] [.data, .data] true (true, "8c260326cb8ce36d986a9977b984088357d89190d852a59f516cd170735cb484") false
    over (fun _ h => by cases h) (by kernel_rfl) (fun _ h => by cases h) digestSigns_row_tie rfl ⟨rfl, rfl⟩ (by kernel_rfl) rfl
    (fun f fn hf hfn => by
      obtain rfl : f = 10 := Option.some.inj ((show Tryd.prog.funcNamed "acheron/acheronlaw03.DigestSigns" = some 10 by kernel_rfl).symm.trans hf) |>.symm
      obtain rfl : fn = Tryd.f10 := (Option.some.inj (Tryd.func10.symm.trans hfn)).symm
      exact ⟨by kernel_rfl, fun j t ht => by
        rw [Tryd.params10] at ht
        have hm : t ∈ [56] := by have := Array.mem_of_getElem? ht; simp at this ⊢; omega
        have hall : ([56].all fun u => !Tryd.prog.wantsStandIn u) = true := by kernel_rfl
        exact (show Tryd.prog.wantsStandIn t = false by simpa using List.all_eq_true.1 hall t hm)⟩)
    (by kernel_rfl)
end Go.Proofs.YthhaofdnbemogaaDoor.digestSigns

