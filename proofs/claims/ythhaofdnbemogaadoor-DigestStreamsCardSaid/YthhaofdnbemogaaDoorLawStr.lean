/-
  For all keys, texts and numbers the law DigestStreams returns true. No condition.
-/
import Derived.Test.YthhaofdnbemogaaDoorRows
import Derived.Test.YthhaofdnbemogaaDoorAwake
import Derived.Test.YthhaofdnbemogaaDoorStmP
import Derived.Test.YthhaofdnbemogaaDoorLaidD
import Derived.WalkKit
import Derived.ProofKit
import Derived.OpenShut
import Derived.ShutString
import Derived.ChangeOld
import Derived.Carry
import Derived.Lib.SmallJoins
import Derived.SevenTiedAt
import Derived.Test.YthhaofdnbemogaaDoorCards
import Derived.Test.YthhaofdnbemogaaDoorTie
set_option linter.unusedVariables false
namespace Go.Proofs.YthhaofdnbemogaaDoor.digestStreams
open Go.ChangeShapes Go.WideShapes Go.ChangeAt Go.RowKit
open Go.ChangeMaps (open_string shut_string)

theorem own : ownKnob Tryd.prog.godebug = none := by kernel_rfl

theorem ks_drop (key : List UInt8) (nonce f n : Nat) : (ksL key nonce 0 (f + n)).drop f = ksL key nonce f n := by
  apply List.ext_getElem?
  intro j
  rw [List.getElem?_drop]
  by_cases hj : j < n
  · rw [ksL, ksL, List.getElem?_map, List.getElem?_map, List.getElem?_range (by omega), List.getElem?_range hj]
    simp
  · rw [List.getElem?_eq_none (by rw [ksL_len]; omega), List.getElem?_eq_none (by rw [ksL_len]; omega)]
def Early (key s : ByteArray) (f n : Int) : Prop := 200 < (key.size : Int) ∨ (¬ 200 < (key.size : Int) ∧ 300 < (s.size : Int)) ∨ (¬ 200 < (key.size : Int) ∧ ¬ 300 < (s.size : Int) ∧ 300 < n ∧ n ≤ 1048576) ∨
  (¬ 200 < (key.size : Int) ∧ ¬ 300 < (s.size : Int) ∧ ¬ 300 < n ∧ 5000 < f ∧ f ≤ 1048576) ∨ (¬ 200 < (key.size : Int) ∧ ¬ 300 < (s.size : Int) ∧ 300 < n ∧ ¬ n ≤ 1048576 ∧ 5000 < f ∧ f ≤ 1048576)
def Ok4 (f n : Int) : Prop := (¬ 300 < n ∧ ¬ 5000 < f) ∨ (¬ 300 < n ∧ 5000 < f ∧ ¬ f ≤ 1048576) ∨ (300 < n ∧ ¬ n ≤ 1048576 ∧ ¬ 5000 < f) ∨ (300 < n ∧ ¬ n ≤ 1048576 ∧ 5000 < f ∧ ¬ f ≤ 1048576)

set_option maxHeartbeats 8000000 in
set_option maxRecDepth 100000 in
theorem walkA (key s : ByteArray) (no f n : Int) (h : Early key s f n) (w : World) (ht : TabD w) :
    Calls Tryd.prog 6 #[.string key, .string s, .agg #[.int .i64 no, .int .i64 f, .int .i64 n]] w fun e w' => e = .returned (.bool true) ∧ Below w.heap.size w w' := by
  have HT := Lib.hid ht
  have HAW := Lib.hid (fun w ht => awake_any w ht)
  clear ht
  unfold Early at h
  rcases h with h0 | ⟨h0, h1⟩ | ⟨h0, h1, h2, h3⟩ | ⟨h0, h1, h2, h3, h4⟩ | ⟨h0, h1, h2, h3, h4, h5⟩
  all_goals
    go_enter Tryd.func6, Tryd.ntmps6
    go_wp2_with fail
    refine (HAW.out _ (HT.out.below ((Below.refl w.heap.size w).alloc (Nat.le_refl _) _) HT.out.pos)).mono ?_
    rintro e w1 ⟨rfl, hb⟩
    have HB1 := Lib.hid (((Below.refl w.heap.size w).alloc (Nat.le_refl _) _).trans (hb.mono (by simp)))
    have hr : w1.heap[w.heap.size]? = some (.cells #[.int .i64 no, .int .i64 f, .int .i64 n] 38 (0, 0)) := (hb.block _ (by simp)).trans (heap_alloc_new w _)
    have c0 : w1.cell? ⟨w.heap.size, 0, none⟩ = some (.int .i64 no) := (cell_of_row _ _ 0 _ _ _ hr).trans rfl
    have c1 : w1.cell? ⟨w.heap.size, 1, none⟩ = some (.int .i64 f) := (cell_of_row _ _ 1 _ _ _ hr).trans rfl
    have c2 : w1.cell? ⟨w.heap.size, 2, none⟩ = some (.int .i64 n) := (cell_of_row _ _ 2 _ _ _ hr).trans rfl
    clear hb hr
    go_wp2_with fail
    go_quiet (fail)
    have HB2 := Lib.hid (below_drewN HB1.out nq)
    obtain ⟨w2, hw2⟩ : ∃ z, z = w1.drewN nq := ⟨_, rfl⟩
    rw [← hw2] at HB2 ⊢
    clear hw2 c0 c1 c2
    go_wp2_with fail
    go_ret
    exact ⟨rfl, HB2.out⟩

set_option maxHeartbeats 8000000 in
set_option maxRecDepth 100000 in
theorem walkB (key s : ByteArray) (no f n : Int) (k0 : ¬ 200 < (key.size : Int)) (s0 : ¬ 300 < (s.size : Int)) (h : Ok4 f n) (hno : no < 0) (w : World) (ht : TabD w) :
    Calls Tryd.prog 6 #[.string key, .string s, .agg #[.int .i64 no, .int .i64 f, .int .i64 n]] w fun e w' => e = .returned (.bool true) ∧ Below w.heap.size w w' := by
  have HT := Lib.hid ht
  have HAW := Lib.hid (fun w ht => awake_any w ht)
  clear ht
  have HS := Lib.hid (fun w => Stream_no key no f n (.inl hno) w)
  have HM := Lib.hid (fun w => Mask_no s key no hno w)
  unfold Ok4 at h
  rcases h with ⟨h0, h1⟩ | ⟨h0, h1, h2⟩ | ⟨h0, h1, h2⟩ | ⟨h0, h1, h2, h3⟩
  all_goals
    go_enter Tryd.func6, Tryd.ntmps6
    go_wp2_with fail
    refine (HAW.out _ (HT.out.below ((Below.refl w.heap.size w).alloc (Nat.le_refl _) _) HT.out.pos)).mono ?_
    rintro e w1 ⟨rfl, hb⟩
    have HB1 := Lib.hid (((Below.refl w.heap.size w).alloc (Nat.le_refl _) _).trans (hb.mono (by simp)))
    have hr : w1.heap[w.heap.size]? = some (.cells #[.int .i64 no, .int .i64 f, .int .i64 n] 38 (0, 0)) := (hb.block _ (by simp)).trans (heap_alloc_new w _)
    have c0 : w1.cell? ⟨w.heap.size, 0, none⟩ = some (.int .i64 no) := (cell_of_row _ _ 0 _ _ _ hr).trans rfl
    have c1 : w1.cell? ⟨w.heap.size, 1, none⟩ = some (.int .i64 f) := (cell_of_row _ _ 1 _ _ _ hr).trans rfl
    have c2 : w1.cell? ⟨w.heap.size, 2, none⟩ = some (.int .i64 n) := (cell_of_row _ _ 2 _ _ _ hr).trans rfl
    clear hb hr
    go_wp2_with fail
    go_quiet (fail)
    have HB2 := Lib.hid (below_drewN HB1.out nq)
    obtain ⟨w2, hw2⟩ : ∃ z, z = w1.drewN nq := ⟨_, rfl⟩
    rw [← hw2] at HB2 ⊢
    clear hw2 c0 c1 c2
    go_wp2_with fail
    refine (HS.out _).mono ?_
    rintro e w3 ⟨rfl, rfl⟩
    go_wp2_with fail
    refine (HM.out _).mono ?_
    rintro e w4 ⟨rfl, rfl⟩
    go_wp2_with fail
    go_ret
    exact ⟨rfl, HB2.out⟩

set_option maxHeartbeats 8000000 in
set_option maxRecDepth 100000 in
theorem walkC (key s : ByteArray) (no : Nat) (f n : Int) (k0 : ¬ 200 < (key.size : Int)) (s0 : ¬ 300 < (s.size : Int)) (h : Ok4 f n) (hno : no < 9223372036854775808) (hbad : BadS (no : Int) f n) (w : World) (ht : TabD w) :
    Calls Tryd.prog 6 #[.string key, .string s, .agg #[.int .i64 (no : Int), .int .i64 f, .int .i64 n]] w fun e w' => e = .returned (.bool true) ∧ Below w.heap.size w w' := by
  have HT := Lib.hid ht
  have HAW := Lib.hid (fun w ht => awake_any w ht)
  clear ht
  have HS := Lib.hid (fun w => Stream_no key (no : Int) f n hbad w)
  have HM1 := Lib.hid (fun w ht => Mask_yes s key (by omega) (by omega) no hno w ht)
  obtain ⟨Y, hY⟩ : ∃ Y, Y = strL (mskL key.data.toList s.data.toList no) := ⟨_, rfl⟩
  have hYs : Y.size = s.size := by rw [hY, strL_size, mskL_len]; simp
  have HM2 := Lib.hid (fun w ht => Mask_yes Y key (by omega) (by omega) no hno w ht)
  have hback : strL (mskL key.data.toList Y.data.toList no) = s := by rw [hY, strL_data, msk_two]; rfl
  rw [hback] at HM2
  rw [← hY] at HM1
  have HM3 := Lib.hid (fun w => refMask_any s key (by omega) (by omega) no hno w)
  rw [← hY] at HM3
  have hno0 : ¬ (no : Int) < 0 := by omega
  clear hY hYs hback
  generalize (no : Int) = no at *
  clear hno
  unfold Ok4 at h
  unfold BadS at hbad
  rcases hbad with b0 | ⟨_, b1⟩ | ⟨_, b1, b2⟩ | ⟨_, b1, b2, b3⟩ | ⟨_, b1, b2, b3, b4⟩
  · exact absurd b0 hno0
  all_goals rcases h with ⟨h0, h1⟩ | ⟨h0, h1, h2⟩ | ⟨h0, h1, h2⟩ | ⟨h0, h1, h2, h3⟩
  all_goals try (exfalso; omega)
  all_goals
    go_enter Tryd.func6, Tryd.ntmps6
    go_wp2_with fail
    refine (HAW.out _ (HT.out.below ((Below.refl w.heap.size w).alloc (Nat.le_refl _) _) HT.out.pos)).mono ?_
    rintro e w1 ⟨rfl, hb⟩
    have HB1 := Lib.hid (((Below.refl w.heap.size w).alloc (Nat.le_refl _) _).trans (hb.mono (by simp)))
    have hr : w1.heap[w.heap.size]? = some (.cells #[.int .i64 no, .int .i64 f, .int .i64 n] 38 (0, 0)) := (hb.block _ (by simp)).trans (heap_alloc_new w _)
    have c0 : w1.cell? ⟨w.heap.size, 0, none⟩ = some (.int .i64 no) := (cell_of_row _ _ 0 _ _ _ hr).trans rfl
    have c1 : w1.cell? ⟨w.heap.size, 1, none⟩ = some (.int .i64 f) := (cell_of_row _ _ 1 _ _ _ hr).trans rfl
    have c2 : w1.cell? ⟨w.heap.size, 2, none⟩ = some (.int .i64 n) := (cell_of_row _ _ 2 _ _ _ hr).trans rfl
    clear hb hr
    go_wp2_with fail
    go_quiet (fail)
    have HB2 := Lib.hid (below_drewN HB1.out nq)
    obtain ⟨w2, hw2⟩ : ∃ z, z = w1.drewN nq := ⟨_, rfl⟩
    rw [← hw2] at HB2 ⊢
    clear hw2 c0 c1 c2
    go_wp2_with fail
    refine (HS.out _).mono ?_
    rintro e w3 ⟨rfl, rfl⟩
    go_wp2_with fail
    refine (HM1.out _ (HT.out.below HB2.out HT.out.pos)).mono ?_
    rintro e w7 ⟨rfl, hb⟩
    have HB7 := Lib.hid (HB2.out.trans (hb.mono HB2.out.size))
    clear hb
    go_wp2_with fail
    refine (HM2.out _ (HT.out.below HB7.out HT.out.pos)).mono ?_
    rintro e w8 ⟨rfl, hb⟩
    have HB8 := Lib.hid (HB7.out.trans (hb.mono HB7.out.size))
    clear hb
    go_wp2_with fail
    refine (HM3.out _).mono ?_
    rintro e w9 ⟨rfl, hb⟩
    have HB9 := Lib.hid (HB8.out.trans (hb.mono HB8.out.size))
    clear hb
    go_wp2_with fail
    go_ret
    exact ⟨rfl, HB9.out⟩

set_option maxHeartbeats 8000000 in
set_option maxRecDepth 100000 in
theorem walkD (key s : ByteArray) (no f n : Nat) (k0 : ¬ 200 < (key.size : Int)) (s0 : ¬ 300 < (s.size : Int)) (hf : f ≤ 5000) (hn : n ≤ 300) (hno : no < 9223372036854775808) (w : World) (ht : TabD w) :
    Calls Tryd.prog 6 #[.string key, .string s, .agg #[.int .i64 (no : Int), .int .i64 (f : Int), .int .i64 (n : Int)]] w fun e w' => e = .returned (.bool true) ∧ Below w.heap.size w w' := by
  have HT := Lib.hid ht
  have HAW := Lib.hid (fun w ht => awake_any w ht)
  clear ht
  have HM1 := Lib.hid (fun w ht => Mask_yes s key (by omega) (by omega) no hno w ht)
  obtain ⟨Y, hY⟩ : ∃ Y, Y = strL (mskL key.data.toList s.data.toList no) := ⟨_, rfl⟩
  have hYs : Y.size = s.size := by rw [hY, strL_size, mskL_len]; simp
  have HM2 := Lib.hid (fun w ht => Mask_yes Y key (by omega) (by omega) no hno w ht)
  have hback : strL (mskL key.data.toList Y.data.toList no) = s := by rw [hY, strL_data, msk_two]; rfl
  rw [hback] at HM2
  rw [← hY] at HM1
  have HM3 := Lib.hid (fun w => refMask_any s key (by omega) (by omega) no hno w)
  rw [← hY] at HM3
  have hno0 : ¬ (no : Int) < 0 := by omega
  clear hY hYs hback
  have HS := Lib.hid (fun w ht => Stream_yes key (by omega) no f n hno (by omega) (by omega) w ht)
  have HA := Lib.hid (fun w ht => Stream_yes key (by omega) no 0 (f + n) hno (by omega) (by omega) w ht)
  have HR := Lib.hid (fun w => refStream_any key no f n (by omega) hno (by omega) (by omega) w)
  obtain ⟨X, hX⟩ : ∃ X, X = strL (ksL key.data.toList no f n) := ⟨_, rfl⟩
  obtain ⟨A, hA⟩ : ∃ A, A = strL (ksL key.data.toList no 0 (f + n)) := ⟨_, rfl⟩
  have hAs : A.size = f + n := by rw [hA, strL_size, ksL_len]
  have hext : A.extract f A.size = X := by
    rw [hX]
    refine strL_of ?_
    rw [Lib.extract_data, hA, strL_data, ks_drop, strL_size, ksL_len, List.take_of_length_le (by rw [ksL_len]; omega)]
  have hz : ((0 : Nat) : Int) = 0 := rfl
  have hfn : ((f + n : Nat) : Int) = (f : Int) + (n : Int) := by omega
  rw [hz, hfn, ← hA] at HA
  rw [← hX] at HS HR
  have hAI : (A.size : Int) = (f : Int) + (n : Int) := by omega
  have hfA : (f : Int) ≤ (A.size : Int) := by omega
  have f0 : ¬ (f : Int) < 0 := by omega
  have f1 : ¬ 5000 < (f : Int) := by omega
  have f2 : ¬ 1048576 < (f : Int) := by omega
  have n0 : ¬ (n : Int) < 0 := by omega
  have n1 : ¬ 300 < (n : Int) := by omega
  have n2 : ¬ 1048576 < (n : Int) := by omega
  have hlt1 : f ≤ A.size := by omega
  have HX := Lib.hid hext
  have HAI := Lib.hid hAI
  clear hX hA hAs hz hfn hno hf hn hext hAI
  go_enter Tryd.func6, Tryd.ntmps6
  go_wp2_with fail
  refine (HAW.out _ (HT.out.below ((Below.refl w.heap.size w).alloc (Nat.le_refl _) _) HT.out.pos)).mono ?_
  rintro e w1 ⟨rfl, hb⟩
  have HB1 := Lib.hid (((Below.refl w.heap.size w).alloc (Nat.le_refl _) _).trans (hb.mono (by simp)))
  have hr : w1.heap[w.heap.size]? = some (.cells #[.int .i64 (no : Int), .int .i64 (f : Int), .int .i64 (n : Int)] 38 (0, 0)) := (hb.block _ (by simp)).trans (heap_alloc_new w _)
  have c0 : w1.cell? ⟨w.heap.size, 0, none⟩ = some (.int .i64 (no : Int)) := (cell_of_row _ _ 0 _ _ _ hr).trans rfl
  have c1 : w1.cell? ⟨w.heap.size, 1, none⟩ = some (.int .i64 (f : Int)) := (cell_of_row _ _ 1 _ _ _ hr).trans rfl
  have c2 : w1.cell? ⟨w.heap.size, 2, none⟩ = some (.int .i64 (n : Int)) := (cell_of_row _ _ 2 _ _ _ hr).trans rfl
  clear hb hr
  go_wp2_with fail
  go_quiet (fail)
  have HB2 := Lib.hid (below_drewN HB1.out nq)
  obtain ⟨w2, hw2⟩ : ∃ z, z = w1.drewN nq := ⟨_, rfl⟩
  rw [← hw2] at HB2 ⊢
  clear hw2 c0 c1 c2
  go_wp2_with fail
  refine (HS.out _ (HT.out.below HB2.out HT.out.pos)).mono ?_
  rintro e w3 ⟨rfl, hb⟩
  have HB3 := Lib.hid (HB2.out.trans (hb.mono HB2.out.size))
  clear hb
  go_wp2_with fail
  refine (HA.out _ (HT.out.below HB3.out HT.out.pos)).mono ?_
  rintro e w4 ⟨rfl, hb⟩
  have HB4 := Lib.hid (HB3.out.trans (hb.mono HB3.out.size))
  clear hb
  go_wp2_with fail
  refine (HR.out _).mono ?_
  rintro e w5 ⟨rfl, hb⟩
  have HB5 := Lib.hid (HB4.out.trans (hb.mono HB4.out.size))
  have hext := HX.out
  have hAI := HAI.out
  clear hb
  go_wp2_with fail
  refine (HM1.out _ (HT.out.below HB5.out HT.out.pos)).mono ?_
  rintro e w7 ⟨rfl, hb⟩
  have HB7 := Lib.hid (HB5.out.trans (hb.mono HB5.out.size))
  clear hb
  go_wp2_with fail
  refine (HM2.out _ (HT.out.below HB7.out HT.out.pos)).mono ?_
  rintro e w8 ⟨rfl, hb⟩
  have HB8 := Lib.hid (HB7.out.trans (hb.mono HB7.out.size))
  clear hb
  go_wp2_with fail
  refine (HM3.out _).mono ?_
  rintro e w9 ⟨rfl, hb⟩
  have HB9 := Lib.hid (HB8.out.trans (hb.mono HB8.out.size))
  clear hb
  go_wp2_with fail
  go_ret
  exact ⟨rfl, HB9.out⟩

theorem walk (key s : ByteArray) (no f n : Int) (hno : no < 9223372036854775808) (w : World) (ht : TabD w) :
    Calls Tryd.prog 6 #[.string key, .string s, .agg #[.int .i64 no, .int .i64 f, .int .i64 n]] w fun e w' => e = .returned (.bool true) ∧ Below w.heap.size w w' := by
  by_cases he : Early key s f n
  · exact walkA key s no f n he w ht
  have k0 : ¬ 200 < (key.size : Int) := fun h => he (.inl h)
  have s0 : ¬ 300 < (s.size : Int) := fun h => he (.inr (.inl ⟨k0, h⟩))
  have ok : Ok4 f n := by unfold Early at he; unfold Ok4; omega
  by_cases h0 : no < 0
  · exact walkB key s no f n k0 s0 ok h0 w ht
  obtain ⟨no, rfl⟩ := Int.eq_ofNat_of_zero_le (show 0 ≤ no by omega)
  by_cases hb : BadS (no : Int) f n
  · exact walkC key s no f n k0 s0 ok (by omega) hb w ht
  have hv : 0 ≤ f ∧ 0 ≤ n ∧ f ≤ 5000 ∧ n ≤ 300 := by unfold BadS at hb; unfold Ok4 at ok; omega
  obtain ⟨f, rfl⟩ := Int.eq_ofNat_of_zero_le hv.1
  obtain ⟨n, rfl⟩ := Int.eq_ofNat_of_zero_le hv.2.1
  exact walkD key s no f n k0 s0 (by omega) (by omega) (by omega) w ht
theorem laidOut : laidOutB Tryd.prog = true := by kernel_rfl
theorem open_int3 {H : Type} {enc : TypeId × Value → H} {P : Program} {w : World} {r : Reach} {b0 base : Nat} {spare : Nat → Bool} {held : Bool} {t e : TypeId} {v : Value} {d : DataW H} {p : List MemPlace}
    (hs : P.underlying t = some (.array 3 e)) (he : P.underlying e = some (.int .i64)) (hce : P.cellsOf e = 1) (hct : P.cellsOf t = 3)
    (hv : Value.okWide P w r b0 t v) (h : DataW.Trod enc P w base spare held t v d p) :
    ∃ n0 n1 n2 : Int, v = .agg #[.int .i64 n0, .int .i64 n1, .int .i64 n2] ∧ (Lit.int .i64 n0).wf = true ∧ (Lit.int .i64 n1).wf = true ∧ (Lit.int .i64 n2).wf = true := by
  obtain ⟨cs, rfl, hsz⟩ : ∃ cs, v = .agg cs ∧ cs.size = P.cellsOf t := by
    unfold Value.okWide at hv
    rw [hs] at hv
    obtain ⟨cs, h1, h2, _⟩ := hv
    exact ⟨cs, h1, h2⟩
  obtain ⟨c0, c1, c2, rfl⟩ := Joins.array3 (hsz.trans hct)
  obtain ⟨fuel, hf⟩ := h
  obtain ⟨xs, m, _, _, _, hl, hx⟩ := DataW.trod_array hs hf
  have key : ∀ i (h : i < 3) (c : Value), ((#[c0, c1, c2] : Array Value).toList.drop i).take 1 = [c] → ∃ n : Int, c = .int .i64 n ∧ (Lit.int .i64 n).wf = true := by
    intro i hi c hc
    have hxi := hx i hi
    rw [hce, Nat.mul_one] at hxi
    have e2 : (Value.agg #[c0, c1, c2]).cells.toList = [c0, c1, c2] := rfl
    rw [List.getElem?_eq_getElem (by omega)] at hxi
    have : DataW.trod enc P w base spare held m e [c] = some xs[i] := by
      rw [← hxi]
      congr 1
      exact hc.symm
    obtain ⟨a, h1, _, h3⟩ := DataW.trod_int he this
    simp at h1
    exact ⟨a, h1, h3⟩
  obtain ⟨n0, rfl, w0⟩ := key 0 (by omega) c0 rfl
  obtain ⟨n1, rfl, w1⟩ := key 1 (by omega) c1 rfl
  obtain ⟨n2, rfl, w2⟩ := key 2 (by omega) c2 rfl
  exact ⟨n0, n1, n2, rfl, w0, w1, w2⟩
theorem i64_hi {n : Int} (h : (Lit.int .i64 n).wf = true) : n < 9223372036854775808 := by
  simp [Lit.wf, IntKind.min, IntKind.max, IntKind.signed, IntKind.bits] at h
  omega
set_option maxRecDepth 100000 in
theorem lifted (os : Os) (started : os.Started) (H : Type) (enc : TypeId × Value → H) :
    ReturnsInHanded {} Tryd.checked os 6 .any (fun w args => (Rows.digestStreamsSpec.pre enc Tryd.prog Tryd.f6 [] false w args ∧ laidMetH Tryd.prog laid2 w) ∧ sizedMet enc Tryd.prog Tryd.f6 (OpenSpec.ofChange Rows.digestStreamsSpec) false w args)
      (Rows.digestStreamsSpec.post enc Tryd.prog Tryd.f6 false true false false) := by
  refine returnsInHanded_of_change_and (C := Tryd.checked) (X := fun w _ => laidMetH Tryd.prog laid2 w) (fun _ _ _ hh h => h.of_heap hh) own started (by kernel_rfl) Tryd.func6
    (ChangeSpec.witness_shaped (enc := enc) (C := Tryd.checked) (os := os) (X := fun w _ => laidMetH Tryd.prog laid2 w) false (World.doorLaid Tryd.prog 400 os) #[.string ByteArray.empty, .string ByteArray.empty, .agg #[.int .i64 0, .int .i64 0, .int .i64 0]] 8 rfl (World.shaped_of_RefB (by kernel_rfl) (by kernel_rfl)) (by kernel_rfl) (by kernel_rfl) (by kernel_rfl) (door_met os _)) ?_
  intro W base args ds gs before hval0 hW _ _ hL _
  have hval : ∀ (j : Nat) t v, Tryd.f6.params[j]? = some t → args[j]? = some v → Value.okWide Tryd.prog W .any base t v := hval0
  have hW' := hW
  obtain ⟨p, q, hA0, hV, rfl, hfz, hnd⟩ := hW
  have hA : DataW.TrodAll enc Tryd.prog W 0 (fun _ => true) true Tryd.f6.params.toList args.toList ds p := hA0
  rw [Tryd.params6] at hA hval
  obtain ⟨v0, vs0, d0, ds0, p0, q0, hargs, rfl, rfl, h0, r0⟩ := trodAll_cons hA
  obtain ⟨v1, vs1, d1, ds1, p1, q1, rfl, rfl, rfl, h1, r1⟩ := trodAll_cons r0
  obtain ⟨v2, vs2, d2, ds2, p2, q2, rfl, rfl, rfl, h2, r2⟩ := trodAll_cons r1
  obtain ⟨rfl, rfl, rfl⟩ := trodAll_nil r2
  obtain rfl : args = #[v0, v1, v2] := by cases args; simp_all
  obtain ⟨rfl, rfl⟩ := trodVars_none hV
  obtain ⟨a0, rfl, rfl, rfl, w0⟩ := open_string Tryd.underlying9 (hval 0 9 v0 rfl rfl) h0
  obtain ⟨a1, rfl, rfl, rfl, w1⟩ := open_string Tryd.underlying9 (hval 1 9 v1 rfl rfl) h1
  have k2 := h2
  have lt2 : ∀ x ∈ p2, x.block < W.heap.size := by obtain ⟨m, hm⟩ := k2; exact DataW.trod_lt m _ _ _ hm
  obtain ⟨m2, f2, n2, rfl, wm2, wf2, wn2⟩ := open_int3 Tryd.underlying38 Tryd.underlying3 (by kernel_rfl) (by kernel_rfl) (hval 2 38 v2 rfl rfl) h2
  clear hA0 hval0
  have ht := of_laid hL
  refine (walk a0 a1 m2 f2 n2 (i64_hi wm2) W ht).mono fun e W' ⟨he, bel⟩ => ?_
  subst he
  exact ⟨_, rfl, _, _, _, [], _, [], hW', trodAll_mk1 (shut_bool Tryd.underlying4 _), (trodAll_cons_mk (shut_string Tryd.underlying9 w0) (trodAll_cons_mk (shut_string Tryd.underlying9 w1) (trodAll_cons_mk (Below.trod laidOut (by kernel_rfl) (of_decide_eq_true (by kernel_rfl)) k2 bel lt2) trodAll_mk0))), rfl, bel.frame _, fun h => by cases h⟩

theorem over : Rows.digestStreamsRow.holds Tryd.pinned (OpenSpec.ofChange Rows.digestStreamsSpec) :=
  OpenClaim.holds_of_wide 6 Tryd.f6 rfl rfl rfl rfl rfl rfl rfl ⟨rfl, rfl, rfl, rfl, rfl⟩ rfl rfl rfl rfl rfl (by kernel_rfl) Tryd.func6 (by kernel_rfl)
    (of_decide_eq_true (by kernel_rfl)) (by unfold Func.isWrapper; first | (rw [if_pos (by decide +kernel)]; kernel_rfl) | (rw [if_neg (by decide +kernel)]; exact ⟨rfl, rfl⟩))
    (fun os started H enc _ => lifted os started H enc)

theorem card_holds : Rows.DigestStreamsCardSaid :=
  Claim7.holds_tied_plain_at .later [] [.data, .data] true (true, "8c260326cb8ce36d986a9977b984088357d89190d852a59f516cd170735cb484") false
    over (fun _ h => by cases h) (by kernel_rfl) (fun _ h => by cases h) digestStreams_row_tie rfl ⟨rfl, rfl⟩ (by kernel_rfl) rfl
    (fun f fn hf hfn => by
      obtain rfl : f = 6 := Option.some.inj ((show Tryd.prog.funcNamed "acheron/acheronlaw03.DigestStreams" = some 6 by kernel_rfl).symm.trans hf) |>.symm
      obtain rfl : fn = Tryd.f6 := (Option.some.inj (Tryd.func6.symm.trans hfn)).symm
      exact ⟨by kernel_rfl, fun j t ht => by
        rw [Tryd.params6] at ht
        have hm : t ∈ [9, 38] := by have := Array.mem_of_getElem? ht; simp at this ⊢; omega
        have hall : ([9, 38].all fun u => !Tryd.prog.wantsStandIn u) = true := by kernel_rfl
        exact (show Tryd.prog.wantsStandIn t = false by simpa using List.all_eq_true.1 hall t hm)⟩)
    (by kernel_rfl)
end Go.Proofs.YthhaofdnbemogaaDoor.digestStreams

