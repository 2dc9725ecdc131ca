/-
  digest.schedule.
-/
import Derived.Test.YthhaofdnbemogaaDoorDig1
set_option linter.unusedVariables false
namespace Go.Proofs.YthhaofdnbemogaaDoor
open Go.RowKit

def Row32 (w : World) (b : Nat) (T : TypeId) (L : List Int) : Prop := w.heap[b]? = some (.cells (u32s L) T (0, 0))
theorem Row32.cell {w : World} {b : Nat} {T : TypeId} {L : List Int} (h : Row32 w b T L) {j : Nat} (hj : j < L.length) : w.cell? ⟨b, j, none⟩ = some (.int .u32 (wd L j)) := by
  rw [cell_of_row w b j _ _ _ h, u32s_get L j hj]
theorem Row32.frozen {w : World} {b : Nat} {T : TypeId} {L : List Int} (h : Row32 w b T L) (j : Nat) : w.frozen? ⟨b, j, none⟩ = false := frozen_of_row w b j _ _ h
theorem Row32.set {w : World} {b : Nat} {T : TypeId} {L : List Int} (h : Row32 w b T L) (j : Nat) (v : Int) : Row32 (w.setCell ⟨b, j, none⟩ (.int .u32 v)) b T (L.set j v) := by
  unfold Row32
  rw [heap_setCell_same w b j _ T _ h, u32s_set]
theorem Row32.set_other {w : World} {b c : Nat} {T : TypeId} {L : List Int} (h : Row32 w b T L) (j : Nat) (v : Value) (hne : b ≠ c) : Row32 (w.setCell ⟨c, j, none⟩ v) b T L := by
  unfold Row32
  rw [heap_setCell_other w _ b v hne]
  exact h
theorem Row32.drew {w : World} {b : Nat} {T : TypeId} {L : List Int} (h : Row32 w b T L) : Row32 w.drew b T L := h
theorem Row32.below {w w' : World} {b B : Nat} {T : TypeId} {L : List Int} (h : Row32 w b T L) (hb : Below B w w') (hB : b < B) : Row32 w' b T L := by
  unfold Row32; rw [hb.block b hB]; exact h

theorem byt_at (s : ByteArray) (k : Nat) (h : k < s.size) : ((s[k].toNat : Int)) % 4294967296 = byt s.data.toList k := by
  have h1 : s.data.toList.getD k 0 = s[k] := by
    rw [List.getD_eq_getElem?_getD, List.getElem?_eq_getElem (by simpa using h)]
    rfl
  unfold byt
  rw [h1]
  have := s[k].toNat_lt
  omega
def SchRel (w : World) (bs : List UInt8) (F : Nat → List Int) (o len : Nat) (i : Value) (wr : World) : Prop :=
  ∃ k : Nat, k ≤ len ∧ i = .int .i64 ((o + k : Nat) : Int) ∧ Row32 wr (w.heap.size + 1) 88 (F k) ∧ Row32 wr w.heap.size 88 (List.replicate 64 0) ∧ Below w.heap.size w wr ∧ wr.heap.size = w.heap.size + 1 + 1

set_option maxHeartbeats 1000000 in
set_option maxRecDepth 100000 in
theorem schedule_any (s : ByteArray) (hs : s.size = 64) (w : World) :
    Calls Tryd.prog 72 #[.string s] w fun e w' => e = .returned (.agg (u32s (sched s.data.toList))) ∧ Below w.heap.size w w' := by
  have HS := Lib.hid hs
  have hle : s.size ≤ 64 := by omega
  clear hs
  go_enter Tryd.func72, Tryd.ntmps72
  go_wp2
  go_loopw [4, 12] (fun _ i wr => SchRel w s.data.toList (schA s.data.toList) 0 64 i wr) (fun _ i _ => 64 - (intOf i).toNat)
  case atStart =>
    refine ⟨0, by omega, rfl, ?_, ?_, ?_, ?_⟩
    · exact heap_alloc2_new _ _ _
    · exact heap_alloc2_old _ _ _
    · exact ((Below.refl _ _).alloc (Nat.le_refl _) _).alloc (by simp) _
    · simp
  case round =>
    obtain ⟨k, hk, rfl, hr1, hr2, hbel, hsz⟩ := hrel
    rw [Nat.zero_add]
    by_cases hlt : k < s.size
    · obtain ⟨q, hqe⟩ : ∃ q : Nat, q = k / 4 := ⟨_, rfl⟩
      have hq : q < (schA s.data.toList k).length := by rw [schA_len]; omega
      have hcell := hr1.cell hq
      have hfr := hr1.frozen q
      have hql : q < 64 := by omega
      have hq0 : (0 : Int) ≤ (q : Int) := by omega
      have hq1 : (q : Int) < 64 := by omega
      have hdv : (k : Int) / 4 = (q : Int) := by omega
      have hdv2 : (k : Int).tdiv 4 = (q : Int) := by rw [Int.tdiv_eq_ediv_of_nonneg (by omega)]; omega
      have hdv3 : IntKind.i64.wrap (q : Int) = (q : Int) := IntWalk.i64_in _ (by omega)
      have HR1 := Lib.hid hr1
      have HR2 := Lib.hid hr2
      have HBL := Lib.hid hbel
      have HSZ := Lib.hid hsz
      have HQ := Lib.hid hqe
      clear hr1 hr2 hbel hsz hqe hq
      go_wp2_with fail
      go_region
      go_wp2
      go_roundw
      case rel =>
        refine ⟨k + 1, by omega, by go_num, ?_, ?_, ?_, ?_⟩
        · have h := HR1.out.set q (bits .or .u32 (wd (schA s.data.toList k) q * 256 % 4294967296) (byt s.data.toList k))
          rw [← byt_at s k hlt] at h
          rw [schA, ← HQ.out, ← byt_at s k hlt]
          exact h.drew
        · exact (HR2.out.set_other q _ (by omega)).drew
        · exact (HBL.out.setCell (by simp) _).drew
        · simpa using HSZ.out
      case measure => simp [intOf]; omega
    · have hks : k = s.size := by have := HS.out; omega
      have hr1' : Row32 wr (w.heap.size + 1) 88 (schB (schA s.data.toList 64) 0) := by
        have e : k = 64 := by rw [hks]; exact HS.out
        rw [← e]
        exact hr1
      have HR1 := Lib.hid hr1'
      have HR2 := Lib.hid hr2
      have HBL := Lib.hid hbel
      have HSZ := Lib.hid hsz
      clear hr1 hr1' hr2 hbel hsz hks
      go_wp2
      go_loopw [5] (fun i wr => SchRel w s.data.toList (schB (schA s.data.toList 64)) 16 48 i wr) (fun i _ => 64 - (intOf i).toNat)
      case atStart => exact ⟨0, by omega, rfl, HR1.out, HR2.out, HBL.out, HSZ.out⟩
      case round =>
        clear HR1 HR2 HBL HSZ hlt hk
        obtain ⟨k', hk, rfl, hr1, hr2, hbel, hsz⟩ := hrel
        obtain ⟨t, hte⟩ : ∃ t : Nat, t = 16 + k' := ⟨_, rfl⟩
        rw [← hte]
        have HSZ := Lib.hid hsz
        have HBL := Lib.hid hbel
        have HR1 := Lib.hid hr1
        have HR2 := Lib.hid hr2
        have ht16 : 16 ≤ t := by omega
        by_cases hlt : t < 64
        · obtain ⟨j15, h15⟩ : ∃ j : Nat, j = t - 15 := ⟨_, rfl⟩
          obtain ⟨j2, h2⟩ : ∃ j : Nat, j = t - 2 := ⟨_, rfl⟩
          obtain ⟨j7, h7⟩ : ∃ j : Nat, j = t - 7 := ⟨_, rfl⟩
          obtain ⟨j16, h16⟩ : ∃ j : Nat, j = t - 16 := ⟨_, rfl⟩
          have hl : (schB (schA s.data.toList 64) k').length = 64 := by rw [schB_len, schA_len]
          have c15 := hr1.cell (j := j15) (by omega)
          have c2 := hr1.cell (j := j2) (by omega)
          have c7 := hr1.cell (j := j7) (by omega)
          have c16 := hr1.cell (j := j16) (by omega)
          have ct := hr1.cell (j := t) (by omega)
          have hf := hr1.frozen t
          have i15 : (t : Int) - 15 = (j15 : Int) := by omega
          have i2 : (t : Int) - 2 = (j2 : Int) := by omega
          have i7 : (t : Int) - 7 = (j7 : Int) := by omega
          have i16 : (t : Int) - 16 = (j16 : Int) := by omega
          have b15 : (j15 : Int) < 64 := by omega
          have b2 : (j2 : Int) < 64 := by omega
          have b7 : (j7 : Int) < 64 := by omega
          have b16 : (j16 : Int) < 64 := by omega
          have w15 : IntKind.i64.wrap (j15 : Int) = (j15 : Int) := IntWalk.i64_in _ (by omega)
          have w2 : IntKind.i64.wrap (j2 : Int) = (j2 : Int) := IntWalk.i64_in _ (by omega)
          have w7 : IntKind.i64.wrap (j7 : Int) = (j7 : Int) := IntWalk.i64_in _ (by omega)
          have w16 : IntKind.i64.wrap (j16 : Int) = (j16 : Int) := IntWalk.i64_in _ (by omega)
          have H15 := Lib.hid h15
          have H2 := Lib.hid h2
          have H7 := Lib.hid h7
          have H16 := Lib.hid h16
          have HTE := Lib.hid hte
          clear h15 h2 h7 h16 hte hr1 hr2 hbel hsz hl
          go_wp2_with fail
          go_region
          clear c15 c2 i15 i2 b15 b2 w15 w2
          go_wp2_with (go_at_call 83; first | ((with_reducible refine (right_7 _ _).mono ?_); rintro e w' ⟨rfl, rfl⟩) | ((with_reducible refine (right_18 _ _).mono ?_); rintro e w' ⟨rfl, rfl⟩) | ((with_reducible refine (right_17 _ _).mono ?_); rintro e w' ⟨rfl, rfl⟩) | ((with_reducible refine (right_19 _ _).mono ?_); rintro e w' ⟨rfl, rfl⟩))
          go_region
          go_wp2
          go_roundw
          case rel =>
            refine ⟨k' + 1, by have := HTE.out; omega, by rw [HTE.out]; go_num, ?_, ?_, ?_, ?_⟩
            · have h := HR1.out.set t (nextW (schB (schA s.data.toList 64) k') t)
              unfold nextW s1W s0W at h
              rw [← H15.out, ← H2.out, ← H7.out, ← H16.out] at h
              rw [schB]
              unfold nextW s1W s0W
              rw [← HTE.out, ← H15.out, ← H2.out, ← H7.out, ← H16.out]
              exact h.drew.drew
            · exact (HR2.out.set_other t _ (by omega)).drew.drew
            · exact (HBL.out.setCell (by simp only []; omega) _).drew.drew
            · simpa using HSZ.out
          case measure => simp [intOf]; omega
        · have hI : ¬ (t : Int) < 64 := by omega
          have hk48 : k' = 48 := by omega
          have HSC : Row32 wr (w.heap.size + 1) 88 (sched s.data.toList) := by
            unfold sched; rw [← hk48]; exact hr1
          have HG := Lib.hid HSC
          clear hte hr1 hr2 hbel hsz hlt hk48 HSC HR1
          go_wp2_with (first
            | (refine wpList_load_row rfl 88 _ rfl (w.heap.size + 1) rfl 88 _ (0, 0) _ HG.out Tryd.underlying88 rfl ?z1 ?_; (case z1 => rw [u32s_size, sched_len]; kernel_rfl))
            | (refine wpList_store_row rfl 88 _ _ rfl w.heap.size (u32s (sched s.data.toList)) rfl rfl 88 _ HR2.out ?z2 ?z3 (u32s_one _) ?_; (case z2 => rw [u32s_size, sched_len]; kernel_rfl); (case z3 => rw [u32s_size, u32s_size, sched_len]; rfl)))
          refine bodyPost_ret (results_cell_row rfl _ _ w.heap.size 88 (u32s (sched s.data.toList)) (0, 0) _ rfl (setRow_heap _ _ _ _ _ _ HR2.out) Tryd.underlying88 rfl ?z1) rfl ⟨rfl, ?_⟩
          case z1 => rw [u32s_size, sched_len]; kernel_rfl
          exact below_setRow HBL.out (Nat.le_refl _) _
end Go.Proofs.YthhaofdnbemogaaDoor
