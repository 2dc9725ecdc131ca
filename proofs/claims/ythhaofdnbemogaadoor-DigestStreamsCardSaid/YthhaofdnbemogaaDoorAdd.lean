/-
  digest.Hash: Add.
-/
import Derived.Test.YthhaofdnbemogaaDoorMix
import Derived.Test.YthhaofdnbemogaaDoorShelf
import Derived.Lib.IndexBytes
set_option linter.unusedVariables false
namespace Go.Proofs.YthhaofdnbemogaaDoor
open Go.RowKit

def blk (L : List UInt8) (k : Nat) : List UInt8 := (L.drop (64 * k)).take 64
/-- What the first k blocks of a text add. -/
def absK (A : List Int) (L : List UInt8) : Nat → List Int
  | 0 => A
  | k + 1 => mixL (absK A L k) (blk L k)
theorem absK_len {A : List Int} (hA : A.length = 8) (L : List UInt8) (k : Nat) : (absK A L k).length = 8 := by
  induction k with
  | zero => exact hA
  | succ k ih => exact mixL_len ih _
theorem HashAt.setRest {w : World} {b : Nat} {A : List Int} {r : ByteArray} {n : Int} (h : HashAt w b A r n) (hA : A.length = 8) (r' : ByteArray) : HashAt (w.setCell ⟨b, 8, none⟩ (.string r')) b A r' n := by
  unfold HashAt
  rw [heap_setCell_same w b 8 _ _ _ h]
  obtain ⟨a, b, c, d, e, f, g, i, rfl⟩ := eight hA
  rfl
theorem HashAt.setSize {w : World} {b : Nat} {A : List Int} {r : ByteArray} {n : Int} (h : HashAt w b A r n) (hA : A.length = 8) (n' : Int) : HashAt (w.setCell ⟨b, 9, none⟩ (.int .i64 n')) b A r n' := by
  unfold HashAt
  rw [heap_setCell_same w b 9 _ _ _ h]
  obtain ⟨a, b, c, d, e, f, g, i, rfl⟩ := eight hA
  rfl
theorem HashAt.rest {w : World} {b : Nat} {A : List Int} {r : ByteArray} {n : Int} (h : HashAt w b A r n) (hA : A.length = 8) : w.cell? ⟨b, 8, none⟩ = some (.string r) := by
  rw [cell_of_row w b 8 _ _ _ h]
  obtain ⟨a, b, c, d, e, f, g, i, rfl⟩ := eight hA
  rfl
theorem HashAt.size {w : World} {b : Nat} {A : List Int} {r : ByteArray} {n : Int} (h : HashAt w b A r n) (hA : A.length = 8) : w.cell? ⟨b, 9, none⟩ = some (.int .i64 n) := by
  rw [cell_of_row w b 9 _ _ _ h]
  obtain ⟨a, b, c, d, e, f, g, i, rfl⟩ := eight hA
  rfl

/-- A text as a string. -/
def strL (L : List UInt8) : ByteArray := ⟨L.toArray⟩
theorem strL_of {t : ByteArray} {L : List UInt8} (h : t.data.toList = L) : t = strL L := by
  obtain ⟨⟨l⟩⟩ := t
  subst h
  rfl
def absorb (A : List Int) (L : List UInt8) : List Int := absK A L (L.length / 64)
def restL (L : List UInt8) : List UInt8 := L.drop (64 * (L.length / 64))

theorem clone_any (s : ByteArray) (hs : s.size ≤ 1000000000000) (w : World) : Calls Tryd.prog 46 #[.string s] w fun e w' => e = .returned (.string s) ∧ Below w.heap.size w w' := by
  have HC := Lib.hid (Tryd.stringslite_Clone s w (by omega))
  go_enter Tryd.func46, Tryd.ntmps46
  go_wp2_with fail
  refine HC.out.mono ?_
  rintro e w1 ⟨rfl, hb⟩
  have HB := Lib.hid hb
  clear hb
  go_wp2
  go_ret
  exact ⟨rfl, HB.out⟩

def AddRel (w : World) (A : List Int) (L : List UInt8) (r : ByteArray) (n : Int) (v : Value) (wr : World) : Prop :=
  ∃ (k : Nat) (t : ByteArray), v = .string t ∧ t.data.toList = L.drop (64 * k) ∧ 64 * k ≤ L.length ∧ HashAt wr w.heap.size (absK A L k) r n ∧ HashAt wr (w.heap.size + 1) (List.replicate 8 0) ⟨#[]⟩ 0 ∧ w.heap.size + 1 < wr.heap.size ∧ Below w.heap.size w wr

theorem HashAt.lt {w : World} {b : Nat} {A : List Int} {r : ByteArray} {n : Int} (h : HashAt w b A r n) : b < w.heap.size := by
  unfold HashAt at h
  exact (Array.getElem?_eq_some_iff.1 h).1

set_option maxHeartbeats 2000000 in
set_option maxRecDepth 100000 in
theorem add_any (A : List Int) (r : ByteArray) (n : Int) (s : ByteArray) (hA : A.length = 8) (h0 : 0 ≤ n) (h1 : n ≤ 1000000000000) (hs : s.size ≤ 1000000000000) (hr : r.size ≤ 64) (w : World) (ht : TabD w) :
    Calls Tryd.prog 12 #[.agg (hashV A r n), .string s] w fun e w' => e = .returned (.agg (hashV (absorb A (r.data.toList ++ s.data.toList)) (strL (restL (r.data.toList ++ s.data.toList))) (n + s.size))) ∧ Below w.heap.size w w' := by
  have HA := Lib.hid hA
  have HT := Lib.hid ht
  have hcat : ¬ (9223372036854775807 < r.data.toList.length + s.data.toList.length) := by simp; omega
  obtain ⟨L, hL⟩ : ∃ L, L = r.data.toList ++ s.data.toList := ⟨_, rfl⟩
  rw [← hL]
  have hLl : L.length ≤ 1000000000064 := by rw [hL, List.length_append]; simp; omega
  have HL := Lib.hid hL
  clear hL
  obtain ⟨a, b, c, d, e, f, g, i, hAe⟩ := eight hA
  have HAE := Lib.hid hAe
  rw [show (.agg (hashV A r n) : Value) = .agg #[.int .u32 a, .int .u32 b, .int .u32 c, .int .u32 d, .int .u32 e, .int .u32 f, .int .u32 g, .int .u32 i, .string r, .int .i64 n] by rw [hAe]; rfl]
  clear hA ht hAe
  go_enter Tryd.func12, Tryd.ntmps12
  go_wp2
  clear hcat
  go_loopw [1] (fun v wr => AddRel w A L r (n + s.size) v wr) (fun v _ => match v with | .string t => t.size | _ => 0)
  case atStart =>
    refine ⟨0, r ++ s, rfl, ?_, by omega, ?_, ?_, ?_, ?_⟩
    · rw [HL.out]; simp
    · rw [absK, HAE.out]; exact heap_alloc2_old _ _ _
    · exact heap_alloc2_new _ _ _
    · simp
    · exact ((Below.refl _ _).alloc (Nat.le_refl _) _).alloc (by simp) _
  case round =>
    obtain ⟨k, t, rfl, ht, hk, hh, hz, hsz, hbel⟩ := hrel
    have HTT := Lib.hid ht
    have HH := Lib.hid hh
    have HZ := Lib.hid hz
    have HSZ := Lib.hid hsz
    have HBL := Lib.hid hbel
    have htl : t.size = L.length - 64 * k := by rw [← ByteArray.size_data, ← Array.length_toList, ht, List.length_drop]
    by_cases hge : 64 ≤ t.size
    · have hx : (t.extract 0 64).data.toList = blk L k := by rw [Lib.extract_data, ht]; simp [blk]
      have hxs : (t.extract 0 64).size = 64 := by simp; omega
      have HM := Lib.hid (mix_any w.heap.size (absK A L k) r (n + s.size) (t.extract 0 64) (absK_len HA.out L k) hxs wr hh (HT.out.below hbel HT.out.pos))
      have HX := Lib.hid hx
      have hgI : (64 : Int) ≤ (t.size : Int) := by omega
      have htm : t.size ≤ 1000000000064 := by omega
      have HTL := Lib.hid htl
      clear ht hh hz hsz hbel hx hxs htl
      go_wp2_with fail
      refine HM.out.mono ?_
      rintro e' w1 ⟨rfl, hh1, ho1⟩
      have HH1 := Lib.hid hh1
      have HO1 := Lib.hid ho1
      clear hh1 ho1
      go_wp2_with fail
      go_roundw
      case rel =>
        refine ⟨k + 1, t.extract 64 t.size, rfl, ?_, ?_, ?_, ?_, ?_, ?_⟩
        · rw [Lib.extract_to_end, HTT.out, List.drop_drop]; congr 1
        · have := HTL.out; omega
        · rw [absK, ← HX.out]; exact HH1.out
        · unfold HashAt; rw [HO1.out.other _ (by omega) HSZ.out]; exact HZ.out
        · have := HO1.out.size; have := HSZ.out; omega
        · exact HBL.out.trans (HO1.out.below (Nat.le_refl _) HBL.out.size)
      case measure => simp; omega
    · have hke : k = L.length / 64 := by omega
      have htr : t = strL (restL L) := strL_of (by rw [ht, hke]; rfl)
      have HTR := Lib.hid htr
      have hab : absK A L k = absorb A L := by rw [hke]; rfl
      have HAB := Lib.hid hab
      have HCL := Lib.hid (clone_any t (by omega) wr)
      have hgI : ¬ ((64 : Int) ≤ (t.size : Int)) := by omega
      have hgN : ¬ (64 ≤ t.size) := hge
      clear ht hh hz hsz hbel htl hke htr hab
      go_wp2_with fail
      refine HCL.out.mono ?_
      rintro e' w1 ⟨rfl, hb1⟩
      have hlt := HH.out.lt
      have hh1 : HashAt w1 w.heap.size (absK A L k) r (n + s.size) := by unfold HashAt; rw [hb1.block _ hlt]; exact HH.out
      have hz1 : HashAt w1 (w.heap.size + 1) (List.replicate 8 0) ⟨#[]⟩ 0 := by unfold HashAt; rw [hb1.block _ HSZ.out]; exact HZ.out
      have hB1 : Below w.heap.size w w1 := HBL.out.trans (hb1.mono HBL.out.size)
      have hLK := absK_len HA.out L k
      have hcell := hh1.rest hLK
      have hfr := hh1.frozen 8
      have hh2 := hh1.setRest hLK t
      have hz2 : HashAt (w1.setCell ⟨w.heap.size, 8, none⟩ (.string t)) (w.heap.size + 1) (List.replicate 8 0) ⟨#[]⟩ 0 := by
        unfold HashAt
        rw [heap_setCell_other _ _ _ _ (by simp)]
        exact hz1
      have HH2 := Lib.hid hh2
      have HZ2 := Lib.hid hz2
      have HB2 := Lib.hid (hB1.setCell (p := ⟨w.heap.size, 8, none⟩) (Nat.le_refl _) (.string t))
      have HLK := Lib.hid hLK
      clear hb1 hh1 hz1 hB1 hLK hh2 hz2 hlt
      go_wp2_with (first
        | (refine wpList_load_row rfl 27 _ rfl w.heap.size rfl 27 _ (0, 0) _ HH2.out Tryd.underlying27 rfl ?z1 ?_; (case z1 => rw [hashV_size, HLK.out]; kernel_rfl))
        | (refine wpList_store_row rfl 27 _ _ rfl (w.heap.size + 1) (hashV (absK A L k) t (n + s.size)) rfl rfl 27 _ HZ2.out ?z2 ?z3 (hashV_one _ _ _) ?_; (case z2 => rw [hashV_size, HLK.out]; kernel_rfl); (case z3 => rw [hashV_size, hashV_size, HLK.out]; rfl)))
      refine bodyPost_ret (results_cell_row rfl _ _ (w.heap.size + 1) 27 (hashV (absK A L k) t (n + s.size)) (0, 0) _ rfl (setRow_heap _ _ _ _ _ _ HZ2.out) Tryd.underlying27 rfl ?z1) rfl ⟨?_, ?_⟩
      case z1 => rw [hashV_size, HLK.out]; kernel_rfl
      · rw [HAB.out, ← HTR.out]
      · exact below_setRow HB2.out (by omega) _
end Go.Proofs.YthhaofdnbemogaaDoor
