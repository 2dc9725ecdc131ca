/-
  For all lists of strings and every other string the law DigestSums returns true. No condition.
-/
import Derived.Test.YthhaofdnbemogaaDoorRows
import Derived.Test.YthhaofdnbemogaaDoorAwake
import Derived.Test.YthhaofdnbemogaaDoorRsS
import Derived.Test.YthhaofdnbemogaaDoorStrs
import Derived.Test.YthhaofdnbemogaaDoorLaidD
import Derived.WalkKit
import Derived.ProofKit
import Derived.OpenShut
import Derived.ShutString
import Derived.ChangeOld
import Derived.Carry
import Derived.SevenTiedAt
import Derived.Test.YthhaofdnbemogaaDoorCards
import Derived.Test.YthhaofdnbemogaaDoorTie
set_option linter.unusedVariables false
namespace Go.Proofs.YthhaofdnbemogaaDoor.digestSums
open Go.ChangeShapes Go.WideShapes Go.ChangeAt Go.RowKit
open Go.ChangeMaps (open_string shut_string)

theorem own : ownKnob Tryd.prog.godebug = none := by kernel_rfl

def SumsRel (w : World) (ss : List ByteArray) (hb : Nat) (v i : Value) (wr : World) : Prop :=
  ∃ (k : Nat) (p : ByteArray), k ≤ ss.length ∧ i = .int .i64 (k : Int) ∧ v = .string p ∧ p.data.toList = catK ss k ∧ (catK ss k).length ≤ 300 * k ∧ wr.heap[hb]? = some (.cells (hashOf (catK ss k)) 27 (0, 0)) ∧ Below w.heap.size w wr
theorem row_lt {w : World} {b : Nat} {o : Obj} (h : w.heap[b]? = some o) : b < w.heap.size := (Array.getElem?_eq_some_iff.1 h).1
theorem row_below {w w' : World} {b B : Nat} {o : Obj} (h : w.heap[b]? = some o) (hb : Below B w w') (hB : b < B) : w'.heap[b]? = some o := (hb.block b hB).trans h

set_option maxHeartbeats 8000000 in
set_option maxRecDepth 100000 in
theorem walk (v : Value) (ss : List ByteArray) (o : ByteArray) (w : World) (hx : StrsAt w v ss) (ht : TabD w) :
    Calls Tryd.prog 3 #[v, .string o] w fun e w' => e = .returned (.bool true) ∧ Below w.heap.size w w' := by
  have HT := Lib.hid ht
  have HAW := Lib.hid (awake_any w ht)
  clear ht
  obtain ⟨a, cap, rfl, hcase⟩ := hx
  by_cases hn : 20 < ss.length
  · have hnI : (20 : Int) < (ss.length : Int) := by omega
    clear hcase hn
    go_enter Tryd.func3, Tryd.ntmps3
    go_wp2_with fail
    refine HAW.out.mono ?_
    rintro e w1 ⟨rfl, hb⟩
    have HB1 := Lib.hid hb
    clear hb
    go_wp2_with fail
    go_ret
    exact ⟨rfl, HB1.out⟩
  by_cases ho : 300 < o.size
  · have hnI : ¬ (20 : Int) < (ss.length : Int) := by omega
    have hoI : (300 : Int) < (o.size : Int) := by omega
    clear hcase hn ho
    go_enter Tryd.func3, Tryd.ntmps3
    go_wp2_with fail
    refine HAW.out.mono ?_
    rintro e w1 ⟨rfl, hb⟩
    have HB1 := Lib.hid hb
    clear hb
    go_wp2_with fail
    go_ret
    exact ⟨rfl, HB1.out⟩
  have hnI : ¬ (20 : Int) < (ss.length : Int) := by omega
  have hoI : ¬ (300 : Int) < (o.size : Int) := by omega
  have HC := Lib.hid hcase
  have HN : Hid (ss.length ≤ 20) := Lib.hid (by omega)
  have HO : Hid (o.size ≤ 300) := Lib.hid (by omega)
  clear hcase hn ho
  go_enter Tryd.func3, Tryd.ntmps3
  go_wp2_with fail
  refine HAW.out.mono ?_
  rintro e w1 ⟨rfl, hb⟩
  have HB1 := Lib.hid hb
  clear hb HAW
  go_wp2_with fail
  clear hnI hoI
  go_loopw [5, 23] (fun v i wr => SumsRel w ss w1.heap.size v i wr) (fun _ i _ => ss.length - (intOf i).toNat)
  case atStart => exact ⟨0, ⟨#[]⟩, Nat.zero_le _, rfl, rfl, by simp [catK], by simp [catK], by rw [show catK ss 0 = [] by simp [catK]]; exact heap_alloc_new w1 _, HB1.out.alloc HB1.out.size _⟩
  case round =>
    obtain ⟨k, p, hk, rfl, rfl, hp, hcl, hrow, hbel⟩ := hrel
    have HB := Lib.hid hbel
    have HR := Lib.hid hrow
    have HP := Lib.hid hp
    have HCL := Lib.hid hcl
    by_cases hlt : k < ss.length
    · have hltI : (k : Int) < (ss.length : Int) := by omega
      have hcell : ∃ b oo, a = some ⟨b, oo, none⟩ ∧ wr.cell? ⟨b, oo + k, none⟩ = some (.string (ss.getD k ByteArray.empty)) := by
        rcases HC.out with rfl | ⟨b, oo, ha, hb, hc⟩
        · exact absurd hlt (Nat.not_lt_zero _)
        · exact ⟨b, oo, ha, (hbel.cell (p := ⟨b, oo + k, none⟩) hb).trans (hc k hlt)⟩
      obtain ⟨b, oo, rfl, hce⟩ := hcell
      have HST := Lib.hid (catK_step ss k hlt)
      obtain ⟨s, hs⟩ : ∃ s, s = ss.getD k ByteArray.empty := ⟨_, rfl⟩
      rw [← hs] at hce HST
      have HSS := Lib.hid hs
      clear hs hp hcl hrow hbel
      by_cases hbig : 300 < s.size
      · have hbI : (300 : Int) < (s.size : Int) := by omega
        go_wp2_with fail
        go_ret
        exact ⟨rfl, HB.out⟩
      · have hbI : ¬ (300 : Int) < (s.size : Int) := by omega
        obtain ⟨L, hL⟩ : ∃ L, L = catK ss k := ⟨_, rfl⟩
        rw [← hL] at HR HP HCL HST
        have hpl : p.size = L.length := by rw [← HP.out]; simp
        have hLl : L.length ≤ 6000 := by have h1 := HCL.out; have h2 := HN.out; omega
        have HLL := Lib.hid hLl
        have HBIG : Hid (s.size ≤ 300) := Lib.hid (by omega)
        have HA1 := Lib.hid (fun w ht => addH_any L o (by omega) (by have := HO.out; omega) w ht)
        have HA2 := Lib.hid (fun w ht => addH_any L s (by omega) (by omega) w ht)
        have HS1 := Lib.hid (fun w ht => sumH_any (L ++ o.data.toList) (by rw [List.length_append]; have := HO.out; simp; omega) w ht)
        have HS2 := Lib.hid (fun w ht => sumH_any (L ++ s.data.toList) (by rw [List.length_append]; simp; omega) w ht)
        have HD1 := Lib.hid (fun w ht => sum_any (p ++ o) (by rw [ByteArray.size_append]; have := HO.out; omega) w ht)
        have HD2 := Lib.hid (fun w ht => sum_any (p ++ s) (by rw [ByteArray.size_append]; omega) w ht)
        have HN1 := Lib.hid (fun w => lenH_any (L ++ o.data.toList) w)
        have HN2 := Lib.hid (fun w => lenH_any (L ++ s.data.toList) w)
        have e1 : (p ++ o).data.toList = L ++ o.data.toList := by rw [← HP.out]; simp
        have e2 : (p ++ s).data.toList = L ++ s.data.toList := by rw [← HP.out]; simp
        rw [e1] at HD1
        rw [e2] at HD2
        rw [show ((L ++ o.data.toList).length : Int) = (p.size : Int) + (o.size : Int) by rw [List.length_append, hpl]; simp] at HN1
        rw [show ((L ++ s.data.toList).length : Int) = (p.size : Int) + (s.size : Int) by rw [List.length_append, hpl]; simp] at HN2
        have HE2 := Lib.hid e2
        have hsz0 := hashOf_size L
        have hsz1 := hashOf_size (L ++ o.data.toList)
        have hsz2 := hashOf_size (L ++ s.data.toList)
        have hone1 := hashOf_one (L ++ o.data.toList)
        have hone2 := hashOf_one (L ++ s.data.toList)
        obtain ⟨R0, hR0⟩ : ∃ R, R = hashOf L := ⟨_, rfl⟩
        obtain ⟨R1, hR1⟩ : ∃ R, R = hashOf (L ++ o.data.toList) := ⟨_, rfl⟩
        obtain ⟨R2, hR2⟩ : ∃ R, R = hashOf (L ++ s.data.toList) := ⟨_, rfl⟩
        obtain ⟨X1, hX1⟩ : ∃ X, X = strL (shaL (L ++ o.data.toList)) := ⟨_, rfl⟩
        obtain ⟨X2, hX2⟩ : ∃ X, X = strL (shaL (L ++ s.data.toList)) := ⟨_, rfl⟩
        rw [← hR0] at HR HA1 HA2 hsz0
        rw [← hR1] at HA1 HS1 HN1 hsz1 hone1
        rw [← hR2] at HA2 HS2 HN2 hsz2 hone2
        rw [← hX1] at HS1 HD1
        rw [← hX2] at HS2 HD2
        have HR2E := Lib.hid hR2
        have HZ0 := Lib.hid hsz0
        have HZ1 := Lib.hid hsz1
        have HZ2 := Lib.hid hsz2
        have HO1 := Lib.hid hone1
        have HO2 := Lib.hid hone2
        have hpb : p.size ≤ 6000 := by omega
        have hos : o.size ≤ 300 := HO.out
        have hss : s.size ≤ 300 := HBIG.out
        have hcat1 : ¬ (9223372036854775807 < p.data.toList.length + o.data.toList.length) := by simp; omega
        have hcat2 : ¬ (9223372036854775807 < p.data.toList.length + s.data.toList.length) := by simp; omega
        have hpbI : (p.size : Int) ≤ 6000 := by omega
        have hosI : (o.size : Int) ≤ 300 := by omega
        have HHB := Lib.hid (row_lt HR.out)
        clear hL hLl e1 e2 hpl hR0 hR1 hR2 hX1 hX2 hsz0 hsz1 hsz2 hone1 hone2 hbig hpb hos hss
        go_wp2_with (refine wpList_load_row rfl 27 _ rfl (w1.heap.size) rfl 27 _ (0, 0) _ (HR.out) Tryd.underlying27 rfl ?z1 ?_; (case z1 => rw [HZ0.out]; kernel_rfl))
        refine (HA1.out _ (HT.out.below HB.out HT.out.pos)).mono ?_
        rintro e w2 ⟨rfl, hb⟩
        have HB2 := Lib.hid (HB.out.trans (hb.mono HB.out.size))
        have HR2r := Lib.hid (row_below HR.out hb HHB.out)
        have HHB2 := Lib.hid (row_lt HR2r.out)
        clear hb
        go_upto_region 13 with (refine wpList_store_row rfl 27 _ _ rfl (w2.heap.size) R1 rfl rfl 27 _ (heap_alloc_new w2 _) ?z2 ?z3 HO1.out ?_; (case z2 => rw [HZ1.out]; kernel_rfl); (case z3 => simp only [HZ1.out]; rfl))
        obtain ⟨wa, hwa⟩ : ∃ x, x = World.setRow (w2.alloc (.cells #[.int .u32 0, .int .u32 0, .int .u32 0, .int .u32 0, .int .u32 0, .int .u32 0, .int .u32 0, .int .u32 0, .string ⟨#[]⟩, .int .i64 0] 27)) w2.heap.size R1 := ⟨_, rfl⟩
        have hxa : wa.heap[w2.heap.size]? = some (.cells R1 27 (0, 0)) := by rw [hwa]; exact setRow_heap _ _ _ _ _ _ (heap_alloc_new w2 _)
        have hba : Below w2.heap.size w2 wa := by rw [hwa]; exact below_setRow ((Below.refl _ _).alloc (Nat.le_refl _) _) (Nat.le_refl _) _
        obtain ⟨bx, hbx⟩ : ∃ x, x = w2.heap.size := ⟨_, rfl⟩
        have HXA : Hid (wa.heap[bx]? = some (.cells R1 27 (0, 0))) := Lib.hid (by rw [hbx]; exact hxa)
        have HRA := Lib.hid (row_below HR2r.out hba HHB2.out)
        have HBA := Lib.hid (HB2.out.trans (hba.mono HB2.out.size))
        have HHBA := Lib.hid (row_lt HRA.out)
        have HNX : Hid (w1.heap.size ≠ bx) := Lib.hid (by have := HHB2.out; omega)
        rw [← hwa, ← hbx]
        clear hwa hxa hba hbx
        go_wp2_with (refine wpList_load_row rfl 27 _ rfl (w1.heap.size) rfl 27 _ (0, 0) _ (HRA.out) Tryd.underlying27 rfl ?z1 ?_; (case z1 => rw [HZ0.out]; kernel_rfl))
        refine (HA2.out _ (HT.out.below HBA.out HT.out.pos)).mono ?_
        rintro e w4 ⟨rfl, hb⟩
        have HB4 := Lib.hid (HBA.out.trans (hb.mono HBA.out.size))
        have HR4 := Lib.hid (row_below HRA.out hb HHBA.out)
        have HX4 := Lib.hid (row_below HXA.out hb (row_lt HXA.out))
        have HH4 := Lib.hid (row_lt HR4.out)
        have HHX4 := Lib.hid (row_lt HX4.out)
        clear hb
        go_upto_region 14 with (refine wpList_store_row rfl 27 _ _ rfl (w4.heap.size) R2 rfl rfl 27 _ (heap_alloc_new w4 _) ?z2 ?z3 HO2.out ?_; (case z2 => rw [HZ2.out]; kernel_rfl); (case z3 => simp only [HZ2.out]; rfl))
        obtain ⟨wb, hwb⟩ : ∃ x, x = World.setRow (w4.alloc (.cells #[.int .u32 0, .int .u32 0, .int .u32 0, .int .u32 0, .int .u32 0, .int .u32 0, .int .u32 0, .int .u32 0, .string ⟨#[]⟩, .int .i64 0] 27)) w4.heap.size R2 := ⟨_, rfl⟩
        have hyb : wb.heap[w4.heap.size]? = some (.cells R2 27 (0, 0)) := by rw [hwb]; exact setRow_heap _ _ _ _ _ _ (heap_alloc_new w4 _)
        have hbb : Below w4.heap.size w4 wb := by rw [hwb]; exact below_setRow ((Below.refl _ _).alloc (Nat.le_refl _) _) (Nat.le_refl _) _
        obtain ⟨by_, hby⟩ : ∃ x, x = w4.heap.size := ⟨_, rfl⟩
        have HYB : Hid (wb.heap[by_]? = some (.cells R2 27 (0, 0))) := Lib.hid (by rw [hby]; exact hyb)
        have HRB := Lib.hid (row_below HR4.out hbb HH4.out)
        have HXB := Lib.hid (row_below HX4.out hbb HHX4.out)
        have HBB := Lib.hid (HB4.out.trans (hbb.mono HB4.out.size))
        have HNY : Hid (w1.heap.size ≠ by_) := Lib.hid (by have := HH4.out; omega)
        rw [← hwb, ← hby]
        clear hwb hyb hbb hby
        go_wp2_with (refine wpList_load_row rfl 27 _ rfl (bx) rfl 27 _ (0, 0) _ (HXB.out) Tryd.underlying27 rfl ?z1 ?_; (case z1 => rw [HZ1.out]; kernel_rfl))
        refine (HS1.out _ (HT.out.below HBB.out HT.out.pos)).mono ?_
        rintro e w5 ⟨rfl, hb⟩
        have HB5 := Lib.hid (HBB.out.trans (hb.mono HBB.out.size))
        have HR5 := Lib.hid (row_below HRB.out hb (row_lt HRB.out))
        have HX5 := Lib.hid (row_below HXB.out hb (row_lt HXB.out))
        have HY5 := Lib.hid (row_below HYB.out hb (row_lt HYB.out))
        clear hb
        go_wp2_with fail
        refine (HD1.out _ (HT.out.below HB5.out HT.out.pos)).mono ?_
        rintro e w6 ⟨rfl, hb⟩
        have HB6 := Lib.hid (HB5.out.trans (hb.mono HB5.out.size))
        have HR6 := Lib.hid (row_below HR5.out hb (row_lt HR5.out))
        have HX6 := Lib.hid (row_below HX5.out hb (row_lt HX5.out))
        have HY6 := Lib.hid (row_below HY5.out hb (row_lt HY5.out))
        clear hb
        go_wp2_with (refine wpList_load_row_g ?zg 27 _ rfl (bx) rfl 27 _ (0, 0) _ (HX6.out) Tryd.underlying27 rfl ?z1 ?_; (case zg => rfl); (case z1 => rw [HZ1.out]; kernel_rfl))
        refine (HN1.out _).mono ?_
        rintro e w7 ⟨rfl, hb⟩
        have HB7 := Lib.hid (HB6.out.trans (hb.mono HB6.out.size))
        have HR7 := Lib.hid (row_below HR6.out hb (row_lt HR6.out))
        have HY7 := Lib.hid (row_below HY6.out hb (row_lt HY6.out))
        clear hb
        go_upto_region 18 with (first | (refine wpList_load_row rfl 27 _ rfl (by_) rfl 27 _ (0, 0) _ (HY7.out) Tryd.underlying27 rfl ?z1 ?_; (case z1 => rw [HZ2.out]; kernel_rfl)) | (refine wpList_store_row rfl 27 _ _ rfl (w1.heap.size) R2 rfl rfl 27 _ (HR7.out) ?z2 ?z3 HO2.out ?_; (case z2 => rw [HZ2.out]; kernel_rfl); (case z3 => simp only [HZ2.out, HZ0.out])))
        obtain ⟨wc, hwc⟩ : ∃ x, x = World.setRow w7 w1.heap.size R2 := ⟨_, rfl⟩
        have HRC : Hid (wc.heap[w1.heap.size]? = some (.cells R2 27 (0, 0))) := Lib.hid (by rw [hwc]; exact setRow_heap _ _ _ _ _ _ HR7.out)
        have HBC : Hid (Below w.heap.size w wc) := Lib.hid (by rw [hwc]; exact below_setRow HB7.out HB1.out.size _)
        rw [← hwc]
        clear hwc
        go_wp2_with (refine wpList_load_row rfl 27 _ rfl (w1.heap.size) rfl 27 _ (0, 0) _ (HRC.out) Tryd.underlying27 rfl ?z1 ?_; (case z1 => rw [HZ2.out]; kernel_rfl))
        refine (HS2.out _ (HT.out.below HBC.out HT.out.pos)).mono ?_
        rintro e w8 ⟨rfl, hb⟩
        have HB8 := Lib.hid (HBC.out.trans (hb.mono HBC.out.size))
        have HR8 := Lib.hid (row_below HRC.out hb (row_lt HRC.out))
        clear hb
        go_wp2_with fail
        refine (HD2.out _ (HT.out.below HB8.out HT.out.pos)).mono ?_
        rintro e w9 ⟨rfl, hb⟩
        have HB9 := Lib.hid (HB8.out.trans (hb.mono HB8.out.size))
        have HR9 := Lib.hid (row_below HR8.out hb (row_lt HR8.out))
        clear hb
        go_wp2_with (refine wpList_load_row_g ?zg 27 _ rfl (w1.heap.size) rfl 27 _ (0, 0) _ (HR9.out) Tryd.underlying27 rfl ?z1 ?_; (case zg => rfl); (case z1 => rw [HZ2.out]; kernel_rfl))
        refine (HN2.out _).mono ?_
        rintro e w10 ⟨rfl, hb⟩
        have HB10 := Lib.hid (HB9.out.trans (hb.mono HB9.out.size))
        have HR10 := Lib.hid (row_below HR9.out hb (row_lt HR9.out))
        have HCL2 : Hid ((catK ss (k + 1)).length ≤ 300 * (k + 1)) := Lib.hid (by rw [HST.out, List.length_append]; have h1 := HCL.out; have h2 := HBIG.out; simp; omega)
        clear hb
        go_wp2_with fail
        go_roundw
        case rel => exact ⟨k + 1, _, by omega, by go_num, rfl, by rw [HST.out, HE2.out], HCL2.out, by rw [HST.out, ← HR2E.out]; exact HR10.out, HB10.out⟩
        case measure => simp [intOf]; omega
    · obtain rfl : k = ss.length := by omega
      have hpl : p.size = (catK ss ss.length).length := by rw [← hp]; simp
      have hpb : p.size ≤ 6000 := by have := HN.out; omega
      have HD := Lib.hid (fun w ht => sum_any p (by omega) w ht)
      have HE := Lib.hid (fun w => refSum_any p (by omega) w)
      have HS := Lib.hid (fun w ht => sumH_any (catK ss ss.length) (by omega) w ht)
      have hsz := hashOf_size (catK ss ss.length)
      obtain ⟨X, hX⟩ : ∃ X, X = strL (shaL p.data.toList) := ⟨_, rfl⟩
      rw [← hX] at HD HE
      rw [← hp, ← hX] at HS
      rw [← hp] at HR hsz
      have hXs : X.size = 32 := by rw [hX, strL_size, shaL_len]
      have hXI : (X.size : Int) = 32 := by omega
      obtain ⟨R, hRR⟩ : ∃ R, R = hashOf p.data.toList := ⟨_, rfl⟩
      rw [← hRR] at HR HS hsz
      have HZR := Lib.hid hsz
      clear hpl hpb hX hXs hRR hp hcl hrow hbel hsz
      go_wp2_with fail
      refine (HD.out _ (HT.out.below HB.out HT.out.pos)).mono ?_
      rintro e w2 ⟨rfl, hb⟩
      have HB2 := Lib.hid (HB.out.trans (hb.mono HB.out.size))
      have HR2 := Lib.hid (row_below HR.out hb (row_lt HR.out))
      clear hb
      go_wp2_with fail
      refine (HE.out _).mono ?_
      rintro e w3 ⟨rfl, hb⟩
      have HB3 := Lib.hid (HB2.out.trans (hb.mono HB2.out.size))
      have HR3 := Lib.hid (row_below HR2.out hb (row_lt HR2.out))
      clear hb
      go_wp2_with (refine wpList_load_row_g ?zg 27 _ rfl (w1.heap.size) rfl 27 _ (0, 0) _ (HR3.out) Tryd.underlying27 rfl ?z1 ?_; (case zg => rfl); (case z1 => rw [HZR.out]; kernel_rfl))
      refine (HS.out _ (HT.out.below HB3.out HT.out.pos)).mono ?_
      rintro e w4 ⟨rfl, hb⟩
      have HB4 := Lib.hid (HB3.out.trans (hb.mono HB3.out.size))
      clear hb
      go_wp2_with fail
      go_ret
      exact ⟨rfl, HB4.out⟩

theorem laidOut : laidOutB Tryd.prog = true := by kernel_rfl
set_option maxRecDepth 100000 in
theorem lifted (os : Os) (started : os.Started) (H : Type) (enc : TypeId × Value → H) :
    ReturnsInHanded {} Tryd.checked os 3 .any (fun w args => (Rows.digestSumsSpec.pre enc Tryd.prog Tryd.f3 [] false w args ∧ laidMetH Tryd.prog laid2 w) ∧ sizedMet enc Tryd.prog Tryd.f3 (OpenSpec.ofChange Rows.digestSumsSpec) false w args)
      (Rows.digestSumsSpec.post enc Tryd.prog Tryd.f3 false true false false) := by
  refine returnsInHanded_of_change_and (C := Tryd.checked) (X := fun w _ => laidMetH Tryd.prog laid2 w) (fun _ _ _ hh h => h.of_heap hh) own started (by kernel_rfl) Tryd.func3
    (ChangeSpec.witness_shaped (enc := enc) (C := Tryd.checked) (os := os) (X := fun w _ => laidMetH Tryd.prog laid2 w) false (World.doorLaid Tryd.prog 400 os) #[.slice none 0 0, .string ByteArray.empty] 8 rfl (World.shaped_of_RefB (by kernel_rfl) (by kernel_rfl)) (by kernel_rfl) (by kernel_rfl) (by kernel_rfl) (door_met os _)) ?_
  intro W base args ds gs before hval0 hW _ _ hL _
  have hval : ∀ (j : Nat) t v, Tryd.f3.params[j]? = some t → args[j]? = some v → Value.okWide Tryd.prog W .any base t v := hval0
  have hW' := hW
  obtain ⟨p, q, hA0, hV, rfl, hfz, hnd⟩ := hW
  have hA : DataW.TrodAll enc Tryd.prog W 0 (fun _ => true) true Tryd.f3.params.toList args.toList ds p := hA0
  rw [Tryd.params3] at hA hval
  obtain ⟨v0, vs0, d0, ds0, p0, q0, hargs, rfl, rfl, h0, r0⟩ := trodAll_cons hA
  obtain ⟨v1, vs1, d1, ds1, p1, q1, rfl, rfl, rfl, h1, r1⟩ := trodAll_cons r0
  obtain ⟨rfl, rfl, rfl⟩ := trodAll_nil r1
  obtain rfl : args = #[v0, v1] := by cases args; simp_all
  obtain ⟨rfl, rfl⟩ := trodVars_none hV
  have k0 := h0
  have lt0 : ∀ x ∈ p0, x.block < W.heap.size := by obtain ⟨m, hm⟩ := k0; exact DataW.trod_lt m _ _ _ hm
  obtain ⟨xs0, hx0⟩ := open_strs (hval 0 22 v0 rfl rfl) h0
  obtain ⟨a1, rfl, rfl, rfl, w1⟩ := open_string Tryd.underlying9 (hval 1 9 v1 rfl rfl) h1
  clear hA0 hval0
  have ht := of_laid hL
  refine (walk v0 xs0 a1 W hx0 ht).mono fun e W' ⟨he, bel⟩ => ?_
  subst he
  exact ⟨_, rfl, _, _, _, [], _, [], hW', trodAll_mk1 (shut_bool Tryd.underlying4 _), (trodAll_cons_mk (Below.trod laidOut (by kernel_rfl) (of_decide_eq_true (by kernel_rfl)) k0 bel lt0) (trodAll_cons_mk (shut_string Tryd.underlying9 w1) trodAll_mk0)), rfl, bel.frame _, fun h => by cases h⟩

theorem over : Rows.digestSumsRow.holds Tryd.pinned (OpenSpec.ofChange Rows.digestSumsSpec) :=
  OpenClaim.holds_of_wide 3 Tryd.f3 rfl rfl rfl rfl rfl rfl rfl ⟨rfl, rfl, rfl, rfl, rfl⟩ rfl rfl rfl rfl rfl (by kernel_rfl) Tryd.func3 (by kernel_rfl)
    (of_decide_eq_true (by kernel_rfl)) (by unfold Func.isWrapper; first | (rw [if_pos (by decide +kernel)]; kernel_rfl) | (rw [if_neg (by decide +kernel)]; exact ⟨rfl, rfl⟩))
    (fun os started H enc _ => lifted os started H enc)

theorem card_holds : Rows.DigestSumsCardSaid :=
  Claim7.holds_tied_plain_at .later [] [.data, .data] true (true, "8c260326cb8ce36d986a9977b984088357d89190d852a59f516cd170735cb484") false
    over (fun _ h => by cases h) (by kernel_rfl) (fun _ h => by cases h) digestSums_row_tie rfl ⟨rfl, rfl⟩ (by kernel_rfl) rfl
    (fun f fn hf hfn => by
      obtain rfl : f = 3 := Option.some.inj ((show Tryd.prog.funcNamed "acheron/acheronlaw03.DigestSums" = some 3 by kernel_rfl).symm.trans hf) |>.symm
      obtain rfl : fn = Tryd.f3 := (Option.some.inj (Tryd.func3.symm.trans hfn)).symm
      exact ⟨by kernel_rfl, fun j t ht => by
        rw [Tryd.params3] at ht
        have hm : t ∈ [22, 9] := by have := Array.mem_of_getElem? ht; simp at this ⊢; omega
        have hall : ([22, 9].all fun u => !Tryd.prog.wantsStandIn u) = true := by kernel_rfl
        exact (show Tryd.prog.wantsStandIn t = false by simpa using List.all_eq_true.1 hall t hm)⟩)
    (by kernel_rfl)
end Go.Proofs.YthhaofdnbemogaaDoor.digestSums

