/-
  wire: low, number, count.
-/
import Derived.Test.YtjjdfodjkoiedaaDoorWWrite2
import Derived.Test.YtjjdfodjkoiedaaDoorRMath
import Derived.Deep.DeepCutAuto
import Derived.Deep.RegionHeld3
set_option linter.unusedVariables false
namespace Go.Proofs.YtjjdfodjkoiedaaDoor
open Go.RowKit

theorem wrap64_byte (b : UInt8) : IntKind.u64.wrap (b.toNat : Int) = (b.toNat : Int) := by
  have := b.toNat_lt
  rw [IntKind.wrap_u64]; omega

theorem ret_tup2 {k1 k2 : IntKind} {a b c d : Int} (h : a = c) (g : b = d) : Ending.returned (.tuple #[.int k1 a, .int k2 b]) = .returned (.tuple #[.int k1 c, .int k2 d]) := by rw [h, g]

set_option maxHeartbeats 1000000 in
set_option maxRecDepth 100000 in
theorem low_read (s : ByteArray) (size : Int) (hl : s.size ≤ 1000000000) (w : World) :
    Calls Tryd.prog 73 #[.string s, .int .i64 size] w fun e w' => e = .returned (.tuple #[.int .u64 (lowS s size).1, .int .i64 (lowS s size).2]) ∧ w = w' := by
  unfold lowS
  cases hz : isSz size
  · have HZ := Lib.hid (isSize_is size false hz)
    simp only [Bool.false_eq_true, if_false]
    clear hz
    go_enter Tryd.func73, Tryd.ntmps73
    go_wp2_with fail
    refine (HZ.out _).mono ?_
    rintro e w1 ⟨rfl, rfl⟩
    go_wp2
    go_ret2
    exact ⟨rfl, rfl⟩
  · have HZ := Lib.hid (isSize_is size true hz)
    obtain ⟨z, rfl, hs⟩ := isSz_cases hz
    have hz8 : z ≤ 8 := by omega
    simp only [if_true, Int.toNat_natCast]
    clear hz hs
    by_cases hlt : (s.size : Int) < (z : Int)
    · rw [if_pos hlt]
      go_enter Tryd.func73, Tryd.ntmps73
      go_wp2_with fail
      refine (HZ.out _).mono ?_
      rintro e w1 ⟨rfl, rfl⟩
      go_wp2
      go_ret2
      exact ⟨rfl, rfl⟩
    · rw [if_neg hlt]
      go_enter Tryd.func73, Tryd.ntmps73
      go_wp2_with fail
      refine (HZ.out _).mono ?_
      rintro e w1 ⟨rfl, rfl⟩
      go_wp2
      go_loop [6, 18] (fun u i => ∃ k : Nat, k ≤ z ∧ i = .int .i64 k ∧ u = .int .u64 (leV s k)) (fun _ i => z - (intOf i).toNat)
      case atStart => exact ⟨0, Nat.zero_le _, rfl, rfl⟩
      case round =>
        obtain ⟨k, hk, rfl, rfl⟩ := hrel
        by_cases hkz : k < z
        · have hks : k < s.size := by omega
          have HB := Lib.hid (bt_in s k hks)
          have HR := Lib.hid (le_round s k (by omega))
          go_wp2
          go_round
          case rel => exact ⟨k + 1, by omega, by go_num, by rw [← HR.out, HB.out, wrap64_byte]⟩
          case measure => simp [intOf]; omega
        · obtain rfl : k = z := by omega
          go_wp2
          go_ret2
          exact ⟨rfl, rfl⟩

theorem str_ne (s : ByteArray) (h : 0 < s.size) : s.toList.isEmpty = false := by
  rw [← decide_eq_emptyBytes, decide_eq_false_iff_not]
  intro e
  subst e
  exact absurd h (by decide)
theorem str_eq (s : ByteArray) (h : s.size = 0) : s.toList.isEmpty = true := by
  rw [← decide_eq_emptyBytes, decide_eq_true_eq]
  apply ByteArray.ext
  exact Array.eq_empty_of_size_eq_zero h

theorem formC_eq (c : Int) : ∃ mk mm, formC c = formV (szC c : Nat) (bitC c : Nat) mk mm := by
  unfold formC szC bitC
  repeat' split
  all_goals exact ⟨_, _, rfl⟩

theorem shapeFrom_ok (n : Nat) (h : n ≤ 224) (w : World) (ht : Tab w) :
    Calls Tryd.prog 84 #[.int .u8 (n : Int)] w fun e w' => e = .returned (.tuple #[formC n, .bool true]) ∧ Below w.heap.size w w' :=
  shapeFrom_core n _ true (by omega) w ht (by rw [decide_eq_true h]) (by rw [if_pos h])
theorem shapeFrom_no (n : Nat) (h : 224 < n) (h2 : n < 256) (w : World) (ht : Tab w) :
    Calls Tryd.prog 84 #[.int .u8 (n : Int)] w fun e w' => e = .returned (.tuple #[formV 0 0 0 0, .bool false]) ∧ Below w.heap.size w w' :=
  shapeFrom_core n _ false h2 w ht (by rw [decide_eq_false (by omega)]) (by rw [if_neg (by omega)])

theorem below_drewN {B : Nat} {a w : World} (h : Below B a w) (n : Nat) : Below B a (w.drewN n) := ⟨h.os, h.tape, h.output, h.size, h.block⟩

def R3 (r : Int × Int × Int) : Ending := .returned (.tuple #[.int .i64 r.1, .int .i64 r.2.1, .int .i64 r.2.2])

set_option maxHeartbeats 2000000 in
set_option maxRecDepth 100000 in
theorem number_short (s : ByteArray) (Z bb : Nat) (mk mm : Int) (hl : s.size ≤ 1000000000) (h0 : 0 < s.size) (hZ : 1 ≤ Z ∧ Z ≤ 9) (hb : 1 ≤ bb ∧ bb ≤ 64) (w : World) (ht : Tab w)
    (hf : Calls Tryd.prog 84 #[.int .u8 (s[0].toNat : Int)] w fun e w' => e = .returned (.tuple #[formV (Z : Nat) (bb : Nat) mk mm, .bool true]) ∧ Below w.heap.size w w') (hsh : s.size < Z) :
    Calls Tryd.prog 68 #[.string s] w fun e w' => e = R3 (0, 0, 16) ∧ Below w.heap.size w w' := by
  have hne := str_ne s h0
  unfold formV at hf
  have HF := Lib.hid hf
  clear hf
  have hshI : (s.size : Int) < (Z : Int) := by omega
  go_enter Tryd.func68, Tryd.ntmps68
  go_wp2_with fail
  refine HF.out.mono ?_
  rintro e w1 ⟨rfl, hb1⟩
  have hbel : Below w.heap.size w (w1.alloc (.cells #[.int .i64 Z, .int .i64 bb, .int .u8 mk, .int .u8 mm] 96)) := below_al hb1
  have HBEL := Lib.hid hbel
  clear hbel hb1
  go_wp2
  refine bodyPost_ret (v := .tuple #[.int .i64 0, .int .i64 0, .int .i64 16]) (by simp [results, Tryd.results68, go_sem]) rfl ⟨rfl, HBEL.out⟩

set_option maxHeartbeats 2000000 in
set_option maxRecDepth 100000 in
theorem number_good (s : ByteArray) (Z bb : Nat) (mk mm : Int) (hl : s.size ≤ 1000000000) (h0 : 0 < s.size) (hZ : 1 ≤ Z ∧ Z ≤ 9) (hb : 1 ≤ bb ∧ bb ≤ 64) (w : World) (ht : Tab w)
    (hf : Calls Tryd.prog 84 #[.int .u8 (s[0].toNat : Int)] w fun e w' => e = .returned (.tuple #[formV (Z : Nat) (bb : Nat) mk mm, .bool true]) ∧ Below w.heap.size w w') (hsh : ¬ s.size < Z) (hz : szN (sgn (beV s Z) bb) = Z) :
    Calls Tryd.prog 68 #[.string s] w fun e w' => e = R3 (sgn (beV s Z) bb, Z, 0) ∧ Below w.heap.size w w' := by
  have hne := str_ne s h0
  unfold formV at hf
  have HF := Lib.hid hf
  clear hf
  have hshI : ¬ (s.size : Int) < (Z : Int) := by omega
  have hsg := fun w => signed_any (beV s Z % 18446744073709551616) (bb : Int) (by omega) (by omega) w
  rw [Int.toNat_natCast, sgn_congr (mod_mod_pow (beV s Z) bb hb.2)] at hsg
  have hsz := fun w ht => size_any (sgn (beV s Z) bb) w ht
  rw [hz] at hsz
  have HSG := Lib.hid hsg
  have HSZ := Lib.hid hsz
  have HBT := Lib.hid (fun k h => bt_in s k h)
  have HBE := Lib.hid (be_round s)
  clear hsg hsz hz
  go_enter Tryd.func68, Tryd.ntmps68
  go_wp2_with fail
  refine HF.out.mono ?_
  rintro e w1 ⟨rfl, hb1⟩
  have hbel : Below w.heap.size w (w1.alloc (.cells #[.int .i64 Z, .int .i64 bb, .int .u8 mk, .int .u8 mm] 96)) := below_al hb1
  have m0 : (w1.alloc (.cells #[.int .i64 Z, .int .i64 bb, .int .u8 mk, .int .u8 mm] 96)).cell? ⟨w1.heap.size, 0, none⟩ = some (.int .i64 Z) := by rw [World.cell?_alloc_at _ _ _ _ rfl]; rfl
  have m1 : (w1.alloc (.cells #[.int .i64 Z, .int .i64 bb, .int .u8 mk, .int .u8 mm] 96)).cell? ⟨w1.heap.size, 1, none⟩ = some (.int .i64 bb) := by rw [World.cell?_alloc_at _ _ _ _ rfl]; rfl
  have htb : Tab (w1.alloc (.cells #[.int .i64 Z, .int .i64 bb, .int .u8 mk, .int .u8 mm] 96)) := ht.below hbel ht.pos
  have hlt : w1.heap.size < (w1.alloc (.cells #[.int .i64 Z, .int .i64 bb, .int .u8 mk, .int .u8 mm] 96)).heap.size := by simp
  clear hb1 ht
  go_upto_region 8 with fail
  generalize w1.alloc (.cells #[.int .i64 Z, .int .i64 bb, .int .u8 mk, .int .u8 mm] 96) = W at *
  generalize w1.heap.size = b5 at *
  have HBEL := Lib.hid hbel
  have HTB := Lib.hid htb
  have HLT := Lib.hid hlt
  clear hbel htb hlt
  go_wp2
  go_loop [7, 29] (fun u i => ∃ k : Nat, k ≤ Z ∧ i = .int .i64 k ∧ u = .int .u64 (beV s k % 18446744073709551616)) (fun _ i => Z - (intOf i).toNat)
  case atStart => exact ⟨0, Nat.zero_le _, rfl, rfl⟩
  case round =>
    obtain ⟨k, hk, rfl, rfl⟩ := hrel
    by_cases hkz : k < Z
    · have hks : k < s.size := by omega
      go_wp2
      go_round
      case rel => exact ⟨k + 1, by omega, by go_num, by rw [← HBE.out, HBT.out k hks, wrap64_byte]⟩
      case measure => simp [intOf]; omega
    · obtain rfl : k = Z := by omega
      go_wp2_with fail
      refine (HSG.out _).mono ?_
      rintro e w2 ⟨rfl, rfl⟩
      go_wp2_with fail
      have HM0 := Lib.hid m0
      go_region_held3 (fun w' => w'.cell? ⟨b5, 0, none⟩ = some (.int .i64 (k : Int)))
        (first | go_keep | exact (hb3.cell (p := ⟨b5, 0, none⟩) HLT.out).trans HM0.out)
        ((go_at_call 28; refine (HSZ.out _ (by exact HTB.out)).mono ?_; rintro e w3 ⟨rfl, hb3⟩))
      have m3 := (hb3.cell (p := ⟨b5, 0, none⟩) HLT.out).trans HM0.out
      have HB := Lib.hid ((HBEL.out.drew).trans (hb3.mono (show w.heap.size ≤ _ from HBEL.out.size)))
      clear m0 m1 hb3
      go_wp2_with fail
      go_quiet (fail)
      go_wp2
      go_ret3
      exact ⟨rfl, below_drewN HB.out _⟩
set_option maxHeartbeats 2000000 in
set_option maxRecDepth 100000 in
theorem number_bad (s : ByteArray) (Z bb : Nat) (mk mm : Int) (hl : s.size ≤ 1000000000) (h0 : 0 < s.size) (hZ : 1 ≤ Z ∧ Z ≤ 9) (hb : 1 ≤ bb ∧ bb ≤ 64) (w : World) (ht : Tab w)
    (hf : Calls Tryd.prog 84 #[.int .u8 (s[0].toNat : Int)] w fun e w' => e = .returned (.tuple #[formV (Z : Nat) (bb : Nat) mk mm, .bool true]) ∧ Below w.heap.size w w') (hsh : ¬ s.size < Z) (hz : szN (sgn (beV s Z) bb) ≠ Z) :
    Calls Tryd.prog 68 #[.string s] w fun e w' => e = R3 (0, 0, 2) ∧ Below w.heap.size w w' := by
  have hne := str_ne s h0
  unfold formV at hf
  have HF := Lib.hid hf
  clear hf
  have hshI : ¬ (s.size : Int) < (Z : Int) := by omega
  have hsg := fun w => signed_any (beV s Z % 18446744073709551616) (bb : Int) (by omega) (by omega) w
  rw [Int.toNat_natCast, sgn_congr (mod_mod_pow (beV s Z) bb hb.2)] at hsg
  have hsz := fun w ht => size_any (sgn (beV s Z) bb) w ht
  have hq : (szN (sgn (beV s Z) bb) != (Z : Int)) = true := by rw [bne_iff_ne]; exact hz
  generalize szN (sgn (beV s Z) bb) = zz at hsz hq
  have HSG := Lib.hid hsg
  have HSZ := Lib.hid hsz
  have HBT := Lib.hid (fun k h => bt_in s k h)
  have HBE := Lib.hid (be_round s)
  clear hsg hsz hz
  go_enter Tryd.func68, Tryd.ntmps68
  go_wp2_with fail
  refine HF.out.mono ?_
  rintro e w1 ⟨rfl, hb1⟩
  have hbel : Below w.heap.size w (w1.alloc (.cells #[.int .i64 Z, .int .i64 bb, .int .u8 mk, .int .u8 mm] 96)) := below_al hb1
  have m0 : (w1.alloc (.cells #[.int .i64 Z, .int .i64 bb, .int .u8 mk, .int .u8 mm] 96)).cell? ⟨w1.heap.size, 0, none⟩ = some (.int .i64 Z) := by rw [World.cell?_alloc_at _ _ _ _ rfl]; rfl
  have m1 : (w1.alloc (.cells #[.int .i64 Z, .int .i64 bb, .int .u8 mk, .int .u8 mm] 96)).cell? ⟨w1.heap.size, 1, none⟩ = some (.int .i64 bb) := by rw [World.cell?_alloc_at _ _ _ _ rfl]; rfl
  have htb : Tab (w1.alloc (.cells #[.int .i64 Z, .int .i64 bb, .int .u8 mk, .int .u8 mm] 96)) := ht.below hbel ht.pos
  have hlt : w1.heap.size < (w1.alloc (.cells #[.int .i64 Z, .int .i64 bb, .int .u8 mk, .int .u8 mm] 96)).heap.size := by simp
  clear hb1 ht
  go_upto_region 8 with fail
  generalize w1.alloc (.cells #[.int .i64 Z, .int .i64 bb, .int .u8 mk, .int .u8 mm] 96) = W at *
  generalize w1.heap.size = b5 at *
  have HBEL := Lib.hid hbel
  have HTB := Lib.hid htb
  have HLT := Lib.hid hlt
  clear hbel htb hlt
  go_wp2
  go_loop [7, 29] (fun u i => ∃ k : Nat, k ≤ Z ∧ i = .int .i64 k ∧ u = .int .u64 (beV s k % 18446744073709551616)) (fun _ i => Z - (intOf i).toNat)
  case atStart => exact ⟨0, Nat.zero_le _, rfl, rfl⟩
  case round =>
    obtain ⟨k, hk, rfl, rfl⟩ := hrel
    by_cases hkz : k < Z
    · have hks : k < s.size := by omega
      go_wp2
      go_round
      case rel => exact ⟨k + 1, by omega, by go_num, by rw [← HBE.out, HBT.out k hks, wrap64_byte]⟩
      case measure => simp [intOf]; omega
    · obtain rfl : k = Z := by omega
      go_wp2_with fail
      refine (HSG.out _).mono ?_
      rintro e w2 ⟨rfl, rfl⟩
      go_wp2_with fail
      have HM0 := Lib.hid m0
      go_region_held3 (fun w' => w'.cell? ⟨b5, 0, none⟩ = some (.int .i64 (k : Int)))
        (first | go_keep | exact (hb3.cell (p := ⟨b5, 0, none⟩) HLT.out).trans HM0.out)
        ((go_at_call 28; refine (HSZ.out _ (by exact HTB.out)).mono ?_; rintro e w3 ⟨rfl, hb3⟩))
      have m3 := (hb3.cell (p := ⟨b5, 0, none⟩) HLT.out).trans HM0.out
      have HB := Lib.hid ((HBEL.out.drew).trans (hb3.mono (show w.heap.size ≤ _ from HBEL.out.size)))
      clear m0 m1 hb3
      go_wp2
      go_ret3
      exact ⟨rfl, HB.out⟩

theorem number_read (s : ByteArray) (hl : s.size ≤ 1000000000) (w : World) (ht : Tab w) :
    Calls Tryd.prog 68 #[.string s] w fun e w' => e = R3 (numR s) ∧ Below w.heap.size w w' := by
  unfold numR
  by_cases h0 : s.size = 0
  · rw [if_pos h0]
    have hne := str_eq s h0
    clear h0
    go_enter Tryd.func68, Tryd.ntmps68
    go_wp2
    go_ret3
    exact ⟨rfl, Below.refl _ _⟩
  rw [if_neg h0]
  have h0' : 0 < s.size := by omega
  have hbt := bt_in s 0 h0'
  have hbb := bt_bd s 0
  by_cases hc : 224 < bt s 0
  · rw [if_pos hc]
    have hf := shapeFrom_no s[0].toNat (by omega) (by omega) w ht
    have hne := str_ne s h0'
    unfold formV at hf
    have HF := Lib.hid hf
    clear hf hc hbt hbb ht
    go_enter Tryd.func68, Tryd.ntmps68
    go_wp2_with fail
    refine HF.out.mono ?_
    rintro e w1 ⟨rfl, hb1⟩
    have HB := Lib.hid (below_al (o := .cells #[.int .i64 0, .int .i64 0, .int .u8 0, .int .u8 0] 96) hb1)
    clear hb1
    go_wp2
    go_ret3
    exact ⟨rfl, HB.out⟩
  · rw [if_neg hc]
    have hf := shapeFrom_ok s[0].toNat (by omega) w ht
    obtain ⟨mk, mm, hfc⟩ := formC_eq (s[0].toNat : Int)
    rw [hfc, ← hbt] at hf
    have hZ := szC_bd (bt s 0)
    have hb := bitC_bd (bt s 0)
    generalize szC (bt s 0) = Z at *
    generalize bitC (bt s 0) = bb at *
    rw [hbt] at hf
    by_cases h1 : s.size < Z
    · rw [if_pos h1]; exact number_short s Z bb mk mm hl h0' hZ hb w ht hf h1
    rw [if_neg h1]
    by_cases h2 : szN (sgn (beV s Z) bb) = Z
    · rw [if_pos h2]; exact number_good s Z bb mk mm hl h0' hZ hb w ht hf h1 h2
    · rw [if_neg h2]; exact number_bad s Z bb mk mm hl h0' hZ hb w ht hf h1 h2

set_option maxHeartbeats 1000000 in
set_option maxRecDepth 100000 in
theorem count_read (s : ByteArray) (most : Int) (hl : s.size ≤ 1000000000) (w : World) (ht : Tab w) :
    Calls Tryd.prog 77 #[.string s, .int .i64 most] w fun e w' => e = R3 (cntR s most) ∧ Below w.heap.size w w' := by
  have hn := number_read s hl w ht
  unfold cntR
  generalize numR s = r at *
  obtain ⟨v, n, x⟩ := r
  unfold R3 at *
  have HN := Lib.hid hn
  clear hn
  simp only
  by_cases hx : x = 0
  · subst hx
    rw [if_pos rfl]
    by_cases h1 : v < 0
    · rw [if_pos h1]
      go_enter Tryd.func77, Tryd.ntmps77
      go_wp2_with fail
      refine HN.out.mono ?_
      rintro e w1 ⟨rfl, hb⟩
      go_wp2
      go_ret3
      exact ⟨rfl, hb⟩
    rw [if_neg h1]
    by_cases h2 : most < v
    · rw [if_pos h2]
      go_enter Tryd.func77, Tryd.ntmps77
      go_wp2_with fail
      refine HN.out.mono ?_
      rintro e w1 ⟨rfl, hb⟩
      go_wp2
      go_ret3
      exact ⟨rfl, hb⟩
    · rw [if_neg h2]
      go_enter Tryd.func77, Tryd.ntmps77
      go_wp2_with fail
      refine HN.out.mono ?_
      rintro e w1 ⟨rfl, hb⟩
      go_wp2
      go_ret3
      exact ⟨rfl, hb⟩
  · rw [if_neg hx]
    have hxb : (x != 0) = true := by rw [bne_iff_ne]; exact hx
    go_enter Tryd.func77, Tryd.ntmps77
    go_wp2_with fail
    refine HN.out.mono ?_
    rintro e w1 ⟨rfl, hb⟩
    go_wp2
    go_ret3
    exact ⟨rfl, hb⟩
end Go.Proofs.YtjjdfodjkoiedaaDoor
