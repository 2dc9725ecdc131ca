/-
  The reference's readers: ReadNumber. Written by gen_rr3.py.
-/
import Derived.Test.YtjjdfodjkoiedaaDoorRr1
import Derived.Test.YtjjdfodjkoiedaaDoorRefW2
set_option linter.unusedVariables false
namespace Go.Proofs.YtjjdfodjkoiedaaDoor
open Go.RowKit

theorem numR_cases (s : ByteArray) (Z b : Nat) (h0 : 0 < s.size) (hc : bt s 0 ≤ 224) (hz : szC (bt s 0) = Z) (hb : bitC (bt s 0) = b) :
    numR s = if s.size < Z then (0, 0, 16) else if szN (sgn (beV s Z) b) = Z then (sgn (beV s Z) b, (Z : Int), 0) else (0, 0, 2) := by
  unfold numR
  rw [if_neg (by omega), if_neg (by omega), hz, hb]

theorem bt_rest0 (S : ByteArray) (i : Nat) (h : i < S.size) : bt (rest S i) 0 = (S[i].toNat : Int) := by
  have h2 : 0 < (rest S i).size := by rw [rest_size]; omega
  rw [bt_in _ 0 h2]
  have e2 : (rest S i)[0]'h2 = S[i] := by simp [rest, ByteArray.getElem_extract]
  rw [e2]

theorem shift_eq (v : Int) (b : Nat) (m : Int) (hb : 0 < b) (hb2 : b ≤ 64) (hm : m = 2 ^ (64 - b)) : wrap64 (IntKind.u64.wrap (v % 18446744073709551616 * m)) / m = sgn v b := by
  subst hm
  rw [← sgn_congr (mod_mod_pow v b hb2)]
  refine sgn_shift _ b hb hb2 _ ?_ ?_ ?_
  · rw [IntKind.wrap_u64]; unfold wrap64; omega
  · unfold wrap64; omega
  · unfold wrap64; omega


set_option maxHeartbeats 4000000 in
set_option maxRecDepth 100000 in
theorem num_1 (S : ByteArray) (i0 : Nat) (hS : S.size ≤ 1000000000) (hi : i0 < S.size) (h1 : bt (rest S i0) 0 < 128) (w : World) :
    Calls Tryd.prog 50 #[rdr S i0 0] w (RR w S i0 0 (.int .i64 0) (.int .i64 (numR (rest S i0)).1) (numR (rest S i0)).2.1 (numR (rest S i0)).2.2) := by
  have hsz := rest_size S i0
  have hb0 := bt_bd (rest S i0) 0
  have hn := numR_cases (rest S i0) 1 7 (by omega) (by omega) (by unfold szC; rw [if_pos (by omega)]) (by unfold bitC; rw [if_pos (by omega)])
  have hbr := bt_rest0 S i0 hi
  rw [hbr] at h1 hb0
  have d1 : decide ((224 : Int) ≤ (S[i0].toNat : Int)) = false := decide_eq_false (by omega)
  have d2 : decide ((192 : Int) ≤ (S[i0].toNat : Int)) = false := decide_eq_false (by omega)
  have d3 : decide ((128 : Int) ≤ (S[i0].toNat : Int)) = false := decide_eq_false (by omega)
  have d4 : decide ((224 : Int) < (S[i0].toNat : Int)) = false := decide_eq_false (by omega)
  rw [hn]
  clear hn
  have hI0 : (0 : Int) ≤ (i0 : Int) := by omega
  have hI1 : (i0 : Int) < (S.size : Int) := by omega
  have hI2 : (S.size : Int) ≤ 1000000000 := by omega
  by_cases hlt : (rest S i0).size < 1
  · omega
  · rw [if_neg hlt]
    have hin : i0 + 1 ≤ S.size := by omega
    have hv := fun k h => beV_ext S i0 1 k h hin
    have hes := ext_size S i0 1 hin
    have hs := fun w => take_ok S i0 1 0 hS hin w
    have HBT := Lib.hid (fun k h => bt_in (S.extract i0 (i0 + 1)) k h)
    have HBE := Lib.hid (be_round (S.extract i0 (i0 + 1)))
    have hst := fun w => stop_any S i0 0 2 w
    have hss := fun w => rSize_any (sgn (beV (rest S i0) 1) 7) w
    have hE : wrap64 (IntKind.u64.wrap (beV (rest S i0) 1 % 18446744073709551616 * 144115188075855872)) / 144115188075855872 = sgn (beV (rest S i0) 1) 7 := shift_eq _ 7 144115188075855872 (by omega) (by omega) (by decide)
    rw [← hE] at hss
    unfold rdr at hs hst
    have HS := Lib.hid hs
    have HST := Lib.hid hst
    have HV := Lib.hid hv
    have HES := Lib.hid hes
    rw [← hE]
    clear hs hst hv hes hlt hsz hbr hin hE
    by_cases hz : szN (wrap64 (IntKind.u64.wrap (beV (rest S i0) 1 % 18446744073709551616 * 144115188075855872)) / 144115188075855872) = ((1 : Nat) : Int)
    · rw [if_pos hz]
      rw [hz] at hss
      have HSS := Lib.hid hss
      have HG : Hid (∀ w1, Below w.heap.size w w1 → RR w S i0 0 (.int .i64 0) (.int .i64 (wrap64 (IntKind.u64.wrap (beV (rest S i0) 1 % 18446744073709551616 * 144115188075855872)) / 144115188075855872)) ((1 : Nat) : Int) 0 (.returned (.tuple #[.int .i64 (wrap64 (IntKind.u64.wrap (beV (rest S i0) 1 % 18446744073709551616 * 144115188075855872)) / 144115188075855872), .agg #[.string S, .int .i64 ((i0 : Int) + 1), .int .i64 0]])) w1) := fun w1 hb => ⟨by simp [rdN, rdr], hb⟩
      clear hz hss
      simp only []
      unfold rdr
      go_enter Tryd.func50, Tryd.ntmps50
      go_wp2_with fail
      refine (HS.out _).mono ?_
      rintro en w1 ⟨rfl, hb⟩
      obtain ⟨⟨p0, p1, p2⟩, ⟨⟨a0, a1, a2⟩, ⟨g0, g1, g2⟩⟩, hlt, hbel⟩ := w0_facts (S := S) (i := i0) (e := 0) hb
      obtain ⟨z0, z1, z2⟩ := res_alloc (.cells #[.string S, .int .i64 ((i0 : Int) + 1), .int .i64 0] 40) (.string S) (.int .i64 ((i0 : Int) + 1)) (.int .i64 0) (h := (w0_facts (S := S) (i := i0) (e := 0) hb).2.1)
      have hlt0 : w.heap.size < w1.heap.size := by omega
      have HB := Lib.hid hb
      have HBEL := Lib.hid hbel
      clear hbel hb
      go_wp2
      go_loopw [9, 10] (fun u i wr => wr = w1.alloc (.cells #[.string S, .int .i64 ((i0 : Int) + 1), .int .i64 0] 40) ∧ ∃ k : Nat, k ≤ 1 ∧ i = .int .i64 k ∧ u = .int .u64 (beV (S.extract i0 (i0 + 1)) k % 18446744073709551616)) (fun _ i _ => 1 - (intOf i).toNat)
      case atStart => exact ⟨rfl, 0, by omega, rfl, rfl⟩
      case round =>
        obtain ⟨hwr, k, hk, rfl, rfl⟩ := hrel
        subst hwr
        by_cases hk1 : k < 1
        · have hks : k < (S.extract i0 (i0 + 1)).size := by rw [HES.out]; exact hk1
          have HBK := Lib.hid (HBT.out k hks)
          have HR := Lib.hid (HBE.out k)
          have hes := HES.out
          go_wp2
          go_roundw
          case rel => exact ⟨by trivial, k + 1, by omega, by go_num, by rw [← HR.out, HBK.out, wrap64_byte]⟩
          case measure => simp [intOf]; omega
        · obtain rfl : k = 1 := by omega
          have hes := HES.out
          have hvv := HV.out 1 (Nat.le_refl _)
          rw [hvv]
          go_wp2_with fail
          refine (HSS.out _).mono ?_
          rintro en w2 ⟨rfl, rfl⟩
          go_wp2_with fail
          go_region
          all_goals
            go_wp2
            refine bodyPost_ret (v := .tuple #[.int .i64 (wrap64 (IntKind.u64.wrap (beV (rest S i0) 1 % 18446744073709551616 * 144115188075855872)) / 144115188075855872), .agg #[.string S, .int .i64 ((i0 : Int) + 1), .int .i64 0]]) (by simp [results, Tryd.results50, go_sem, z0, z1, z2]) rfl ?_
            exact HG.out _ (below_al (three_cells HBEL.out _ (by omega) _ _ _)).drew
    · rw [if_neg hz]
      have hq : (szN (wrap64 (IntKind.u64.wrap (beV (rest S i0) 1 % 18446744073709551616 * 144115188075855872)) / 144115188075855872) != (1 : Int)) = true := by rw [bne_iff_ne]; exact hz
      generalize szN (wrap64 (IntKind.u64.wrap (beV (rest S i0) 1 % 18446744073709551616 * 144115188075855872)) / 144115188075855872) = zz at hss hq
      have HSS := Lib.hid hss
      have HG : Hid (∀ w1, Below w.heap.size w w1 → RR w S i0 0 (.int .i64 0) (.int .i64 0) 0 2 (.returned (.tuple #[.int .i64 0, .agg #[.string S, .int .i64 (i0 : Int), .int .i64 2]])) w1) := fun w1 hb => ⟨by simp [rdN, rdr], hb⟩
      clear hz hss
      simp only []
      unfold rdr
      go_enter Tryd.func50, Tryd.ntmps50
      go_wp2_with fail
      refine (HS.out _).mono ?_
      rintro en w1 ⟨rfl, hb⟩
      obtain ⟨⟨p0, p1, p2⟩, ⟨⟨a0, a1, a2⟩, ⟨g0, g1, g2⟩⟩, hlt, hbel⟩ := w0_facts (S := S) (i := i0) (e := 0) hb
      obtain ⟨z0, z1, z2⟩ := res_alloc (.cells #[.string S, .int .i64 ((i0 : Int) + 1), .int .i64 0] 40) (.string S) (.int .i64 ((i0 : Int) + 1)) (.int .i64 0) (h := (w0_facts (S := S) (i := i0) (e := 0) hb).2.1)
      have hlt0 : w.heap.size < w1.heap.size := by omega
      have HB := Lib.hid hb
      have HBEL := Lib.hid hbel
      clear hbel hb
      go_wp2
      go_loopw [9, 10] (fun u i wr => wr = w1.alloc (.cells #[.string S, .int .i64 ((i0 : Int) + 1), .int .i64 0] 40) ∧ ∃ k : Nat, k ≤ 1 ∧ i = .int .i64 k ∧ u = .int .u64 (beV (S.extract i0 (i0 + 1)) k % 18446744073709551616)) (fun _ i _ => 1 - (intOf i).toNat)
      case atStart => exact ⟨rfl, 0, by omega, rfl, rfl⟩
      case round =>
        obtain ⟨hwr, k, hk, rfl, rfl⟩ := hrel
        subst hwr
        by_cases hk1 : k < 1
        · have hks : k < (S.extract i0 (i0 + 1)).size := by rw [HES.out]; exact hk1
          have HBK := Lib.hid (HBT.out k hks)
          have HR := Lib.hid (HBE.out k)
          have hes := HES.out
          go_wp2
          go_roundw
          case rel => exact ⟨by trivial, k + 1, by omega, by go_num, by rw [← HR.out, HBK.out, wrap64_byte]⟩
          case measure => simp [intOf]; omega
        · obtain rfl : k = 1 := by omega
          have hes := HES.out
          have hvv := HV.out 1 (Nat.le_refl _)
          rw [hvv]
          go_wp2_with fail
          refine (HSS.out _).mono ?_
          rintro en w2 ⟨rfl, rfl⟩
          go_wp2_with fail
          refine (HST.out _).mono ?_
          rintro en w3 ⟨rfl, hb⟩
          have hb3 := w0_chain HB.out hb
          obtain ⟨_, ⟨⟨b0, b1, b2⟩, ⟨f0, f1, f2⟩⟩, hlt3, hbel3⟩ := w0_facts (S := S) (i := i0) (e := 0) hb3
          have HB3 := Lib.hid hbel3
          clear hb hb3 hbel3 a0 a1 a2 g0 g1 g2 p0 p1 p2
          go_wp2
          refine bodyPost_ret (v := .tuple #[.int .i64 0, .agg #[.string S, .int .i64 (i0 : Int), .int .i64 2]]) (by simp [results, Tryd.results50, go_sem, b0, b1, b2]) rfl ?_
          exact HG.out _ (three_cells HB3.out _ (by omega) _ _ _)

set_option maxHeartbeats 4000000 in
set_option maxRecDepth 100000 in
theorem num_2 (S : ByteArray) (i0 : Nat) (hS : S.size ≤ 1000000000) (hi : i0 < S.size) (h0 : 128 ≤ bt (rest S i0) 0) (h1 : bt (rest S i0) 0 < 192) (w : World) :
    Calls Tryd.prog 50 #[rdr S i0 0] w (RR w S i0 0 (.int .i64 0) (.int .i64 (numR (rest S i0)).1) (numR (rest S i0)).2.1 (numR (rest S i0)).2.2) := by
  have hsz := rest_size S i0
  have hb0 := bt_bd (rest S i0) 0
  have hn := numR_cases (rest S i0) 2 14 (by omega) (by omega) (by unfold szC; rw [if_neg (by omega), if_pos (by omega)]) (by unfold bitC; rw [if_neg (by omega), if_pos (by omega)])
  have hbr := bt_rest0 S i0 hi
  rw [hbr] at h0 h1 hb0
  have d1 : decide ((224 : Int) ≤ (S[i0].toNat : Int)) = false := decide_eq_false (by omega)
  have d2 : decide ((192 : Int) ≤ (S[i0].toNat : Int)) = false := decide_eq_false (by omega)
  have d3 : decide ((128 : Int) ≤ (S[i0].toNat : Int)) = true := decide_eq_true (by omega)
  have d4 : decide ((224 : Int) < (S[i0].toNat : Int)) = false := decide_eq_false (by omega)
  rw [hn]
  clear hn
  have hI0 : (0 : Int) ≤ (i0 : Int) := by omega
  have hI1 : (i0 : Int) < (S.size : Int) := by omega
  have hI2 : (S.size : Int) ≤ 1000000000 := by omega
  by_cases hlt : (rest S i0).size < 2
  · rw [if_pos hlt]
    have hs := fun w => take_no S i0 0 ((2 : Nat) : Int) hS (by omega) (by omega) w
    unfold rdr at hs
    have HS := Lib.hid hs
    have HG : Hid (∀ w1, Below w.heap.size w w1 → RR w S i0 0 (.int .i64 0) (.int .i64 0) 0 16 (.returned (.tuple #[.int .i64 0, .agg #[.string S, .int .i64 (i0 : Int), .int .i64 16]])) w1) := fun w1 hb => ⟨by simp [rdN, rdr], hb⟩
    clear hs hsz hlt hbr
    unfold rdr
    go_enter Tryd.func50, Tryd.ntmps50
    go_wp2_with fail
    refine (HS.out _).mono ?_
    rintro en w1 ⟨rfl, hb⟩
    obtain ⟨_, ⟨⟨a0, a1, a2⟩, ⟨g0, g1, g2⟩⟩, hlt, hbel⟩ := w0_facts (S := S) (i := i0) (e := 0) hb
    have HB := Lib.hid hbel
    obtain ⟨z0, z1, z2⟩ := res_alloc (.cells #[.string S, .int .i64 (i0 : Int), .int .i64 16] 40) (.string S) (.int .i64 (i0 : Int)) (.int .i64 16) (h := (w0_facts (S := S) (i := i0) (e := 0) hb).2.1)
    clear hb hbel
    go_wp2_with fail
    go_region
    all_goals
      go_wp2
      refine bodyPost_ret (v := .tuple #[.int .i64 0, .agg #[.string S, .int .i64 (i0 : Int), .int .i64 16]]) (by simp [results, Tryd.results50, go_sem, z0, z1, z2]) rfl ?_
      exact HG.out _ (below_al (three_cells HB.out _ (by omega) _ _ _)).drew
  · rw [if_neg hlt]
    have hin : i0 + 2 ≤ S.size := by omega
    have hv := fun k h => beV_ext S i0 2 k h hin
    have hes := ext_size S i0 2 hin
    have hs := fun w => take_ok S i0 2 0 hS hin w
    have HBT := Lib.hid (fun k h => bt_in (S.extract i0 (i0 + 2)) k h)
    have HBE := Lib.hid (be_round (S.extract i0 (i0 + 2)))
    have hst := fun w => stop_any S i0 0 2 w
    have hss := fun w => rSize_any (sgn (beV (rest S i0) 2) 14) w
    have hE : wrap64 (IntKind.u64.wrap (beV (rest S i0) 2 % 18446744073709551616 * 1125899906842624)) / 1125899906842624 = sgn (beV (rest S i0) 2) 14 := shift_eq _ 14 1125899906842624 (by omega) (by omega) (by decide)
    rw [← hE] at hss
    unfold rdr at hs hst
    have HS := Lib.hid hs
    have HST := Lib.hid hst
    have HV := Lib.hid hv
    have HES := Lib.hid hes
    rw [← hE]
    clear hs hst hv hes hlt hsz hbr hin hE
    by_cases hz : szN (wrap64 (IntKind.u64.wrap (beV (rest S i0) 2 % 18446744073709551616 * 1125899906842624)) / 1125899906842624) = ((2 : Nat) : Int)
    · rw [if_pos hz]
      rw [hz] at hss
      have HSS := Lib.hid hss
      have HG : Hid (∀ w1, Below w.heap.size w w1 → RR w S i0 0 (.int .i64 0) (.int .i64 (wrap64 (IntKind.u64.wrap (beV (rest S i0) 2 % 18446744073709551616 * 1125899906842624)) / 1125899906842624)) ((2 : Nat) : Int) 0 (.returned (.tuple #[.int .i64 (wrap64 (IntKind.u64.wrap (beV (rest S i0) 2 % 18446744073709551616 * 1125899906842624)) / 1125899906842624), .agg #[.string S, .int .i64 ((i0 : Int) + 2), .int .i64 0]])) w1) := fun w1 hb => ⟨by simp [rdN, rdr], hb⟩
      clear hz hss
      simp only []
      unfold rdr
      go_enter Tryd.func50, Tryd.ntmps50
      go_wp2_with fail
      refine (HS.out _).mono ?_
      rintro en w1 ⟨rfl, hb⟩
      obtain ⟨⟨p0, p1, p2⟩, ⟨⟨a0, a1, a2⟩, ⟨g0, g1, g2⟩⟩, hlt, hbel⟩ := w0_facts (S := S) (i := i0) (e := 0) hb
      obtain ⟨z0, z1, z2⟩ := res_alloc (.cells #[.string S, .int .i64 ((i0 : Int) + 2), .int .i64 0] 40) (.string S) (.int .i64 ((i0 : Int) + 2)) (.int .i64 0) (h := (w0_facts (S := S) (i := i0) (e := 0) hb).2.1)
      have hlt0 : w.heap.size < w1.heap.size := by omega
      have HB := Lib.hid hb
      have HBEL := Lib.hid hbel
      clear hbel hb
      go_wp2
      go_loopw [9, 10] (fun u i wr => wr = w1.alloc (.cells #[.string S, .int .i64 ((i0 : Int) + 2), .int .i64 0] 40) ∧ ∃ k : Nat, k ≤ 2 ∧ i = .int .i64 k ∧ u = .int .u64 (beV (S.extract i0 (i0 + 2)) k % 18446744073709551616)) (fun _ i _ => 2 - (intOf i).toNat)
      case atStart => exact ⟨rfl, 0, by omega, rfl, rfl⟩
      case round =>
        obtain ⟨hwr, k, hk, rfl, rfl⟩ := hrel
        subst hwr
        by_cases hk1 : k < 2
        · have hks : k < (S.extract i0 (i0 + 2)).size := by rw [HES.out]; exact hk1
          have HBK := Lib.hid (HBT.out k hks)
          have HR := Lib.hid (HBE.out k)
          have hes := HES.out
          go_wp2
          go_roundw
          case rel => exact ⟨by trivial, k + 1, by omega, by go_num, by rw [← HR.out, HBK.out, wrap64_byte]⟩
          case measure => simp [intOf]; omega
        · obtain rfl : k = 2 := by omega
          have hes := HES.out
          have hvv := HV.out 2 (Nat.le_refl _)
          rw [hvv]
          go_wp2_with fail
          refine (HSS.out _).mono ?_
          rintro en w2 ⟨rfl, rfl⟩
          go_wp2_with fail
          go_region
          all_goals
            go_wp2
            refine bodyPost_ret (v := .tuple #[.int .i64 (wrap64 (IntKind.u64.wrap (beV (rest S i0) 2 % 18446744073709551616 * 1125899906842624)) / 1125899906842624), .agg #[.string S, .int .i64 ((i0 : Int) + 2), .int .i64 0]]) (by simp [results, Tryd.results50, go_sem, z0, z1, z2]) rfl ?_
            exact HG.out _ (below_al (three_cells HBEL.out _ (by omega) _ _ _)).drew
    · rw [if_neg hz]
      have hq : (szN (wrap64 (IntKind.u64.wrap (beV (rest S i0) 2 % 18446744073709551616 * 1125899906842624)) / 1125899906842624) != (2 : Int)) = true := by rw [bne_iff_ne]; exact hz
      generalize szN (wrap64 (IntKind.u64.wrap (beV (rest S i0) 2 % 18446744073709551616 * 1125899906842624)) / 1125899906842624) = zz at hss hq
      have HSS := Lib.hid hss
      have HG : Hid (∀ w1, Below w.heap.size w w1 → RR w S i0 0 (.int .i64 0) (.int .i64 0) 0 2 (.returned (.tuple #[.int .i64 0, .agg #[.string S, .int .i64 (i0 : Int), .int .i64 2]])) w1) := fun w1 hb => ⟨by simp [rdN, rdr], hb⟩
      clear hz hss
      simp only []
      unfold rdr
      go_enter Tryd.func50, Tryd.ntmps50
      go_wp2_with fail
      refine (HS.out _).mono ?_
      rintro en w1 ⟨rfl, hb⟩
      obtain ⟨⟨p0, p1, p2⟩, ⟨⟨a0, a1, a2⟩, ⟨g0, g1, g2⟩⟩, hlt, hbel⟩ := w0_facts (S := S) (i := i0) (e := 0) hb
      obtain ⟨z0, z1, z2⟩ := res_alloc (.cells #[.string S, .int .i64 ((i0 : Int) + 2), .int .i64 0] 40) (.string S) (.int .i64 ((i0 : Int) + 2)) (.int .i64 0) (h := (w0_facts (S := S) (i := i0) (e := 0) hb).2.1)
      have hlt0 : w.heap.size < w1.heap.size := by omega
      have HB := Lib.hid hb
      have HBEL := Lib.hid hbel
      clear hbel hb
      go_wp2
      go_loopw [9, 10] (fun u i wr => wr = w1.alloc (.cells #[.string S, .int .i64 ((i0 : Int) + 2), .int .i64 0] 40) ∧ ∃ k : Nat, k ≤ 2 ∧ i = .int .i64 k ∧ u = .int .u64 (beV (S.extract i0 (i0 + 2)) k % 18446744073709551616)) (fun _ i _ => 2 - (intOf i).toNat)
      case atStart => exact ⟨rfl, 0, by omega, rfl, rfl⟩
      case round =>
        obtain ⟨hwr, k, hk, rfl, rfl⟩ := hrel
        subst hwr
        by_cases hk1 : k < 2
        · have hks : k < (S.extract i0 (i0 + 2)).size := by rw [HES.out]; exact hk1
          have HBK := Lib.hid (HBT.out k hks)
          have HR := Lib.hid (HBE.out k)
          have hes := HES.out
          go_wp2
          go_roundw
          case rel => exact ⟨by trivial, k + 1, by omega, by go_num, by rw [← HR.out, HBK.out, wrap64_byte]⟩
          case measure => simp [intOf]; omega
        · obtain rfl : k = 2 := by omega
          have hes := HES.out
          have hvv := HV.out 2 (Nat.le_refl _)
          rw [hvv]
          go_wp2_with fail
          refine (HSS.out _).mono ?_
          rintro en w2 ⟨rfl, rfl⟩
          go_wp2_with fail
          refine (HST.out _).mono ?_
          rintro en w3 ⟨rfl, hb⟩
          have hb3 := w0_chain HB.out hb
          obtain ⟨_, ⟨⟨b0, b1, b2⟩, ⟨f0, f1, f2⟩⟩, hlt3, hbel3⟩ := w0_facts (S := S) (i := i0) (e := 0) hb3
          have HB3 := Lib.hid hbel3
          clear hb hb3 hbel3 a0 a1 a2 g0 g1 g2 p0 p1 p2
          go_wp2
          refine bodyPost_ret (v := .tuple #[.int .i64 0, .agg #[.string S, .int .i64 (i0 : Int), .int .i64 2]]) (by simp [results, Tryd.results50, go_sem, b0, b1, b2]) rfl ?_
          exact HG.out _ (three_cells HB3.out _ (by omega) _ _ _)

set_option maxHeartbeats 4000000 in
set_option maxRecDepth 100000 in
theorem num_4 (S : ByteArray) (i0 : Nat) (hS : S.size ≤ 1000000000) (hi : i0 < S.size) (h0 : 192 ≤ bt (rest S i0) 0) (h1 : bt (rest S i0) 0 < 224) (w : World) :
    Calls Tryd.prog 50 #[rdr S i0 0] w (RR w S i0 0 (.int .i64 0) (.int .i64 (numR (rest S i0)).1) (numR (rest S i0)).2.1 (numR (rest S i0)).2.2) := by
  have hsz := rest_size S i0
  have hb0 := bt_bd (rest S i0) 0
  have hn := numR_cases (rest S i0) 4 29 (by omega) (by omega) (by unfold szC; rw [if_neg (by omega), if_neg (by omega), if_pos (by omega)]) (by unfold bitC; rw [if_neg (by omega), if_neg (by omega), if_pos (by omega)])
  have hbr := bt_rest0 S i0 hi
  rw [hbr] at h0 h1 hb0
  have d1 : decide ((224 : Int) ≤ (S[i0].toNat : Int)) = false := decide_eq_false (by omega)
  have d2 : decide ((192 : Int) ≤ (S[i0].toNat : Int)) = true := decide_eq_true (by omega)
  have d3 : decide ((128 : Int) ≤ (S[i0].toNat : Int)) = true := decide_eq_true (by omega)
  have d4 : decide ((224 : Int) < (S[i0].toNat : Int)) = false := decide_eq_false (by omega)
  rw [hn]
  clear hn
  have hI0 : (0 : Int) ≤ (i0 : Int) := by omega
  have hI1 : (i0 : Int) < (S.size : Int) := by omega
  have hI2 : (S.size : Int) ≤ 1000000000 := by omega
  by_cases hlt : (rest S i0).size < 4
  · rw [if_pos hlt]
    have hs := fun w => take_no S i0 0 ((4 : Nat) : Int) hS (by omega) (by omega) w
    unfold rdr at hs
    have HS := Lib.hid hs
    have HG : Hid (∀ w1, Below w.heap.size w w1 → RR w S i0 0 (.int .i64 0) (.int .i64 0) 0 16 (.returned (.tuple #[.int .i64 0, .agg #[.string S, .int .i64 (i0 : Int), .int .i64 16]])) w1) := fun w1 hb => ⟨by simp [rdN, rdr], hb⟩
    clear hs hsz hlt hbr
    unfold rdr
    go_enter Tryd.func50, Tryd.ntmps50
    go_wp2_with fail
    refine (HS.out _).mono ?_
    rintro en w1 ⟨rfl, hb⟩
    obtain ⟨_, ⟨⟨a0, a1, a2⟩, ⟨g0, g1, g2⟩⟩, hlt, hbel⟩ := w0_facts (S := S) (i := i0) (e := 0) hb
    have HB := Lib.hid hbel
    obtain ⟨z0, z1, z2⟩ := res_alloc (.cells #[.string S, .int .i64 (i0 : Int), .int .i64 16] 40) (.string S) (.int .i64 (i0 : Int)) (.int .i64 16) (h := (w0_facts (S := S) (i := i0) (e := 0) hb).2.1)
    clear hb hbel
    go_wp2_with fail
    go_region
    all_goals
      go_wp2
      refine bodyPost_ret (v := .tuple #[.int .i64 0, .agg #[.string S, .int .i64 (i0 : Int), .int .i64 16]]) (by simp [results, Tryd.results50, go_sem, z0, z1, z2]) rfl ?_
      exact HG.out _ (below_al (three_cells HB.out _ (by omega) _ _ _)).drew
  · rw [if_neg hlt]
    have hin : i0 + 4 ≤ S.size := by omega
    have hv := fun k h => beV_ext S i0 4 k h hin
    have hes := ext_size S i0 4 hin
    have hs := fun w => take_ok S i0 4 0 hS hin w
    have HBT := Lib.hid (fun k h => bt_in (S.extract i0 (i0 + 4)) k h)
    have HBE := Lib.hid (be_round (S.extract i0 (i0 + 4)))
    have hst := fun w => stop_any S i0 0 2 w
    have hss := fun w => rSize_any (sgn (beV (rest S i0) 4) 29) w
    have hE : wrap64 (IntKind.u64.wrap (beV (rest S i0) 4 % 18446744073709551616 * 34359738368)) / 34359738368 = sgn (beV (rest S i0) 4) 29 := shift_eq _ 29 34359738368 (by omega) (by omega) (by decide)
    rw [← hE] at hss
    unfold rdr at hs hst
    have HS := Lib.hid hs
    have HST := Lib.hid hst
    have HV := Lib.hid hv
    have HES := Lib.hid hes
    rw [← hE]
    clear hs hst hv hes hlt hsz hbr hin hE
    by_cases hz : szN (wrap64 (IntKind.u64.wrap (beV (rest S i0) 4 % 18446744073709551616 * 34359738368)) / 34359738368) = ((4 : Nat) : Int)
    · rw [if_pos hz]
      rw [hz] at hss
      have HSS := Lib.hid hss
      have HG : Hid (∀ w1, Below w.heap.size w w1 → RR w S i0 0 (.int .i64 0) (.int .i64 (wrap64 (IntKind.u64.wrap (beV (rest S i0) 4 % 18446744073709551616 * 34359738368)) / 34359738368)) ((4 : Nat) : Int) 0 (.returned (.tuple #[.int .i64 (wrap64 (IntKind.u64.wrap (beV (rest S i0) 4 % 18446744073709551616 * 34359738368)) / 34359738368), .agg #[.string S, .int .i64 ((i0 : Int) + 4), .int .i64 0]])) w1) := fun w1 hb => ⟨by simp [rdN, rdr], hb⟩
      clear hz hss
      simp only []
      unfold rdr
      go_enter Tryd.func50, Tryd.ntmps50
      go_wp2_with fail
      refine (HS.out _).mono ?_
      rintro en w1 ⟨rfl, hb⟩
      obtain ⟨⟨p0, p1, p2⟩, ⟨⟨a0, a1, a2⟩, ⟨g0, g1, g2⟩⟩, hlt, hbel⟩ := w0_facts (S := S) (i := i0) (e := 0) hb
      obtain ⟨z0, z1, z2⟩ := res_alloc (.cells #[.string S, .int .i64 ((i0 : Int) + 4), .int .i64 0] 40) (.string S) (.int .i64 ((i0 : Int) + 4)) (.int .i64 0) (h := (w0_facts (S := S) (i := i0) (e := 0) hb).2.1)
      have hlt0 : w.heap.size < w1.heap.size := by omega
      have HB := Lib.hid hb
      have HBEL := Lib.hid hbel
      clear hbel hb
      go_wp2
      go_loopw [9, 10] (fun u i wr => wr = w1.alloc (.cells #[.string S, .int .i64 ((i0 : Int) + 4), .int .i64 0] 40) ∧ ∃ k : Nat, k ≤ 4 ∧ i = .int .i64 k ∧ u = .int .u64 (beV (S.extract i0 (i0 + 4)) k % 18446744073709551616)) (fun _ i _ => 4 - (intOf i).toNat)
      case atStart => exact ⟨rfl, 0, by omega, rfl, rfl⟩
      case round =>
        obtain ⟨hwr, k, hk, rfl, rfl⟩ := hrel
        subst hwr
        by_cases hk1 : k < 4
        · have hks : k < (S.extract i0 (i0 + 4)).size := by rw [HES.out]; exact hk1
          have HBK := Lib.hid (HBT.out k hks)
          have HR := Lib.hid (HBE.out k)
          have hes := HES.out
          go_wp2
          go_roundw
          case rel => exact ⟨by trivial, k + 1, by omega, by go_num, by rw [← HR.out, HBK.out, wrap64_byte]⟩
          case measure => simp [intOf]; omega
        · obtain rfl : k = 4 := by omega
          have hes := HES.out
          have hvv := HV.out 4 (Nat.le_refl _)
          rw [hvv]
          go_wp2_with fail
          refine (HSS.out _).mono ?_
          rintro en w2 ⟨rfl, rfl⟩
          go_wp2_with fail
          go_region
          all_goals
            go_wp2
            refine bodyPost_ret (v := .tuple #[.int .i64 (wrap64 (IntKind.u64.wrap (beV (rest S i0) 4 % 18446744073709551616 * 34359738368)) / 34359738368), .agg #[.string S, .int .i64 ((i0 : Int) + 4), .int .i64 0]]) (by simp [results, Tryd.results50, go_sem, z0, z1, z2]) rfl ?_
            exact HG.out _ (below_al (three_cells HBEL.out _ (by omega) _ _ _)).drew
    · rw [if_neg hz]
      have hq : (szN (wrap64 (IntKind.u64.wrap (beV (rest S i0) 4 % 18446744073709551616 * 34359738368)) / 34359738368) != (4 : Int)) = true := by rw [bne_iff_ne]; exact hz
      generalize szN (wrap64 (IntKind.u64.wrap (beV (rest S i0) 4 % 18446744073709551616 * 34359738368)) / 34359738368) = zz at hss hq
      have HSS := Lib.hid hss
      have HG : Hid (∀ w1, Below w.heap.size w w1 → RR w S i0 0 (.int .i64 0) (.int .i64 0) 0 2 (.returned (.tuple #[.int .i64 0, .agg #[.string S, .int .i64 (i0 : Int), .int .i64 2]])) w1) := fun w1 hb => ⟨by simp [rdN, rdr], hb⟩
      clear hz hss
      simp only []
      unfold rdr
      go_enter Tryd.func50, Tryd.ntmps50
      go_wp2_with fail
      refine (HS.out _).mono ?_
      rintro en w1 ⟨rfl, hb⟩
      obtain ⟨⟨p0, p1, p2⟩, ⟨⟨a0, a1, a2⟩, ⟨g0, g1, g2⟩⟩, hlt, hbel⟩ := w0_facts (S := S) (i := i0) (e := 0) hb
      obtain ⟨z0, z1, z2⟩ := res_alloc (.cells #[.string S, .int .i64 ((i0 : Int) + 4), .int .i64 0] 40) (.string S) (.int .i64 ((i0 : Int) + 4)) (.int .i64 0) (h := (w0_facts (S := S) (i := i0) (e := 0) hb).2.1)
      have hlt0 : w.heap.size < w1.heap.size := by omega
      have HB := Lib.hid hb
      have HBEL := Lib.hid hbel
      clear hbel hb
      go_wp2
      go_loopw [9, 10] (fun u i wr => wr = w1.alloc (.cells #[.string S, .int .i64 ((i0 : Int) + 4), .int .i64 0] 40) ∧ ∃ k : Nat, k ≤ 4 ∧ i = .int .i64 k ∧ u = .int .u64 (beV (S.extract i0 (i0 + 4)) k % 18446744073709551616)) (fun _ i _ => 4 - (intOf i).toNat)
      case atStart => exact ⟨rfl, 0, by omega, rfl, rfl⟩
      case round =>
        obtain ⟨hwr, k, hk, rfl, rfl⟩ := hrel
        subst hwr
        by_cases hk1 : k < 4
        · have hks : k < (S.extract i0 (i0 + 4)).size := by rw [HES.out]; exact hk1
          have HBK := Lib.hid (HBT.out k hks)
          have HR := Lib.hid (HBE.out k)
          have hes := HES.out
          go_wp2
          go_roundw
          case rel => exact ⟨by trivial, k + 1, by omega, by go_num, by rw [← HR.out, HBK.out, wrap64_byte]⟩
          case measure => simp [intOf]; omega
        · obtain rfl : k = 4 := by omega
          have hes := HES.out
          have hvv := HV.out 4 (Nat.le_refl _)
          rw [hvv]
          go_wp2_with fail
          refine (HSS.out _).mono ?_
          rintro en w2 ⟨rfl, rfl⟩
          go_wp2_with fail
          refine (HST.out _).mono ?_
          rintro en w3 ⟨rfl, hb⟩
          have hb3 := w0_chain HB.out hb
          obtain ⟨_, ⟨⟨b0, b1, b2⟩, ⟨f0, f1, f2⟩⟩, hlt3, hbel3⟩ := w0_facts (S := S) (i := i0) (e := 0) hb3
          have HB3 := Lib.hid hbel3
          clear hb hb3 hbel3 a0 a1 a2 g0 g1 g2 p0 p1 p2
          go_wp2
          refine bodyPost_ret (v := .tuple #[.int .i64 0, .agg #[.string S, .int .i64 (i0 : Int), .int .i64 2]]) (by simp [results, Tryd.results50, go_sem, b0, b1, b2]) rfl ?_
          exact HG.out _ (three_cells HB3.out _ (by omega) _ _ _)

set_option maxHeartbeats 4000000 in
set_option maxRecDepth 100000 in
theorem num_9 (S : ByteArray) (i0 : Nat) (hS : S.size ≤ 1000000000) (hi : i0 < S.size) (h0 : 224 ≤ bt (rest S i0) 0) (h1 : bt (rest S i0) 0 < 225) (w : World) :
    Calls Tryd.prog 50 #[rdr S i0 0] w (RR w S i0 0 (.int .i64 0) (.int .i64 (numR (rest S i0)).1) (numR (rest S i0)).2.1 (numR (rest S i0)).2.2) := by
  have hsz := rest_size S i0
  have hb0 := bt_bd (rest S i0) 0
  have hn := numR_cases (rest S i0) 9 64 (by omega) (by omega) (by unfold szC; rw [if_neg (by omega), if_neg (by omega), if_neg (by omega)]) (by unfold bitC; rw [if_neg (by omega), if_neg (by omega), if_neg (by omega)])
  have hbr := bt_rest0 S i0 hi
  rw [hbr] at h0 h1 hb0
  have d1 : decide ((224 : Int) ≤ (S[i0].toNat : Int)) = true := decide_eq_true (by omega)
  have d2 : decide ((192 : Int) ≤ (S[i0].toNat : Int)) = true := decide_eq_true (by omega)
  have d3 : decide ((128 : Int) ≤ (S[i0].toNat : Int)) = true := decide_eq_true (by omega)
  have d4 : decide ((224 : Int) < (S[i0].toNat : Int)) = false := decide_eq_false (by omega)
  rw [hn]
  clear hn
  have hI0 : (0 : Int) ≤ (i0 : Int) := by omega
  have hI1 : (i0 : Int) < (S.size : Int) := by omega
  have hI2 : (S.size : Int) ≤ 1000000000 := by omega
  by_cases hlt : (rest S i0).size < 9
  · rw [if_pos hlt]
    have hs := fun w => take_no S i0 0 ((9 : Nat) : Int) hS (by omega) (by omega) w
    unfold rdr at hs
    have HS := Lib.hid hs
    have HG : Hid (∀ w1, Below w.heap.size w w1 → RR w S i0 0 (.int .i64 0) (.int .i64 0) 0 16 (.returned (.tuple #[.int .i64 0, .agg #[.string S, .int .i64 (i0 : Int), .int .i64 16]])) w1) := fun w1 hb => ⟨by simp [rdN, rdr], hb⟩
    clear hs hsz hlt hbr
    unfold rdr
    go_enter Tryd.func50, Tryd.ntmps50
    go_wp2_with fail
    refine (HS.out _).mono ?_
    rintro en w1 ⟨rfl, hb⟩
    obtain ⟨_, ⟨⟨a0, a1, a2⟩, ⟨g0, g1, g2⟩⟩, hlt, hbel⟩ := w0_facts (S := S) (i := i0) (e := 0) hb
    have HB := Lib.hid hbel
    obtain ⟨z0, z1, z2⟩ := res_alloc (.cells #[.string S, .int .i64 (i0 : Int), .int .i64 16] 40) (.string S) (.int .i64 (i0 : Int)) (.int .i64 16) (h := (w0_facts (S := S) (i := i0) (e := 0) hb).2.1)
    clear hb hbel
    go_wp2_with fail
    go_region
    all_goals
      go_wp2
      refine bodyPost_ret (v := .tuple #[.int .i64 0, .agg #[.string S, .int .i64 (i0 : Int), .int .i64 16]]) (by simp [results, Tryd.results50, go_sem, z0, z1, z2]) rfl ?_
      exact HG.out _ (below_al (three_cells HB.out _ (by omega) _ _ _)).drew
  · rw [if_neg hlt]
    have hin : i0 + 9 ≤ S.size := by omega
    have hv := fun k h => beV_ext S i0 9 k h hin
    have hes := ext_size S i0 9 hin
    have hs := fun w => take_ok S i0 9 0 hS hin w
    have HBT := Lib.hid (fun k h => bt_in (S.extract i0 (i0 + 9)) k h)
    have HBE := Lib.hid (be_round (S.extract i0 (i0 + 9)))
    have hst := fun w => stop_any S i0 0 2 w
    have hss := fun w => rSize_any (sgn (beV (rest S i0) 9) 64) w
    have hE : wrap64 (beV (rest S i0) 9 % 18446744073709551616) = sgn (beV (rest S i0) 9) 64 := by have h := shift_eq (beV (rest S i0) 9) 64 1 (by omega) (by omega) (by decide); rw [Int.mul_one, Int.ediv_one, IntKind.wrap_u64, Int.emod_emod_of_dvd _ (Int.dvd_refl _)] at h; exact h
    rw [← hE] at hss
    unfold rdr at hs hst
    have HS := Lib.hid hs
    have HST := Lib.hid hst
    have HV := Lib.hid hv
    have HES := Lib.hid hes
    rw [← hE]
    clear hs hst hv hes hlt hsz hbr hin hE
    by_cases hz : szN (wrap64 (beV (rest S i0) 9 % 18446744073709551616)) = ((9 : Nat) : Int)
    · rw [if_pos hz]
      rw [hz] at hss
      have HSS := Lib.hid hss
      have HG : Hid (∀ w1, Below w.heap.size w w1 → RR w S i0 0 (.int .i64 0) (.int .i64 (wrap64 (beV (rest S i0) 9 % 18446744073709551616))) ((9 : Nat) : Int) 0 (.returned (.tuple #[.int .i64 (wrap64 (beV (rest S i0) 9 % 18446744073709551616)), .agg #[.string S, .int .i64 ((i0 : Int) + 9), .int .i64 0]])) w1) := fun w1 hb => ⟨by simp [rdN, rdr], hb⟩
      clear hz hss
      simp only []
      unfold rdr
      go_enter Tryd.func50, Tryd.ntmps50
      go_wp2_with fail
      refine (HS.out _).mono ?_
      rintro en w1 ⟨rfl, hb⟩
      obtain ⟨⟨p0, p1, p2⟩, ⟨⟨a0, a1, a2⟩, ⟨g0, g1, g2⟩⟩, hlt, hbel⟩ := w0_facts (S := S) (i := i0) (e := 0) hb
      obtain ⟨z0, z1, z2⟩ := res_alloc (.cells #[.string S, .int .i64 ((i0 : Int) + 9), .int .i64 0] 40) (.string S) (.int .i64 ((i0 : Int) + 9)) (.int .i64 0) (h := (w0_facts (S := S) (i := i0) (e := 0) hb).2.1)
      have hlt0 : w.heap.size < w1.heap.size := by omega
      have HB := Lib.hid hb
      have HBEL := Lib.hid hbel
      clear hbel hb
      go_wp2
      go_loopw [9, 10] (fun u i wr => wr = w1.alloc (.cells #[.string S, .int .i64 ((i0 : Int) + 9), .int .i64 0] 40) ∧ ∃ k : Nat, k ≤ 9 ∧ i = .int .i64 k ∧ u = .int .u64 (beV (S.extract i0 (i0 + 9)) k % 18446744073709551616)) (fun _ i _ => 9 - (intOf i).toNat)
      case atStart => exact ⟨rfl, 0, by omega, rfl, rfl⟩
      case round =>
        obtain ⟨hwr, k, hk, rfl, rfl⟩ := hrel
        subst hwr
        by_cases hk1 : k < 9
        · have hks : k < (S.extract i0 (i0 + 9)).size := by rw [HES.out]; exact hk1
          have HBK := Lib.hid (HBT.out k hks)
          have HR := Lib.hid (HBE.out k)
          have hes := HES.out
          go_wp2
          go_roundw
          case rel => exact ⟨by trivial, k + 1, by omega, by go_num, by rw [← HR.out, HBK.out, wrap64_byte]⟩
          case measure => simp [intOf]; omega
        · obtain rfl : k = 9 := by omega
          have hes := HES.out
          have hvv := HV.out 9 (Nat.le_refl _)
          rw [hvv]
          go_wp2_with fail
          refine (HSS.out _).mono ?_
          rintro en w2 ⟨rfl, rfl⟩
          go_wp2_with fail
          go_region
          all_goals
            go_wp2
            refine bodyPost_ret (v := .tuple #[.int .i64 (wrap64 (beV (rest S i0) 9 % 18446744073709551616)), .agg #[.string S, .int .i64 ((i0 : Int) + 9), .int .i64 0]]) (by simp [results, Tryd.results50, go_sem, z0, z1, z2]) rfl ?_
            exact HG.out _ (below_al (three_cells HBEL.out _ (by omega) _ _ _)).drew
    · rw [if_neg hz]
      have hq : (szN (wrap64 (beV (rest S i0) 9 % 18446744073709551616)) != (9 : Int)) = true := by rw [bne_iff_ne]; exact hz
      generalize szN (wrap64 (beV (rest S i0) 9 % 18446744073709551616)) = zz at hss hq
      have HSS := Lib.hid hss
      have HG : Hid (∀ w1, Below w.heap.size w w1 → RR w S i0 0 (.int .i64 0) (.int .i64 0) 0 2 (.returned (.tuple #[.int .i64 0, .agg #[.string S, .int .i64 (i0 : Int), .int .i64 2]])) w1) := fun w1 hb => ⟨by simp [rdN, rdr], hb⟩
      clear hz hss
      simp only []
      unfold rdr
      go_enter Tryd.func50, Tryd.ntmps50
      go_wp2_with fail
      refine (HS.out _).mono ?_
      rintro en w1 ⟨rfl, hb⟩
      obtain ⟨⟨p0, p1, p2⟩, ⟨⟨a0, a1, a2⟩, ⟨g0, g1, g2⟩⟩, hlt, hbel⟩ := w0_facts (S := S) (i := i0) (e := 0) hb
      obtain ⟨z0, z1, z2⟩ := res_alloc (.cells #[.string S, .int .i64 ((i0 : Int) + 9), .int .i64 0] 40) (.string S) (.int .i64 ((i0 : Int) + 9)) (.int .i64 0) (h := (w0_facts (S := S) (i := i0) (e := 0) hb).2.1)
      have hlt0 : w.heap.size < w1.heap.size := by omega
      have HB := Lib.hid hb
      have HBEL := Lib.hid hbel
      clear hbel hb
      go_wp2
      go_loopw [9, 10] (fun u i wr => wr = w1.alloc (.cells #[.string S, .int .i64 ((i0 : Int) + 9), .int .i64 0] 40) ∧ ∃ k : Nat, k ≤ 9 ∧ i = .int .i64 k ∧ u = .int .u64 (beV (S.extract i0 (i0 + 9)) k % 18446744073709551616)) (fun _ i _ => 9 - (intOf i).toNat)
      case atStart => exact ⟨rfl, 0, by omega, rfl, rfl⟩
      case round =>
        obtain ⟨hwr, k, hk, rfl, rfl⟩ := hrel
        subst hwr
        by_cases hk1 : k < 9
        · have hks : k < (S.extract i0 (i0 + 9)).size := by rw [HES.out]; exact hk1
          have HBK := Lib.hid (HBT.out k hks)
          have HR := Lib.hid (HBE.out k)
          have hes := HES.out
          go_wp2
          go_roundw
          case rel => exact ⟨by trivial, k + 1, by omega, by go_num, by rw [← HR.out, HBK.out, wrap64_byte]⟩
          case measure => simp [intOf]; omega
        · obtain rfl : k = 9 := by omega
          have hes := HES.out
          have hvv := HV.out 9 (Nat.le_refl _)
          rw [hvv]
          go_wp2_with fail
          refine (HSS.out _).mono ?_
          rintro en w2 ⟨rfl, rfl⟩
          go_wp2_with fail
          refine (HST.out _).mono ?_
          rintro en w3 ⟨rfl, hb⟩
          have hb3 := w0_chain HB.out hb
          obtain ⟨_, ⟨⟨b0, b1, b2⟩, ⟨f0, f1, f2⟩⟩, hlt3, hbel3⟩ := w0_facts (S := S) (i := i0) (e := 0) hb3
          have HB3 := Lib.hid hbel3
          clear hb hb3 hbel3 a0 a1 a2 g0 g1 g2 p0 p1 p2
          go_wp2
          refine bodyPost_ret (v := .tuple #[.int .i64 0, .agg #[.string S, .int .i64 (i0 : Int), .int .i64 2]]) (by simp [results, Tryd.results50, go_sem, b0, b1, b2]) rfl ?_
          exact HG.out _ (three_cells HB3.out _ (by omega) _ _ _)
end Go.Proofs.YtjjdfodjkoiedaaDoor
