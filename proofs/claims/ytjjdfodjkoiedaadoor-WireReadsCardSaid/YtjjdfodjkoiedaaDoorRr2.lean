/-
  The reference's readers: ReadSigned. Written by gen_rr2.py.
-/
import Derived.Test.YtjjdfodjkoiedaaDoorRr1
set_option linter.unusedVariables false
namespace Go.Proofs.YtjjdfodjkoiedaaDoor
open Go.RowKit

set_option maxHeartbeats 4000000 in
set_option maxRecDepth 100000 in
theorem refReadSigned_any (S : ByteArray) (i : Nat) (e z : Int) (hS : S.size ≤ 1000000000) (hi : i ≤ S.size) (w : World) :
    Calls Tryd.prog 49 #[rdr S i e, .int .i64 z] w (RR w S i e (.int .i64 0) (.int .i64 (sigR (rest S i) z).1) (sigR (rest S i) z).2.1 (sigR (rest S i) z).2.2) := by
  by_cases he : e = 0
  · subst he
    have hsz := rest_size S i
    unfold sigR lowS
    cases hz : isSz z
    · have HZ := Lib.hid (sized_is z false hz)
      have hs := fun w => stop_any S i 0 1 w
      unfold rdr at hs
      have HS := Lib.hid hs
      have HG : Hid (∀ w1, Below w.heap.size w w1 → RR w S i 0 (.int .i64 0) (.int .i64 0) 0 1 (.returned (.tuple #[.int .i64 0, .agg #[.string S, .int .i64 (i : Int), .int .i64 1]])) w1) := fun w1 hb => ⟨by simp [rdN, rdr], hb⟩
      simp only [Bool.false_eq_true, if_false, show ¬ ((1 : Int) = 0) by decide]
      clear hz hs hsz
      unfold rdr
      go_enter Tryd.func49, Tryd.ntmps49
      go_wp2_with fail
      refine (HZ.out _).mono ?_
      rintro en w1 ⟨rfl, rfl⟩
      go_wp2_with fail
      refine (HS.out _).mono ?_
      rintro en w1 ⟨rfl, hb⟩
      obtain ⟨_, ⟨⟨a0, a1, a2⟩, ⟨g0, g1, g2⟩⟩, hlt, hbel⟩ := w0_facts (S := S) (i := i) (e := 0) hb
      have HB := Lib.hid hbel
      clear hb hbel
      go_wp2
      refine bodyPost_ret (v := .tuple #[.int .i64 0, .agg #[.string S, .int .i64 (i : Int), .int .i64 1]]) (by simp [results, Tryd.results49, go_sem, a0, a1, a2]) rfl ?_
      exact HG.out _ (three_cells HB.out _ (by omega) _ _ _)
    · have HZ := Lib.hid (sized_is z true hz)
      obtain ⟨n, rfl, hn⟩ := isSz_cases hz
      simp only [if_true, Int.toNat_natCast]
      clear hz
      by_cases hlt : ((rest S i).size : Int) < (n : Int)
      · rw [if_pos hlt]
        simp only [show ¬ ((16 : Int) = 0) by decide, if_false]
        have hs := fun w => take_no S i 0 (n : Int) hS hi (by omega) w
        unfold rdr at hs
        have HS := Lib.hid hs
        have HG : Hid (∀ w1, Below w.heap.size w w1 → RR w S i 0 (.int .i64 0) (.int .i64 0) 0 16 (.returned (.tuple #[.int .i64 0, .agg #[.string S, .int .i64 (i : Int), .int .i64 16]])) w1) := fun w1 hb => ⟨by simp [rdN, rdr], hb⟩
        clear hs hsz hlt hn
        unfold rdr
        go_enter Tryd.func49, Tryd.ntmps49
        go_wp2_with fail
        refine (HZ.out _).mono ?_
        rintro en w1 ⟨rfl, rfl⟩
        go_wp2_with fail
        refine (HS.out _).mono ?_
        rintro en w1 ⟨rfl, hb⟩
        obtain ⟨_, ⟨⟨a0, a1, a2⟩, ⟨g0, g1, g2⟩⟩, hlt, hbel⟩ := w0_facts (S := S) (i := i) (e := 0) hb
        have HB := Lib.hid hbel
        obtain ⟨z0, z1, z2⟩ := res_alloc (.cells #[.string S, .int .i64 (i : Int), .int .i64 16] 40) (.string S) (.int .i64 (i : Int)) (.int .i64 16) (h := (w0_facts (S := S) (i := i) (e := 0) hb).2.1)
        clear hb hbel
        go_wp2_with fail
        go_region
        all_goals
          go_wp2
          refine bodyPost_ret (v := .tuple #[.int .i64 0, .agg #[.string S, .int .i64 (i : Int), .int .i64 16]]) (by simp [results, Tryd.results49, go_sem, z0, z1, z2]) rfl ?_
          exact HG.out _ (below_al (three_cells HB.out _ (by omega) _ _ _)).drew
      · rw [if_neg hlt]
        simp only [if_true]
        have hin : i + n ≤ S.size := by omega
        have hv := leV_ext S i n n (Nat.le_refl _) hin
        have hes := ext_size S i n hin
        have hval := fun w => value_any (S.extract i (i + n)) (by rw [hes]; omega) w
        rw [hes, hv] at hval
        have HV := Lib.hid hval
        have hbd := leV_bd (rest S i) n
        have hs := fun w => take_ok S i n 0 hS hin w
        unfold rdr at hs
        have HS := Lib.hid hs
        generalize leV (rest S i) n = u at *
        have hu0 : 0 ≤ u := hbd.1
        have hu1 := hbd.2
        clear hs hsz hlt hv hes hval hbd
        rcases hn with rfl | rfl | rfl | rfl
        · have hu2 : u < 256 := hu1
          clear hu1 hin
          by_cases hr : 128 ≤ u
          · have hsg : sgn u (8 * 1) = (u - 256) := by
              unfold sgn
              have e1 : (2 : Int) ^ (8 * 1) = 256 := by decide
              have e2 : (2 : Int) ^ (8 * 1 - 1) = 128 := by decide
              rw [e1, e2]
              split <;> omega
            rw [hsg]
            have HG : Hid (∀ w1, Below w.heap.size w w1 → RR w S i 0 (.int .i64 0) (.int .i64 (u - 256)) ((1 : Nat) : Int) 0 (.returned (.tuple #[.int .i64 (u - 256), .agg #[.string S, .int .i64 ((i : Int) + 1), .int .i64 0]])) w1) := fun w1 hb => ⟨by simp [rdN, rdr], hb⟩
            clear hsg
            unfold rdr
            go_enter Tryd.func49, Tryd.ntmps49
            go_wp2_with fail
            refine (HZ.out _).mono ?_
            rintro en w1 ⟨rfl, rfl⟩
            go_wp2_with fail
            refine (HS.out _).mono ?_
            rintro en w1 ⟨rfl, hb⟩
            obtain ⟨⟨p0, p1, p2⟩, ⟨⟨a0, a1, a2⟩, ⟨g0, g1, g2⟩⟩, hlt, hbel⟩ := w0_facts (S := S) (i := i) (e := 0) hb
            obtain ⟨z0, z1, z2⟩ := res_alloc (.cells #[.string S, .int .i64 ((i : Int) + 1), .int .i64 0] 40) (.string S) (.int .i64 ((i : Int) + 1)) (.int .i64 0) (h := (w0_facts (S := S) (i := i) (e := 0) hb).2.1)
            have HB := Lib.hid hbel
            clear hbel hb
            go_wp2_with fail
            refine (HV.out _).mono ?_
            rintro en w2 ⟨rfl, rfl⟩
            go_wp2_with fail
            go_region
            all_goals
              go_wp2
              refine bodyPost_ret (v := .tuple #[.int .i64 (u - 256), .agg #[.string S, .int .i64 ((i : Int) + 1), .int .i64 0]]) (by simp [results, Tryd.results49, go_sem, z0, z1, z2]) rfl ?_
              exact HG.out _ (below_al (three_cells HB.out _ (by omega) _ _ _)).drew
          · have hsg : sgn u (8 * 1) = u := by
              unfold sgn
              have e1 : (2 : Int) ^ (8 * 1) = 256 := by decide
              have e2 : (2 : Int) ^ (8 * 1 - 1) = 128 := by decide
              rw [e1, e2]
              split <;> omega
            rw [hsg]
            have HG : Hid (∀ w1, Below w.heap.size w w1 → RR w S i 0 (.int .i64 0) (.int .i64 u) ((1 : Nat) : Int) 0 (.returned (.tuple #[.int .i64 u, .agg #[.string S, .int .i64 ((i : Int) + 1), .int .i64 0]])) w1) := fun w1 hb => ⟨by simp [rdN, rdr], hb⟩
            clear hsg
            unfold rdr
            go_enter Tryd.func49, Tryd.ntmps49
            go_wp2_with fail
            refine (HZ.out _).mono ?_
            rintro en w1 ⟨rfl, rfl⟩
            go_wp2_with fail
            refine (HS.out _).mono ?_
            rintro en w1 ⟨rfl, hb⟩
            obtain ⟨⟨p0, p1, p2⟩, ⟨⟨a0, a1, a2⟩, ⟨g0, g1, g2⟩⟩, hlt, hbel⟩ := w0_facts (S := S) (i := i) (e := 0) hb
            obtain ⟨z0, z1, z2⟩ := res_alloc (.cells #[.string S, .int .i64 ((i : Int) + 1), .int .i64 0] 40) (.string S) (.int .i64 ((i : Int) + 1)) (.int .i64 0) (h := (w0_facts (S := S) (i := i) (e := 0) hb).2.1)
            have HB := Lib.hid hbel
            clear hbel hb
            go_wp2_with fail
            refine (HV.out _).mono ?_
            rintro en w2 ⟨rfl, rfl⟩
            go_wp2_with fail
            go_region
            all_goals
              go_wp2
              refine bodyPost_ret (v := .tuple #[.int .i64 u, .agg #[.string S, .int .i64 ((i : Int) + 1), .int .i64 0]]) (by simp [results, Tryd.results49, go_sem, z0, z1, z2]) rfl ?_
              exact HG.out _ (below_al (three_cells HB.out _ (by omega) _ _ _)).drew
        · have hu2 : u < 65536 := hu1
          clear hu1 hin
          by_cases hr : 32768 ≤ u
          · have hsg : sgn u (8 * 2) = (u - 65536) := by
              unfold sgn
              have e1 : (2 : Int) ^ (8 * 2) = 65536 := by decide
              have e2 : (2 : Int) ^ (8 * 2 - 1) = 32768 := by decide
              rw [e1, e2]
              split <;> omega
            rw [hsg]
            have HG : Hid (∀ w1, Below w.heap.size w w1 → RR w S i 0 (.int .i64 0) (.int .i64 (u - 65536)) ((2 : Nat) : Int) 0 (.returned (.tuple #[.int .i64 (u - 65536), .agg #[.string S, .int .i64 ((i : Int) + 2), .int .i64 0]])) w1) := fun w1 hb => ⟨by simp [rdN, rdr], hb⟩
            clear hsg
            unfold rdr
            go_enter Tryd.func49, Tryd.ntmps49
            go_wp2_with fail
            refine (HZ.out _).mono ?_
            rintro en w1 ⟨rfl, rfl⟩
            go_wp2_with fail
            refine (HS.out _).mono ?_
            rintro en w1 ⟨rfl, hb⟩
            obtain ⟨⟨p0, p1, p2⟩, ⟨⟨a0, a1, a2⟩, ⟨g0, g1, g2⟩⟩, hlt, hbel⟩ := w0_facts (S := S) (i := i) (e := 0) hb
            obtain ⟨z0, z1, z2⟩ := res_alloc (.cells #[.string S, .int .i64 ((i : Int) + 2), .int .i64 0] 40) (.string S) (.int .i64 ((i : Int) + 2)) (.int .i64 0) (h := (w0_facts (S := S) (i := i) (e := 0) hb).2.1)
            have HB := Lib.hid hbel
            clear hbel hb
            go_wp2_with fail
            refine (HV.out _).mono ?_
            rintro en w2 ⟨rfl, rfl⟩
            go_wp2_with fail
            go_region
            all_goals
              go_wp2
              refine bodyPost_ret (v := .tuple #[.int .i64 (u - 65536), .agg #[.string S, .int .i64 ((i : Int) + 2), .int .i64 0]]) (by simp [results, Tryd.results49, go_sem, z0, z1, z2]) rfl ?_
              exact HG.out _ (below_al (three_cells HB.out _ (by omega) _ _ _)).drew
          · have hsg : sgn u (8 * 2) = u := by
              unfold sgn
              have e1 : (2 : Int) ^ (8 * 2) = 65536 := by decide
              have e2 : (2 : Int) ^ (8 * 2 - 1) = 32768 := by decide
              rw [e1, e2]
              split <;> omega
            rw [hsg]
            have HG : Hid (∀ w1, Below w.heap.size w w1 → RR w S i 0 (.int .i64 0) (.int .i64 u) ((2 : Nat) : Int) 0 (.returned (.tuple #[.int .i64 u, .agg #[.string S, .int .i64 ((i : Int) + 2), .int .i64 0]])) w1) := fun w1 hb => ⟨by simp [rdN, rdr], hb⟩
            clear hsg
            unfold rdr
            go_enter Tryd.func49, Tryd.ntmps49
            go_wp2_with fail
            refine (HZ.out _).mono ?_
            rintro en w1 ⟨rfl, rfl⟩
            go_wp2_with fail
            refine (HS.out _).mono ?_
            rintro en w1 ⟨rfl, hb⟩
            obtain ⟨⟨p0, p1, p2⟩, ⟨⟨a0, a1, a2⟩, ⟨g0, g1, g2⟩⟩, hlt, hbel⟩ := w0_facts (S := S) (i := i) (e := 0) hb
            obtain ⟨z0, z1, z2⟩ := res_alloc (.cells #[.string S, .int .i64 ((i : Int) + 2), .int .i64 0] 40) (.string S) (.int .i64 ((i : Int) + 2)) (.int .i64 0) (h := (w0_facts (S := S) (i := i) (e := 0) hb).2.1)
            have HB := Lib.hid hbel
            clear hbel hb
            go_wp2_with fail
            refine (HV.out _).mono ?_
            rintro en w2 ⟨rfl, rfl⟩
            go_wp2_with fail
            go_region
            all_goals
              go_wp2
              refine bodyPost_ret (v := .tuple #[.int .i64 u, .agg #[.string S, .int .i64 ((i : Int) + 2), .int .i64 0]]) (by simp [results, Tryd.results49, go_sem, z0, z1, z2]) rfl ?_
              exact HG.out _ (below_al (three_cells HB.out _ (by omega) _ _ _)).drew
        · have hu2 : u < 4294967296 := hu1
          clear hu1 hin
          by_cases hr : 2147483648 ≤ u
          · have hsg : sgn u (8 * 4) = (u - 4294967296) := by
              unfold sgn
              have e1 : (2 : Int) ^ (8 * 4) = 4294967296 := by decide
              have e2 : (2 : Int) ^ (8 * 4 - 1) = 2147483648 := by decide
              rw [e1, e2]
              split <;> omega
            rw [hsg]
            have HG : Hid (∀ w1, Below w.heap.size w w1 → RR w S i 0 (.int .i64 0) (.int .i64 (u - 4294967296)) ((4 : Nat) : Int) 0 (.returned (.tuple #[.int .i64 (u - 4294967296), .agg #[.string S, .int .i64 ((i : Int) + 4), .int .i64 0]])) w1) := fun w1 hb => ⟨by simp [rdN, rdr], hb⟩
            clear hsg
            unfold rdr
            go_enter Tryd.func49, Tryd.ntmps49
            go_wp2_with fail
            refine (HZ.out _).mono ?_
            rintro en w1 ⟨rfl, rfl⟩
            go_wp2_with fail
            refine (HS.out _).mono ?_
            rintro en w1 ⟨rfl, hb⟩
            obtain ⟨⟨p0, p1, p2⟩, ⟨⟨a0, a1, a2⟩, ⟨g0, g1, g2⟩⟩, hlt, hbel⟩ := w0_facts (S := S) (i := i) (e := 0) hb
            obtain ⟨z0, z1, z2⟩ := res_alloc (.cells #[.string S, .int .i64 ((i : Int) + 4), .int .i64 0] 40) (.string S) (.int .i64 ((i : Int) + 4)) (.int .i64 0) (h := (w0_facts (S := S) (i := i) (e := 0) hb).2.1)
            have HB := Lib.hid hbel
            clear hbel hb
            go_wp2_with fail
            refine (HV.out _).mono ?_
            rintro en w2 ⟨rfl, rfl⟩
            go_wp2_with fail
            go_region
            all_goals
              go_wp2
              refine bodyPost_ret (v := .tuple #[.int .i64 (u - 4294967296), .agg #[.string S, .int .i64 ((i : Int) + 4), .int .i64 0]]) (by simp [results, Tryd.results49, go_sem, z0, z1, z2]) rfl ?_
              exact HG.out _ (below_al (three_cells HB.out _ (by omega) _ _ _)).drew
          · have hsg : sgn u (8 * 4) = u := by
              unfold sgn
              have e1 : (2 : Int) ^ (8 * 4) = 4294967296 := by decide
              have e2 : (2 : Int) ^ (8 * 4 - 1) = 2147483648 := by decide
              rw [e1, e2]
              split <;> omega
            rw [hsg]
            have HG : Hid (∀ w1, Below w.heap.size w w1 → RR w S i 0 (.int .i64 0) (.int .i64 u) ((4 : Nat) : Int) 0 (.returned (.tuple #[.int .i64 u, .agg #[.string S, .int .i64 ((i : Int) + 4), .int .i64 0]])) w1) := fun w1 hb => ⟨by simp [rdN, rdr], hb⟩
            clear hsg
            unfold rdr
            go_enter Tryd.func49, Tryd.ntmps49
            go_wp2_with fail
            refine (HZ.out _).mono ?_
            rintro en w1 ⟨rfl, rfl⟩
            go_wp2_with fail
            refine (HS.out _).mono ?_
            rintro en w1 ⟨rfl, hb⟩
            obtain ⟨⟨p0, p1, p2⟩, ⟨⟨a0, a1, a2⟩, ⟨g0, g1, g2⟩⟩, hlt, hbel⟩ := w0_facts (S := S) (i := i) (e := 0) hb
            obtain ⟨z0, z1, z2⟩ := res_alloc (.cells #[.string S, .int .i64 ((i : Int) + 4), .int .i64 0] 40) (.string S) (.int .i64 ((i : Int) + 4)) (.int .i64 0) (h := (w0_facts (S := S) (i := i) (e := 0) hb).2.1)
            have HB := Lib.hid hbel
            clear hbel hb
            go_wp2_with fail
            refine (HV.out _).mono ?_
            rintro en w2 ⟨rfl, rfl⟩
            go_wp2_with fail
            go_region
            all_goals
              go_wp2
              refine bodyPost_ret (v := .tuple #[.int .i64 u, .agg #[.string S, .int .i64 ((i : Int) + 4), .int .i64 0]]) (by simp [results, Tryd.results49, go_sem, z0, z1, z2]) rfl ?_
              exact HG.out _ (below_al (three_cells HB.out _ (by omega) _ _ _)).drew
        · have hu2 : u < 18446744073709551616 := hu1
          clear hu1 hin
          by_cases hr : 9223372036854775808 ≤ u
          · have hsg : sgn u (8 * 8) = (u - 18446744073709551616) := by
              unfold sgn
              have e1 : (2 : Int) ^ (8 * 8) = 18446744073709551616 := by decide
              have e2 : (2 : Int) ^ (8 * 8 - 1) = 9223372036854775808 := by decide
              rw [e1, e2]
              split <;> omega
            have hwr : Hid (wrap64 u = (u - 18446744073709551616)) := by show _ = _; unfold wrap64; omega
            rw [hsg]
            have HG : Hid (∀ w1, Below w.heap.size w w1 → RR w S i 0 (.int .i64 0) (.int .i64 (u - 18446744073709551616)) ((8 : Nat) : Int) 0 (.returned (.tuple #[.int .i64 (wrap64 u), .agg #[.string S, .int .i64 ((i : Int) + 8), .int .i64 0]])) w1) := fun w1 hb => ⟨by simp [rdN, rdr, hwr.out], hb⟩
            clear hsg
            unfold rdr
            go_enter Tryd.func49, Tryd.ntmps49
            go_wp2_with fail
            refine (HZ.out _).mono ?_
            rintro en w1 ⟨rfl, rfl⟩
            go_wp2_with fail
            refine (HS.out _).mono ?_
            rintro en w1 ⟨rfl, hb⟩
            obtain ⟨⟨p0, p1, p2⟩, ⟨⟨a0, a1, a2⟩, ⟨g0, g1, g2⟩⟩, hlt, hbel⟩ := w0_facts (S := S) (i := i) (e := 0) hb
            obtain ⟨z0, z1, z2⟩ := res_alloc (.cells #[.string S, .int .i64 ((i : Int) + 8), .int .i64 0] 40) (.string S) (.int .i64 ((i : Int) + 8)) (.int .i64 0) (h := (w0_facts (S := S) (i := i) (e := 0) hb).2.1)
            have HB := Lib.hid hbel
            clear hbel hb
            go_wp2_with fail
            refine (HV.out _).mono ?_
            rintro en w2 ⟨rfl, rfl⟩
            go_wp2_with fail
            go_region
            all_goals
              go_wp2
              refine bodyPost_ret (v := .tuple #[.int .i64 (wrap64 u), .agg #[.string S, .int .i64 ((i : Int) + 8), .int .i64 0]]) (by simp [results, Tryd.results49, go_sem, z0, z1, z2]) rfl ?_
              exact HG.out _ (below_al (three_cells HB.out _ (by omega) _ _ _)).drew
          · have hsg : sgn u (8 * 8) = u := by
              unfold sgn
              have e1 : (2 : Int) ^ (8 * 8) = 18446744073709551616 := by decide
              have e2 : (2 : Int) ^ (8 * 8 - 1) = 9223372036854775808 := by decide
              rw [e1, e2]
              split <;> omega
            rw [hsg]
            have HG : Hid (∀ w1, Below w.heap.size w w1 → RR w S i 0 (.int .i64 0) (.int .i64 u) ((8 : Nat) : Int) 0 (.returned (.tuple #[.int .i64 u, .agg #[.string S, .int .i64 ((i : Int) + 8), .int .i64 0]])) w1) := fun w1 hb => ⟨by simp [rdN, rdr], hb⟩
            clear hsg
            unfold rdr
            go_enter Tryd.func49, Tryd.ntmps49
            go_wp2_with fail
            refine (HZ.out _).mono ?_
            rintro en w1 ⟨rfl, rfl⟩
            go_wp2_with fail
            refine (HS.out _).mono ?_
            rintro en w1 ⟨rfl, hb⟩
            obtain ⟨⟨p0, p1, p2⟩, ⟨⟨a0, a1, a2⟩, ⟨g0, g1, g2⟩⟩, hlt, hbel⟩ := w0_facts (S := S) (i := i) (e := 0) hb
            obtain ⟨z0, z1, z2⟩ := res_alloc (.cells #[.string S, .int .i64 ((i : Int) + 8), .int .i64 0] 40) (.string S) (.int .i64 ((i : Int) + 8)) (.int .i64 0) (h := (w0_facts (S := S) (i := i) (e := 0) hb).2.1)
            have HB := Lib.hid hbel
            clear hbel hb
            go_wp2_with fail
            refine (HV.out _).mono ?_
            rintro en w2 ⟨rfl, rfl⟩
            go_wp2_with fail
            go_region
            all_goals
              go_wp2
              refine bodyPost_ret (v := .tuple #[.int .i64 u, .agg #[.string S, .int .i64 ((i : Int) + 8), .int .i64 0]]) (by simp [results, Tryd.results49, go_sem, z0, z1, z2]) rfl ?_
              exact HG.out _ (below_al (three_cells HB.out _ (by omega) _ _ _)).drew
  · have HG : Hid (∀ w1, Below w.heap.size w w1 → RR w S i e (.int .i64 0) (.int .i64 (sigR (rest S i) z).1) (sigR (rest S i) z).2.1 (sigR (rest S i) z).2.2 (.returned (.tuple #[.int .i64 0, .agg #[.string S, .int .i64 (i : Int), .int .i64 e]])) w1) := fun w1 hb => ⟨by simp [rdN, rdr, he], hb⟩
    have hq : (e != 0) = true := by rw [bne_iff_ne]; exact he
    clear he
    unfold rdr
    go_enter Tryd.func49, Tryd.ntmps49
    go_wp2_with fail
    go_region
    all_goals
      go_wp2
      refine bodyPost_ret (v := .tuple #[.int .i64 0, .agg #[.string S, .int .i64 (i : Int), .int .i64 e]]) (by simp [results, Tryd.results49, go_sem]) rfl ?_
      exact HG.out _ (below_al (below_al (Below.refl _ _))).drew
end Go.Proofs.YtjjdfodjkoiedaaDoor
