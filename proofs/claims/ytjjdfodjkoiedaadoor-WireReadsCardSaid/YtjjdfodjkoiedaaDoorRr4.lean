/-
  The reference's readers: ReadNumber whole, ReadCount, ReadRaw, ReadEnd.
-/
import Derived.Test.YtjjdfodjkoiedaaDoorRr3
set_option linter.unusedVariables false
namespace Go.Proofs.YtjjdfodjkoiedaaDoor
open Go.RowKit

set_option maxHeartbeats 2000000 in
set_option maxRecDepth 100000 in
theorem refReadNumber_any (S : ByteArray) (i : Nat) (e : Int) (hS : S.size ≤ 1000000000) (hi : i ≤ S.size) (w : World) :
    Calls Tryd.prog 50 #[rdr S i e] w (RR w S i e (.int .i64 0) (.int .i64 (numR (rest S i)).1) (numR (rest S i)).2.1 (numR (rest S i)).2.2) := by
  by_cases he : e = 0
  · subst he
    have hsz := rest_size S i
    by_cases hi2 : i < S.size
    · by_cases hc : 224 < bt (rest S i) 0
      · have hn : numR (rest S i) = (0, 0, 2) := by unfold numR; rw [if_neg (by omega), if_pos hc]
        rw [hn]
        have hbr := bt_rest0 S i hi2
        have hb0 := bt_bd (rest S i) 0
        rw [hbr] at hc hb0
        have d1 : decide ((224 : Int) ≤ (S[i].toNat : Int)) = true := decide_eq_true (by omega)
        have d4 : decide ((224 : Int) < (S[i].toNat : Int)) = true := decide_eq_true (by omega)
        have hI0 : (0 : Int) ≤ (i : Int) := by omega
        have hI1 : (i : Int) < (S.size : Int) := by omega
        have hI2 : (S.size : Int) ≤ 1000000000 := by omega
        have hs := fun w => stop_any S i 0 2 w
        unfold rdr at hs
        have HS := Lib.hid hs
        have HG : Hid (∀ w1, Below w.heap.size w w1 → RR w S i 0 (.int .i64 0) (.int .i64 0) 0 2 (.returned (.tuple #[.int .i64 0, .agg #[.string S, .int .i64 (i : Int), .int .i64 2]])) w1) := fun w1 hb => ⟨by simp [rdN, rdr], hb⟩
        clear hs hsz hbr hn
        simp only []
        unfold rdr
        go_enter Tryd.func50, Tryd.ntmps50
        go_wp2_with fail
        refine (HS.out _).mono ?_
        rintro en w1 ⟨rfl, hb⟩
        obtain ⟨_, ⟨⟨a0, a1, a2⟩, ⟨g0, g1, g2⟩⟩, hlt, hbel⟩ := w0_facts (S := S) (i := i) (e := 0) hb
        have HB := Lib.hid hbel
        clear hb hbel
        go_wp2
        refine bodyPost_ret (v := .tuple #[.int .i64 0, .agg #[.string S, .int .i64 (i : Int), .int .i64 2]]) (by simp [results, Tryd.results50, go_sem, a0, a1, a2]) rfl ?_
        exact HG.out _ (three_cells HB.out _ (by omega) _ _ _)
      · by_cases h1 : bt (rest S i) 0 < 128
        · exact num_1 S i hS hi2 h1 w
        by_cases h2 : bt (rest S i) 0 < 192
        · exact num_2 S i hS hi2 (by omega) h2 w
        by_cases h3 : bt (rest S i) 0 < 224
        · exact num_4 S i hS hi2 (by omega) h3 w
        · exact num_9 S i hS hi2 (by omega) (by omega) w
    · have hn : numR (rest S i) = (0, 0, 16) := by unfold numR; rw [if_pos (by omega)]
      rw [hn]
      have hI1 : (S.size : Int) ≤ (i : Int) := by omega
      have hs := fun w => stop_any S i 0 16 w
      unfold rdr at hs
      have HS := Lib.hid hs
      have HG : Hid (∀ w1, Below w.heap.size w w1 → RR w S i 0 (.int .i64 0) (.int .i64 0) 0 16 (.returned (.tuple #[.int .i64 0, .agg #[.string S, .int .i64 (i : Int), .int .i64 16]])) w1) := fun w1 hb => ⟨by simp [rdN, rdr], hb⟩
      clear hs hsz hn hi2
      simp only []
      unfold rdr
      go_enter Tryd.func50, Tryd.ntmps50
      go_wp2_with fail
      refine (HS.out _).mono ?_
      rintro en w1 ⟨rfl, hb⟩
      obtain ⟨_, ⟨⟨a0, a1, a2⟩, ⟨g0, g1, g2⟩⟩, hlt, hbel⟩ := w0_facts (S := S) (i := i) (e := 0) hb
      have HB := Lib.hid hbel
      clear hb hbel
      go_wp2
      refine bodyPost_ret (v := .tuple #[.int .i64 0, .agg #[.string S, .int .i64 (i : Int), .int .i64 16]]) (by simp [results, Tryd.results50, go_sem, a0, a1, a2]) rfl ?_
      exact HG.out _ (three_cells HB.out _ (by omega) _ _ _)
  · have HG : Hid (∀ w1, Below w.heap.size w w1 → RR w S i e (.int .i64 0) (.int .i64 (numR (rest S i)).1) (numR (rest S i)).2.1 (numR (rest S i)).2.2 (.returned (.tuple #[.int .i64 0, .agg #[.string S, .int .i64 (i : Int), .int .i64 e]])) w1) := fun w1 hb => ⟨by simp [rdN, rdr, he], hb⟩
    have hq : (e != 0) = true := by rw [bne_iff_ne]; exact he
    clear he
    unfold rdr
    go_enter Tryd.func50, Tryd.ntmps50
    go_wp2_with fail
    go_region
    all_goals
      go_wp2
      refine bodyPost_ret (v := .tuple #[.int .i64 0, .agg #[.string S, .int .i64 (i : Int), .int .i64 e]]) (by simp [results, Tryd.results50, go_sem]) rfl ?_
      exact HG.out _ (below_al (below_al (Below.refl _ _))).drew

set_option maxHeartbeats 2000000 in
set_option maxRecDepth 100000 in
theorem count_err (S : ByteArray) (i j : Nat) (e x most v : Int) (w : World)
    (hn : ∀ w, Calls Tryd.prog 50 #[rdr S i e] w fun en w' => en = .returned (.tuple #[.int .i64 v, rdr S j x]) ∧ Below w.heap.size w w') (hx : x ≠ 0) :
    Calls Tryd.prog 53 #[rdr S i e, .int .i64 most] w fun en w' => en = .returned (.tuple #[.int .i64 0, rdr S j x]) ∧ Below w.heap.size w w' := by
  have hq : (x != 0) = true := by rw [bne_iff_ne]; exact hx
  clear hx
  unfold rdr at *
  have HN := Lib.hid hn
  have hst := fun w => stop_any S i e 0 w
  unfold rdr at hst
  have HST := Lib.hid hst
  clear hn hst
  go_enter Tryd.func53, Tryd.ntmps53
  go_wp2_with fail
  refine (HN.out _).mono ?_
  rintro en w1 ⟨rfl, hb⟩
  obtain ⟨⟨p0, p1, p2⟩, ⟨⟨a0, a1, a2⟩, ⟨g0, g1, g2⟩⟩, hlt, hbel⟩ := w0_facts (S := S) (i := i) (e := e) hb
  obtain ⟨z0, z1, z2⟩ := res_alloc (.cells #[.string S, .int .i64 (j : Int), .int .i64 x] 40) (.string S) (.int .i64 (j : Int)) (.int .i64 x) (h := (w0_facts (S := S) (i := i) (e := e) hb).2.1)
  have hlt0 : w.heap.size < w1.heap.size := by omega
  have HB := Lib.hid hb
  have HBEL := Lib.hid hbel
  clear hbel hb
  go_wp2_with fail
  go_region
  all_goals
    go_wp2
    refine bodyPost_ret (v := .tuple #[.int .i64 0, .agg #[.string S, .int .i64 (j : Int), .int .i64 x]]) (by simp [results, Tryd.results53, go_sem, z0, z1, z2]) rfl ?_
    exact ⟨rfl, (below_al (three_cells HBEL.out _ (by omega) _ _ _)).drew⟩


set_option maxHeartbeats 2000000 in
set_option maxRecDepth 100000 in
theorem count_neg (S : ByteArray) (i j : Nat) (e x most v : Int) (w : World)
    (hn : ∀ w, Calls Tryd.prog 50 #[rdr S i e] w fun en w' => en = .returned (.tuple #[.int .i64 v, rdr S j x]) ∧ Below w.heap.size w w') (hx : x = 0) (h : v < 0) :
    Calls Tryd.prog 53 #[rdr S i e, .int .i64 most] w fun en w' => en = .returned (.tuple #[.int .i64 0, rdr S i 11]) ∧ Below w.heap.size w w' := by
  subst hx
  unfold rdr at *
  have HN := Lib.hid hn
  have hst := fun w => stop_any S i e 11 w
  unfold rdr at hst
  have HST := Lib.hid hst
  clear hn hst
  go_enter Tryd.func53, Tryd.ntmps53
  go_wp2_with fail
  refine (HN.out _).mono ?_
  rintro en w1 ⟨rfl, hb⟩
  obtain ⟨⟨p0, p1, p2⟩, ⟨⟨a0, a1, a2⟩, ⟨g0, g1, g2⟩⟩, hlt, hbel⟩ := w0_facts (S := S) (i := i) (e := e) hb
  obtain ⟨z0, z1, z2⟩ := res_alloc (.cells #[.string S, .int .i64 (j : Int), .int .i64 0] 40) (.string S) (.int .i64 (j : Int)) (.int .i64 0) (h := (w0_facts (S := S) (i := i) (e := e) hb).2.1)
  have hlt0 : w.heap.size < w1.heap.size := by omega
  have HB := Lib.hid hb
  have HBEL := Lib.hid hbel
  clear hbel hb
  go_wp2_with fail
  refine (HST.out _).mono ?_
  rintro en w3 ⟨rfl, hb⟩
  have hb3 := w0_chain HB.out hb
  obtain ⟨_, ⟨⟨b0, b1, b2⟩, ⟨f0, f1, f2⟩⟩, hlt3, hbel3⟩ := w0_facts (S := S) (i := i) (e := e) hb3
  have HB3 := Lib.hid hbel3
  clear hb hb3 hbel3 a0 a1 a2 g0 g1 g2 p0 p1 p2
  go_wp2
  refine bodyPost_ret (v := .tuple #[.int .i64 0, .agg #[.string S, .int .i64 (i : Int), .int .i64 11]]) (by simp [results, Tryd.results53, go_sem, b0, b1, b2]) rfl ?_
  exact ⟨rfl, three_cells HB3.out _ (by omega) _ _ _⟩


set_option maxHeartbeats 2000000 in
set_option maxRecDepth 100000 in
theorem count_big (S : ByteArray) (i j : Nat) (e x most v : Int) (w : World)
    (hn : ∀ w, Calls Tryd.prog 50 #[rdr S i e] w fun en w' => en = .returned (.tuple #[.int .i64 v, rdr S j x]) ∧ Below w.heap.size w w') (hx : x = 0) (h0 : 0 ≤ v) (h : most < v) :
    Calls Tryd.prog 53 #[rdr S i e, .int .i64 most] w fun en w' => en = .returned (.tuple #[.int .i64 0, rdr S i 3]) ∧ Below w.heap.size w w' := by
  subst hx
  unfold rdr at *
  have HN := Lib.hid hn
  have hst := fun w => stop_any S i e 3 w
  unfold rdr at hst
  have HST := Lib.hid hst
  clear hn hst
  go_enter Tryd.func53, Tryd.ntmps53
  go_wp2_with fail
  refine (HN.out _).mono ?_
  rintro en w1 ⟨rfl, hb⟩
  obtain ⟨⟨p0, p1, p2⟩, ⟨⟨a0, a1, a2⟩, ⟨g0, g1, g2⟩⟩, hlt, hbel⟩ := w0_facts (S := S) (i := i) (e := e) hb
  obtain ⟨z0, z1, z2⟩ := res_alloc (.cells #[.string S, .int .i64 (j : Int), .int .i64 0] 40) (.string S) (.int .i64 (j : Int)) (.int .i64 0) (h := (w0_facts (S := S) (i := i) (e := e) hb).2.1)
  have hlt0 : w.heap.size < w1.heap.size := by omega
  have HB := Lib.hid hb
  have HBEL := Lib.hid hbel
  clear hbel hb
  go_wp2_with fail
  refine (HST.out _).mono ?_
  rintro en w3 ⟨rfl, hb⟩
  have hb3 := w0_chain HB.out hb
  obtain ⟨_, ⟨⟨b0, b1, b2⟩, ⟨f0, f1, f2⟩⟩, hlt3, hbel3⟩ := w0_facts (S := S) (i := i) (e := e) hb3
  have HB3 := Lib.hid hbel3
  clear hb hb3 hbel3 a0 a1 a2 g0 g1 g2 p0 p1 p2
  go_wp2
  refine bodyPost_ret (v := .tuple #[.int .i64 0, .agg #[.string S, .int .i64 (i : Int), .int .i64 3]]) (by simp [results, Tryd.results53, go_sem, b0, b1, b2]) rfl ?_
  exact ⟨rfl, three_cells HB3.out _ (by omega) _ _ _⟩


set_option maxHeartbeats 2000000 in
set_option maxRecDepth 100000 in
theorem count_ok (S : ByteArray) (i j : Nat) (e x most v : Int) (w : World)
    (hn : ∀ w, Calls Tryd.prog 50 #[rdr S i e] w fun en w' => en = .returned (.tuple #[.int .i64 v, rdr S j x]) ∧ Below w.heap.size w w') (hx : x = 0) (h0 : 0 ≤ v) (h : v ≤ most) :
    Calls Tryd.prog 53 #[rdr S i e, .int .i64 most] w fun en w' => en = .returned (.tuple #[.int .i64 v, rdr S j 0]) ∧ Below w.heap.size w w' := by
  subst hx
  unfold rdr at *
  have HN := Lib.hid hn
  have hst := fun w => stop_any S i e 3 w
  unfold rdr at hst
  have HST := Lib.hid hst
  clear hn hst
  go_enter Tryd.func53, Tryd.ntmps53
  go_wp2_with fail
  refine (HN.out _).mono ?_
  rintro en w1 ⟨rfl, hb⟩
  obtain ⟨⟨p0, p1, p2⟩, ⟨⟨a0, a1, a2⟩, ⟨g0, g1, g2⟩⟩, hlt, hbel⟩ := w0_facts (S := S) (i := i) (e := e) hb
  obtain ⟨z0, z1, z2⟩ := res_alloc (.cells #[.string S, .int .i64 (j : Int), .int .i64 0] 40) (.string S) (.int .i64 (j : Int)) (.int .i64 0) (h := (w0_facts (S := S) (i := i) (e := e) hb).2.1)
  have hlt0 : w.heap.size < w1.heap.size := by omega
  have HB := Lib.hid hb
  have HBEL := Lib.hid hbel
  clear hbel hb
  go_wp2_with fail
  go_region
  all_goals
    go_wp2
    refine bodyPost_ret (v := .tuple #[.int .i64 v, .agg #[.string S, .int .i64 (j : Int), .int .i64 0]]) (by simp [results, Tryd.results53, go_sem, z0, z1, z2]) rfl ?_
    exact ⟨rfl, (below_al (three_cells HBEL.out _ (by omega) _ _ _)).drew⟩


theorem refReadCount_any (S : ByteArray) (i : Nat) (e most : Int) (hS : S.size ≤ 1000000000) (hi : i ≤ S.size) (w : World) :
    Calls Tryd.prog 53 #[rdr S i e, .int .i64 most] w (RR w S i e (.int .i64 0) (.int .i64 (cntR (rest S i) most).1) (cntR (rest S i) most).2.1 (cntR (rest S i) most).2.2) := by
  have hn := fun w => refReadNumber_any S i e hS hi w
  unfold RR at *
  unfold cntR
  by_cases he : e = 0
  · subst he
    have hok := numR_ok (rest S i)
    generalize numR (rest S i) = r at *
    obtain ⟨v, n, x⟩ := r
    simp only [ne_eq, not_true_eq_false, if_false] at hn hok ⊢
    by_cases hx : x = 0
    · subst hx
      simp only [if_true]
      have hn' : ∀ w, Calls Tryd.prog 50 #[rdr S i 0] w fun en w' => en = .returned (.tuple #[.int .i64 v, rdr S (i + n.toNat) 0]) ∧ Below w.heap.size w w' := by simpa [rdN] using hn
      by_cases h1 : v < 0
      · rw [if_pos h1]
        simpa [rdN] using count_neg S i _ 0 0 most v w hn' rfl h1
      · rw [if_neg h1]
        by_cases h2 : most < v
        · rw [if_pos h2]
          simpa [rdN] using count_big S i _ 0 0 most v w hn' rfl (by omega) h2
        · rw [if_neg h2]
          simpa [rdN] using count_ok S i _ 0 0 most v w hn' rfl (by omega) (by omega)
    · simp only [if_neg hx]
      have hn' : ∀ w, Calls Tryd.prog 50 #[rdr S i 0] w fun en w' => en = .returned (.tuple #[.int .i64 v, rdr S i x]) ∧ Below w.heap.size w w' := by simpa [rdN, hx] using hn
      simpa [rdN, hx] using count_err S i i 0 x most v w hn' hx
  · have hn' : ∀ w, Calls Tryd.prog 50 #[rdr S i e] w fun en w' => en = .returned (.tuple #[.int .i64 0, rdr S i e]) ∧ Below w.heap.size w w' := by simpa [rdN, he] using hn
    simpa [rdN, he] using count_err S i i e e most 0 w hn' he
end Go.Proofs.YtjjdfodjkoiedaaDoor
