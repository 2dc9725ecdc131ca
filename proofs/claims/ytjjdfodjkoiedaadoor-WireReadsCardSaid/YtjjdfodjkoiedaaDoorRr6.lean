/-
  The reference's readers: ReadString. Written by gen_rr6.py.
-/
import Derived.Test.YtjjdfodjkoiedaaDoorRr4
import Derived.Test.YtjjdfodjkoiedaaDoorRr5
import Derived.Test.YtjjdfodjkoiedaaDoorRBits
import Derived.RegionTactic
import Derived.Deep.RegionWith
set_option linter.unusedVariables false
namespace Go.Proofs.YtjjdfodjkoiedaaDoor
open Go.RowKit

theorem w0_chain2 {w w1 w2 : World} {S : ByteArray} {i e : Int} (hb : Below (W0 w S i e).heap.size (W0 w S i e) w1) (hb2 : Below w1.heap.size w1 w2) : Below (W0 w S i e).heap.size (W0 w S i e) w2 :=
  hb.trans (hb2.mono hb.size)


set_option maxHeartbeats 2000000 in
set_option maxRecDepth 100000 in
theorem str_err (S : ByteArray) (i j : Nat) (e x most m : Int) (v : Nat) (w : World) (hS : S.size ≤ 1000000000) (hm : (most ≤ 1048576 ∧ m = most) ∨ (1048576 < most ∧ m = 1048576))
    (hn : ∀ w, Calls Tryd.prog 53 #[rdr S i e, .int .i64 m] w fun en w' => en = .returned (.tuple #[.int .i64 (v : Int), rdr S j x]) ∧ Below w.heap.size w w') (hx : x ≠ 0) :
    Calls Tryd.prog 51 #[rdr S i e, .int .i64 most] w fun en w' => en = .returned (.tuple #[.string ⟨#[]⟩, rdr S j x]) ∧ Below w.heap.size w w' := by
  unfold rdr at *
  have hq : (x != 0) = true := by rw [bne_iff_ne]; exact hx
  clear hx
  have HN := Lib.hid hn
  clear hn
  rcases hm with ⟨hm, rfl⟩ | ⟨hm, rfl⟩
  all_goals
    go_enter Tryd.func51, Tryd.ntmps51
    go_wp2_with fail
    refine (HN.out _).mono ?_
    rintro en w1 ⟨rfl, hb⟩
    obtain ⟨⟨p0, p1, p2⟩, ⟨⟨a0, a1, a2⟩, ⟨g0, g1, g2⟩⟩, hlt, hbel⟩ := w0_facts (S := S) (i := i) (e := e) hb
    obtain ⟨z0, z1, z2⟩ := res_alloc (.cells #[.string S, .int .i64 (j : Int), .int .i64 x] 40) (.string S) (.int .i64 (j : Int)) (.int .i64 x) (h := (w0_facts (S := S) (i := i) (e := e) hb).2.1)
    have hlt0 : w.heap.size < w1.heap.size := by omega
    have HB := Lib.hid hb
    have HBEL := Lib.hid hbel
    clear hbel hb
    go_wp2_with fail
    go_region
    all_goals
      go_wp2
      refine bodyPost_ret (v := .tuple #[.string ⟨#[]⟩, .agg #[.string S, .int .i64 (j : Int), .int .i64 x]]) (by simp [results, Tryd.results51, go_sem, z0, z1, z2]) rfl ?_
      exact ⟨rfl, (below_al (three_cells HBEL.out _ (by omega) _ _ _)).drew⟩


set_option maxHeartbeats 2000000 in
set_option maxRecDepth 100000 in
theorem str_ok (S : ByteArray) (i j : Nat) (e x most m : Int) (v : Nat) (w : World) (hS : S.size ≤ 1000000000) (hm : (most ≤ 1048576 ∧ m = most) ∨ (1048576 < most ∧ m = 1048576))
    (hn : ∀ w, Calls Tryd.prog 53 #[rdr S i e, .int .i64 m] w fun en w' => en = .returned (.tuple #[.int .i64 (v : Int), rdr S j x]) ∧ Below w.heap.size w w') (hx : x = 0) (h : j + v ≤ S.size) :
    Calls Tryd.prog 51 #[rdr S i e, .int .i64 most] w fun en w' => en = .returned (.tuple #[.string (S.extract j (j + v)), rdr S (j + v) 0]) ∧ Below w.heap.size w w' := by
  subst hx
  have htk := fun w => take_ok S j v 0 hS h w
  unfold rdr at *
  have HTK := Lib.hid htk
  clear htk h
  have HN := Lib.hid hn
  clear hn
  rcases hm with ⟨hm, rfl⟩ | ⟨hm, rfl⟩
  all_goals
    go_enter Tryd.func51, Tryd.ntmps51
    go_wp2_with fail
    refine (HN.out _).mono ?_
    rintro en w1 ⟨rfl, hb⟩
    obtain ⟨⟨p0, p1, p2⟩, ⟨⟨a0, a1, a2⟩, ⟨g0, g1, g2⟩⟩, hlt, hbel⟩ := w0_facts (S := S) (i := i) (e := e) hb
    obtain ⟨z0, z1, z2⟩ := res_alloc (.cells #[.string S, .int .i64 (j : Int), .int .i64 0] 40) (.string S) (.int .i64 (j : Int)) (.int .i64 0) (h := (w0_facts (S := S) (i := i) (e := e) hb).2.1)
    have hlt0 : w.heap.size < w1.heap.size := by omega
    have HB := Lib.hid hb
    have HBEL := Lib.hid hbel
    clear hbel hb
    go_wp2_with fail
    refine (HTK.out _).mono ?_
    rintro en w2 ⟨rfl, hb⟩
    have hb2 := w0_chain HB.out hb
    obtain ⟨⟨q0, q1, q2⟩, ⟨⟨b0, b1, b2⟩, ⟨f0, f1, f2⟩⟩, hlt2, hbel2⟩ := w0_facts (S := S) (i := i) (e := e) hb2
    obtain ⟨y0, y1, y2⟩ := res_alloc (.cells #[.string S, .int .i64 ((j : Int) + (v : Int)), .int .i64 0] 40) (.string S) (.int .i64 ((j : Int) + (v : Int))) (.int .i64 0) (h := (w0_facts (S := S) (i := i) (e := e) hb2).2.1)
    have hlt20 : w.heap.size < w2.heap.size := by omega
    have HB2 := Lib.hid hb2
    have HBEL2 := Lib.hid hbel2
    clear hb hb2 hbel2 a0 a1 a2 g0 g1 g2 p0 p1 p2 z0 z1 z2
    go_wp2_with fail
    go_region
    all_goals
      go_wp2
      refine bodyPost_ret (v := .tuple #[.string (S.extract j (j + v)), .agg #[.string S, .int .i64 ((j : Int) + (v : Int)), .int .i64 0]]) (by simp [results, Tryd.results51, go_sem, y0, y1, y2]) rfl ?_
      exact ⟨by simp, (below_al (three_cells HBEL2.out _ (by omega) _ _ _)).drew⟩


set_option maxHeartbeats 2000000 in
set_option maxRecDepth 100000 in
theorem str_short (S : ByteArray) (i j : Nat) (e x most m : Int) (v : Nat) (w : World) (hS : S.size ≤ 1000000000) (hm : (most ≤ 1048576 ∧ m = most) ∨ (1048576 < most ∧ m = 1048576))
    (hn : ∀ w, Calls Tryd.prog 53 #[rdr S i e, .int .i64 m] w fun en w' => en = .returned (.tuple #[.int .i64 (v : Int), rdr S j x]) ∧ Below w.heap.size w w') (hx : x = 0) (hj : j ≤ S.size) (h : (S.size : Int) - (j : Int) < (v : Int)) :
    Calls Tryd.prog 51 #[rdr S i e, .int .i64 most] w fun en w' => en = .returned (.tuple #[.string ⟨#[]⟩, rdr S i 16]) ∧ Below w.heap.size w w' := by
  subst hx
  have htk := fun w => take_no S j 0 (v : Int) hS hj h w
  have hst := fun w => stop_any S i e 16 w
  unfold rdr at *
  have HTK := Lib.hid htk
  have HST := Lib.hid hst
  clear htk hst h hj
  have HN := Lib.hid hn
  clear hn
  rcases hm with ⟨hm, rfl⟩ | ⟨hm, rfl⟩
  all_goals
    go_enter Tryd.func51, Tryd.ntmps51
    go_wp2_with fail
    refine (HN.out _).mono ?_
    rintro en w1 ⟨rfl, hb⟩
    obtain ⟨⟨p0, p1, p2⟩, ⟨⟨a0, a1, a2⟩, ⟨g0, g1, g2⟩⟩, hlt, hbel⟩ := w0_facts (S := S) (i := i) (e := e) hb
    obtain ⟨z0, z1, z2⟩ := res_alloc (.cells #[.string S, .int .i64 (j : Int), .int .i64 0] 40) (.string S) (.int .i64 (j : Int)) (.int .i64 0) (h := (w0_facts (S := S) (i := i) (e := e) hb).2.1)
    have hlt0 : w.heap.size < w1.heap.size := by omega
    have HB := Lib.hid hb
    have HBEL := Lib.hid hbel
    clear hbel hb
    go_wp2_with fail
    refine (HTK.out _).mono ?_
    rintro en w2 ⟨rfl, hb⟩
    have hb2 := w0_chain HB.out hb
    obtain ⟨⟨q0, q1, q2⟩, ⟨⟨b0, b1, b2⟩, ⟨f0, f1, f2⟩⟩, hlt2, hbel2⟩ := w0_facts (S := S) (i := i) (e := e) hb2
    obtain ⟨y0, y1, y2⟩ := res_alloc (.cells #[.string S, .int .i64 (j : Int), .int .i64 16] 40) (.string S) (.int .i64 (j : Int)) (.int .i64 16) (h := (w0_facts (S := S) (i := i) (e := e) hb2).2.1)
    have hlt20 : w.heap.size < w2.heap.size := by omega
    have HB2 := Lib.hid hb2
    have HBEL2 := Lib.hid hbel2
    clear hb hb2 hbel2 a0 a1 a2 g0 g1 g2 p0 p1 p2 z0 z1 z2
    go_wp2_with fail
    refine (HST.out _).mono ?_
    rintro en w3 ⟨rfl, hb⟩
    have hb3 := w0_chain HB2.out hb
    obtain ⟨_, ⟨⟨c0, c1, c2⟩, ⟨k0, k1, k2⟩⟩, hlt3, hbel3⟩ := w0_facts (S := S) (i := i) (e := e) hb3
    have HB3 := Lib.hid hbel3
    clear hb hb3 hbel3 b0 b1 b2 f0 f1 f2 q0 q1 q2 y0 y1 y2
    go_wp2
    refine bodyPost_ret (v := .tuple #[.string ⟨#[]⟩, .agg #[.string S, .int .i64 (i : Int), .int .i64 16]]) (by simp [results, Tryd.results51, go_sem, c0, c1, c2]) rfl ?_
    exact ⟨rfl, three_cells HB3.out _ (by omega) _ _ _⟩


theorem ext_rest2 (S : ByteArray) (i n v : Nat) (h : i + n + v ≤ S.size) : (rest S i).extract n (n + v) = S.extract (i + n) (i + n + v) := by
  unfold rest
  apply ByteArray.ext
  apply Array.toList_inj.1
  simp only [ByteArray.data_extract, Array.toList_extract, List.extract_eq_take_drop]
  rw [List.drop_take, List.take_take, List.drop_drop]
  congr 1
  · omega

theorem refReadString_any (S : ByteArray) (i : Nat) (e most : Int) (hS : S.size ≤ 1000000000) (hi : i ≤ S.size) (w : World) :
    Calls Tryd.prog 51 #[rdr S i e, .int .i64 most] w (RR w S i e (.string ⟨#[]⟩) (.string (strR (rest S i) most).1) (strR (rest S i) most).2.1 (strR (rest S i) most).2.2) := by
  have hm : (most ≤ 1048576 ∧ min most 1048576 = most) ∨ (1048576 < most ∧ min most 1048576 = 1048576) := by omega
  have hsz := rest_size S i
  have hbd := cntR_bd (rest S i) (min most 1048576)
  have her := cntR_err (rest S i) (min most 1048576)
  have hn := fun w => refReadCount_any S i e (min most 1048576) hS hi w
  unfold RR at *
  unfold strR
  generalize min most 1048576 = m at *
  by_cases he : e = 0
  · subst he
    generalize cntR (rest S i) m = r at *
    obtain ⟨v, n, x⟩ := r
    simp only [ne_eq, not_true_eq_false, if_false] at hn hbd her ⊢
    by_cases hx : x = 0
    · subst hx
      simp only [if_true]
      obtain ⟨h0, _, h2, _, h4⟩ := hbd rfl
      obtain ⟨v, rfl⟩ := Int.eq_ofNat_of_zero_le h0
      obtain ⟨n, rfl⟩ := Int.eq_ofNat_of_zero_le h2
      have hn' : ∀ w, Calls Tryd.prog 53 #[rdr S i 0, .int .i64 m] w fun en w' => en = .returned (.tuple #[.int .i64 (v : Int), rdr S (i + n) 0]) ∧ Below w.heap.size w w' := by simpa [rdN] using hn
      by_cases h1 : ((rest S i).size : Int) - (n : Int) < (v : Int)
      · rw [if_pos h1]
        simpa [rdN] using str_short S i (i + n) 0 0 most m v w hS hm hn' rfl (by omega) (by omega)
      · rw [if_neg h1]
        have hk := str_ok S i (i + n) 0 0 most m v w hS hm hn' rfl (by omega)
        simp only [Int.toNat_natCast, show ((n : Int) + (v : Int)).toNat = n + v by omega]
        rw [ext_rest2 S i n v (by omega)]
        have hrd : rdN i 0 ((n : Int) + (v : Int)) 0 = (i + n + v, 0) := by unfold rdN; simp; omega
        rw [hrd]
        exact hk
    · obtain ⟨rfl, rfl⟩ := her hx
      simp only [if_neg hx]
      have hn' : ∀ w, Calls Tryd.prog 53 #[rdr S i 0, .int .i64 m] w fun en w' => en = .returned (.tuple #[.int .i64 ((0 : Nat) : Int), rdr S i x]) ∧ Below w.heap.size w w' := by simpa [rdN, hx] using hn
      simpa [rdN, hx] using str_err S i i 0 x most m 0 w hS hm hn' hx
  · have hn' : ∀ w, Calls Tryd.prog 53 #[rdr S i e, .int .i64 m] w fun en w' => en = .returned (.tuple #[.int .i64 ((0 : Nat) : Int), rdr S i e]) ∧ Below w.heap.size w w' := by simpa [rdN, he] using hn
    simpa [rdN, he] using str_err S i i e e most m 0 w hS hm hn' he
end Go.Proofs.YtjjdfodjkoiedaaDoor
