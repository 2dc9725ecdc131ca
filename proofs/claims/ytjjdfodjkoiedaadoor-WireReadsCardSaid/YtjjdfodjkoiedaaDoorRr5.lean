/-
  The reference's readers: ReadRaw, ReadEnd.
-/
import Derived.Test.YtjjdfodjkoiedaaDoorRr1
set_option linter.unusedVariables false
namespace Go.Proofs.YtjjdfodjkoiedaaDoor
open Go.RowKit

theorem ext_rest (S : ByteArray) (i n : Nat) (h : i + n ≤ S.size) : (rest S i).extract 0 n = S.extract i (i + n) := by
  unfold rest
  apply ByteArray.ext
  apply Array.toList_inj.1
  simp only [ByteArray.data_extract, Array.toList_extract, List.extract_eq_take_drop]
  rw [List.drop_take, List.take_take, List.drop_drop]
  congr 1
  · omega

set_option maxHeartbeats 2000000 in
set_option maxRecDepth 100000 in
theorem refReadRaw_any (S : ByteArray) (i : Nat) (e n : Int) (hS : S.size ≤ 1000000000) (hi : i ≤ S.size) (w : World) :
    Calls Tryd.prog 54 #[rdr S i e, .int .i64 n] w (RR w S i e (.string ⟨#[]⟩) (.string (rawR (rest S i) n).1) (rawR (rest S i) n).2.1 (rawR (rest S i) n).2.2) := by
  by_cases he : e = 0
  · subst he
    have hsz := rest_size S i
    unfold rawR
    by_cases h0 : n < 0
    · rw [if_pos h0]
      have hs := fun w => stop_any S i 0 11 w
      unfold rdr at hs
      have HS := Lib.hid hs
      have HG : Hid (∀ w1, Below w.heap.size w w1 → RR w S i 0 (.string ⟨#[]⟩) (.string ⟨#[]⟩) 0 11 (.returned (.tuple #[.string ⟨#[]⟩, .agg #[.string S, .int .i64 (i : Int), .int .i64 11]])) w1) := fun w1 hb => ⟨by simp [rdN, rdr], hb⟩
      clear hs hsz
      simp only []
      unfold rdr
      go_enter Tryd.func54, Tryd.ntmps54
      go_wp2_with fail
      refine (HS.out _).mono ?_
      rintro en w1 ⟨rfl, hb⟩
      obtain ⟨_, ⟨⟨a0, a1, a2⟩, ⟨g0, g1, g2⟩⟩, hlt, hbel⟩ := w0_facts (S := S) (i := i) (e := 0) hb
      have HB := Lib.hid hbel
      clear hb hbel
      go_wp2
      refine bodyPost_ret (v := .tuple #[.string ⟨#[]⟩, .agg #[.string S, .int .i64 (i : Int), .int .i64 11]]) (by simp [results, Tryd.results54, go_sem, a0, a1, a2]) rfl ?_
      exact HG.out _ (three_cells HB.out _ (by omega) _ _ _)
    · rw [if_neg h0]
      obtain ⟨m, rfl⟩ : ∃ m : Nat, n = (m : Int) := ⟨n.toNat, by omega⟩
      by_cases h1 : ((rest S i).size : Int) < (m : Int)
      · rw [if_pos h1]
        have hs := fun w => take_no S i 0 (m : Int) hS hi (by omega) w
        unfold rdr at hs
        have HS := Lib.hid hs
        have HG : Hid (∀ w1, Below w.heap.size w w1 → RR w S i 0 (.string ⟨#[]⟩) (.string ⟨#[]⟩) 0 16 (.returned (.tuple #[.string ⟨#[]⟩, .agg #[.string S, .int .i64 (i : Int), .int .i64 16]])) w1) := fun w1 hb => ⟨by simp [rdN, rdr], hb⟩
        clear hs hsz h1
        simp only []
        unfold rdr
        go_enter Tryd.func54, Tryd.ntmps54
        go_wp2_with fail
        refine (HS.out _).mono ?_
        rintro en w1 ⟨rfl, hb⟩
        obtain ⟨_, ⟨⟨a0, a1, a2⟩, ⟨g0, g1, g2⟩⟩, hlt, hbel⟩ := w0_facts (S := S) (i := i) (e := 0) hb
        have HB := Lib.hid hbel
        clear hb hbel
        go_wp2
        refine bodyPost_ret (v := .tuple #[.string ⟨#[]⟩, .agg #[.string S, .int .i64 (i : Int), .int .i64 16]]) (by simp [results, Tryd.results54, go_sem, a0, a1, a2]) rfl ?_
        exact HG.out _ (three_cells HB.out _ (by omega) _ _ _)
      · rw [if_neg h1]
        have hin : i + m ≤ S.size := by omega
        have hs := fun w => take_ok S i m 0 hS hin w
        have hx := ext_rest S i m hin
        unfold rdr at hs
        have HS := Lib.hid hs
        have HG : Hid (∀ w1, Below w.heap.size w w1 → RR w S i 0 (.string ⟨#[]⟩) (.string ((rest S i).extract 0 ((m : Int).toNat))) (m : Int) 0 (.returned (.tuple #[.string (S.extract i (i + m)), .agg #[.string S, .int .i64 ((i : Int) + (m : Int)), .int .i64 0]])) w1) := fun w1 hb => ⟨by rw [Int.toNat_natCast, hx]; simp [rdN, rdr], hb⟩
        clear hs hsz h1 hx hin
        simp only []
        unfold rdr
        go_enter Tryd.func54, Tryd.ntmps54
        go_wp2_with fail
        refine (HS.out _).mono ?_
        rintro en w1 ⟨rfl, hb⟩
        obtain ⟨_, ⟨⟨a0, a1, a2⟩, ⟨g0, g1, g2⟩⟩, hlt, hbel⟩ := w0_facts (S := S) (i := i) (e := 0) hb
        have HB := Lib.hid hbel
        clear hb hbel
        go_wp2
        refine bodyPost_ret (v := .tuple #[.string (S.extract i (i + m)), .agg #[.string S, .int .i64 ((i : Int) + (m : Int)), .int .i64 0]]) (by simp [results, Tryd.results54, go_sem, a0, a1, a2]) rfl ?_
        exact HG.out _ (three_cells HB.out _ (by omega) _ _ _)
  · have HG : Hid (∀ w1, Below w.heap.size w w1 → RR w S i e (.string ⟨#[]⟩) (.string (rawR (rest S i) n).1) (rawR (rest S i) n).2.1 (rawR (rest S i) n).2.2 (.returned (.tuple #[.string ⟨#[]⟩, .agg #[.string S, .int .i64 (i : Int), .int .i64 e]])) w1) := fun w1 hb => ⟨by simp [rdN, rdr, he], hb⟩
    have hq : (e != 0) = true := by rw [bne_iff_ne]; exact he
    clear he
    unfold rdr
    go_enter Tryd.func54, Tryd.ntmps54
    go_wp2_with fail
    go_region
    all_goals
      go_wp2
      refine bodyPost_ret (v := .tuple #[.string ⟨#[]⟩, .agg #[.string S, .int .i64 (i : Int), .int .i64 e]]) (by simp [results, Tryd.results54, go_sem]) rfl ?_
      exact HG.out _ (below_al (below_al (Below.refl _ _))).drew

set_option maxHeartbeats 2000000 in
set_option maxRecDepth 100000 in
theorem refReadEnd_any (S : ByteArray) (i : Nat) (e : Int) (hS : S.size ≤ 1000000000) (hi : i ≤ S.size) (w : World) :
    Calls Tryd.prog 24 #[rdr S i e] w fun en w' => en = .returned (rdr S i (if e = 0 ∧ i < S.size then 2 else e)) ∧ Below w.heap.size w w' := by
  by_cases he : e = 0
  · subst he
    by_cases hlt : i < S.size
    · rw [if_pos ⟨rfl, hlt⟩]
      have hs := fun w => stop_any S i 0 2 w
      have hI : (i : Int) < (S.size : Int) := by omega
      unfold rdr at *
      have HS := Lib.hid hs
      clear hs
      go_enter Tryd.func24, Tryd.ntmps24
      go_wp2_with fail
      refine (HS.out _).mono ?_
      rintro en w1 ⟨rfl, hb⟩
      obtain ⟨_, ⟨⟨a0, a1, a2⟩, ⟨g0, g1, g2⟩⟩, hlt, hbel⟩ := w0_facts (S := S) (i := i) (e := 0) hb
      have HB := Lib.hid hbel
      clear hb hbel
      go_wp2
      refine bodyPost_ret (v := .agg #[.string S, .int .i64 (i : Int), .int .i64 2]) (by simp [results, Tryd.results24, go_sem, a0, a1, a2]) rfl ?_
      exact ⟨rfl, three_cells HB.out _ (by omega) _ _ _⟩
    · rw [if_neg (fun h => hlt h.2)]
      have hI : ¬ (i : Int) < (S.size : Int) := by omega
      unfold rdr
      clear hlt
      go_enter Tryd.func24, Tryd.ntmps24
      go_wp2
      refine bodyPost_ret (v := .agg #[.string S, .int .i64 (i : Int), .int .i64 0]) (by simp [results, Tryd.results24, go_sem]) rfl ?_
      exact ⟨rfl, below_al (below_al (Below.refl _ _))⟩
  · rw [if_neg (fun h => he h.1)]
    have hq : (e == 0) = false := by rw [beq_eq_false_iff_ne]; exact he
    clear he
    unfold rdr
    go_enter Tryd.func24, Tryd.ntmps24
    go_wp2
    refine bodyPost_ret (v := .agg #[.string S, .int .i64 (i : Int), .int .i64 e]) (by simp [results, Tryd.results24, go_sem]) rfl ?_
    exact ⟨rfl, below_al (below_al (Below.refl _ _))⟩
end Go.Proofs.YtjjdfodjkoiedaaDoor
