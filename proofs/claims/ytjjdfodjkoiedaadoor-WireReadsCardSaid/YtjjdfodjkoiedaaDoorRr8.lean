/-
  The reference's readers: ReadBits whole.
-/
import Derived.Test.YtjjdfodjkoiedaaDoorRr7
set_option linter.unusedVariables false
namespace Go.Proofs.YtjjdfodjkoiedaaDoor
open Go.RowKit

/-- An answer of ReadBits. -/
def RRB (w : World) (S : ByteArray) (i : Nat) (e : Int) (L : List Bool) (n x : Int) (en : Ending) (w' : World) : Prop :=
  ∃ a ll lc, en = .returned (.tuple #[.slice a ll lc, rdr S (rdN i e n x).1 (rdN i e n x).2]) ∧ Below w.heap.size w w' ∧ BoolsAt (fun b => w.heap.size ≤ b) w' (.slice a ll lc) (if e ≠ 0 then [] else L)

theorem refReadBits_any (S : ByteArray) (i : Nat) (e most : Int) (hS : S.size ≤ 1000000000) (hi : i ≤ S.size) (w : World) :
    Calls Tryd.prog 52 #[rdr S i e, .int .i64 most] w (RRB w S i e (bitR (rest S i) most).1 (bitR (rest S i) most).2.1 (bitR (rest S i) most).2.2) := by
  have hm : (most ≤ 65536 ∧ min most 65536 = most) ∨ (65536 < most ∧ min most 65536 = 65536) := by omega
  have hm2 : min most 65536 ≤ 65536 := by omega
  have hsz := rest_size S i
  have hbd := cntR_bd (rest S i) (min most 65536)
  have her := cntR_err (rest S i) (min most 65536)
  have hn := fun w => refReadCount_any S i e (min most 65536) hS hi w
  unfold RR at hn
  unfold RRB
  unfold bitR
  generalize min most 65536 = m at *
  by_cases he : e = 0
  · subst he
    generalize cntR (rest S i) m = r at *
    obtain ⟨v, n, x⟩ := r
    simp only [ne_eq, not_true_eq_false, if_false] at hn hbd her ⊢
    by_cases hx : x = 0
    · subst hx
      simp only [if_true]
      obtain ⟨h0, h1, h2, _, h4⟩ := hbd rfl
      obtain ⟨v, rfl⟩ := Int.eq_ofNat_of_zero_le h0
      obtain ⟨n, rfl⟩ := Int.eq_ofNat_of_zero_le h2
      obtain ⟨p, hp⟩ : ∃ p : Nat, p = (v + 7) / 8 := ⟨_, rfl⟩
      have hpI : ((v : Int) + 7) / 8 = (p : Int) := by omega
      have hn' : ∀ w, Calls Tryd.prog 53 #[rdr S i 0, .int .i64 m] w fun en w' => en = .returned (.tuple #[.int .i64 (v : Int), rdr S (i + n) 0]) ∧ Below w.heap.size w w' := by simpa [rdN] using hn
      rw [hpI]
      by_cases hsh : ((rest S i).size : Int) < (n : Int) + (p : Int)
      · rw [if_pos hsh]
        refine (bitr_short S i (i + n) 0 0 most m v p w hS hm (by omega) hp hn' rfl (by omega) (by omega)).mono fun en w' ⟨h1, h2⟩ => ?_
        exact ⟨none, 0, 0, by rw [h1]; simp [rdN], h2, BoolsAt.nil⟩
      · rw [if_neg hsh]
        have hin : i + n + p ≤ S.size := by omega
        have htl := tail_iff (S.extract (i + n) (i + n + p)) v p hp
        have hok := bitr_ok S i (i + n) 0 0 most m v p w hS hm (by omega) hp hn' rfl hin
        have e1 : ((n : Int) + (p : Int) - 1).toNat = n + p - 1 := by omega
        have e2 : ((v : Int) % 8).toNat = v % 8 := by omega
        have e3 : (0 < (v : Int) % 8) ↔ 0 < v % 8 := by omega
        rw [e1, e2]
        by_cases hbad : ∃ t, v ≤ t ∧ t < 8 * p ∧ bitAt (S.extract (i + n) (i + n + p)) t = true
        · obtain ⟨g1, g2⟩ := htl.2 hbad
          have hp0 : 0 < p := by omega
          rw [bt_ext2 S i n p (p - 1) (by omega) hin, show n + (p - 1) = n + p - 1 by omega] at g2
          rw [if_pos ⟨e3.2 g1, g2⟩]
          refine hok.mono fun en w' h => ?_
          rcases h with ⟨hno, _⟩ | ⟨_, h1, h2⟩
          · obtain ⟨t, t1, t2, t3⟩ := hbad
            rw [hno t t1 t2] at t3; cases t3
          · exact ⟨none, 0, 0, by rw [h1]; simp [rdN, rdr], h2, BoolsAt.nil⟩
        · have hng : ¬ (0 < (v : Int) % 8 ∧ bt (rest S i) (n + p - 1) * 2 ^ (v % 8) % 256 ≠ 0) := by
            rintro ⟨g1, g2⟩
            have g1' := e3.1 g1
            refine hbad (htl.1 ⟨g1', ?_⟩)
            rw [bt_ext2 S i n p (p - 1) (by omega) hin, show n + (p - 1) = n + p - 1 by omega]
            exact g2
          rw [if_neg hng]
          refine hok.mono fun en w' h => ?_
          rcases h with ⟨_, a, ll, lc, h1, h2, h3⟩ | ⟨hb, _⟩
          · refine ⟨a, ll, lc, ?_, h2, ?_⟩
            · rw [h1]
              have hrd : rdN i 0 ((n : Int) + (p : Int)) 0 = (i + n + p, 0) := by unfold rdN; simp; omega
              rw [hrd]
              simp [rdr]
            · simp only [Int.toNat_natCast]
              rw [bitL_ext S i n v p hp hin]
              exact h3
          · exact absurd hb hbad
    · obtain ⟨rfl, rfl⟩ := her hx
      simp only [if_neg hx]
      have hn' : ∀ w, Calls Tryd.prog 53 #[rdr S i 0, .int .i64 m] w fun en w' => en = .returned (.tuple #[.int .i64 ((0 : Nat) : Int), rdr S i x]) ∧ Below w.heap.size w w' := by simpa [rdN, hx] using hn
      refine (bitr_err S i i 0 x most m 0 0 w hS hm (by omega) (by decide) hn' hx).mono fun en w' ⟨h1, h2⟩ => ?_
      exact ⟨none, 0, 0, by rw [h1]; simp [rdN, hx], h2, BoolsAt.nil⟩
  · have hn' : ∀ w, Calls Tryd.prog 53 #[rdr S i e, .int .i64 m] w fun en w' => en = .returned (.tuple #[.int .i64 ((0 : Nat) : Int), rdr S i e]) ∧ Below w.heap.size w w' := by simpa [rdN, he] using hn
    refine (bitr_err S i i e e most m 0 0 w hS hm (by omega) (by decide) hn' he).mono fun en w' ⟨h1, h2⟩ => ?_
    refine ⟨none, 0, 0, by rw [h1]; simp [rdN, he], h2, ?_⟩
    rw [if_pos he]; exact BoolsAt.nil
end Go.Proofs.YtjjdfodjkoiedaaDoor
