/-
  acheronlaw02.referRead whole.
-/
import Derived.Test.YtjjdfodjkoiedaaDoorRrd2
import Derived.Test.YtjjdfodjkoiedaaDoorRdUse
import Derived.Test.YtjjdfodjkoiedaaDoorRr2
set_option linter.unusedVariables false
namespace Go.Proofs.YtjjdfodjkoiedaaDoor
open Go.RowKit

def RefPost (w : World) (S : ByteArray) (i : Nat) (e : Int) (d : Rd) (en : Ending) (w' : World) : Prop :=
  ∃ a ll lc, en = .returned (.tuple #[(⟨0, 0, (d.eff e).N, (d.eff e).S, a, ll, lc⟩ : It).val, rdr S (rdN i e d.n d.x).1 (rdN i e d.n d.x).2]) ∧ Below w.heap.size w w' ∧ BoolsAt (fun b => w.heap.size ≤ b) w' (.slice a ll lc) (d.eff e).L

theorem ite_int (c : Prop) [Decidable c] (a b : Int) : (if c then Value.int .i64 a else .int .i64 b) = .int .i64 (if c then a else b) := by split <;> rfl
theorem ite_str (c : Prop) [Decidable c] (a b : ByteArray) : (if c then Value.string a else .string b) = .string (if c then a else b) := by split <;> rfl

theorem ref_int {P : Program} {f : FuncId} {args : Array Value} {w : World} {S : ByteArray} {i : Nat} {e : Int} {d : Rd} {v : Int} (hS : d.S = ⟨#[]⟩) (hL : d.L = []) (hv : v = if e ≠ 0 then 0 else d.N)
    (h : Calls P f args w fun en w' => en = .returned (.tuple #[.agg #[.int .i64 0, .int .i64 0, .int .i64 v, .string ⟨#[]⟩, .slice none 0 0], rdr S (rdN i e d.n d.x).1 (rdN i e d.n d.x).2]) ∧ Below w.heap.size w w') : Calls P f args w (RefPost w S i e d) := by
  refine h.mono fun en w' ⟨he, hb⟩ => ⟨none, 0, 0, ?_, hb, ?_⟩
  · rw [he, hv]
    by_cases h0 : e ≠ 0
    · simp [Rd.eff, It.val, h0]
    · simp [Rd.eff, It.val, h0, hS]
  · have : (d.eff e).L = [] := by unfold Rd.eff; split <;> first | rfl | exact hL
    rw [this]; exact BoolsAt.nil
theorem ref_str {P : Program} {f : FuncId} {args : Array Value} {w : World} {S : ByteArray} {i : Nat} {e : Int} {d : Rd} {v : ByteArray} (hN : d.N = 0) (hL : d.L = []) (hv : v = if e ≠ 0 then ⟨#[]⟩ else d.S)
    (h : Calls P f args w fun en w' => en = .returned (.tuple #[.agg #[.int .i64 0, .int .i64 0, .int .i64 0, .string v, .slice none 0 0], rdr S (rdN i e d.n d.x).1 (rdN i e d.n d.x).2]) ∧ Below w.heap.size w w') : Calls P f args w (RefPost w S i e d) := by
  refine h.mono fun en w' ⟨he, hb⟩ => ⟨none, 0, 0, ?_, hb, ?_⟩
  · rw [he, hv]
    by_cases h0 : e ≠ 0
    · simp [Rd.eff, It.val, h0]
    · simp [Rd.eff, It.val, h0, hN]
  · have : (d.eff e).L = [] := by unfold Rd.eff; split <;> first | rfl | exact hL
    rw [this]; exact BoolsAt.nil

theorem referRead_any (S : ByteArray) (i : Nat) (e k n : Int) (hS : S.size ≤ 1000000000) (hi : i ≤ S.size) (w : World) :
    Calls Tryd.prog 19 #[rdr S i e, .agg #[.int .i64 k, .int .i64 n]] w (RefPost w S i e (rdv k n (rest S i))) := by
  by_cases h0 : k = 0
  · subst h0
    have hd : rdv 0 n (rest S i) = ⟨(litR (rest S i) n).1, ⟨#[]⟩, [], (litR (rest S i) n).2.1, (litR (rest S i) n).2.2⟩ := by unfold rdv; simp
    rw [hd]
    refine ref_int rfl rfl rfl (rrd_lit S i _ e _ n _ w fun w => (refReadLittle_any S i e n hS hi w).mono fun en w' ⟨h1, h2⟩ => ⟨by rw [h1, ite_int], h2⟩)
  by_cases h1 : k = 1
  · subst h1
    have hd : rdv 1 n (rest S i) = ⟨(sigR (rest S i) n).1, ⟨#[]⟩, [], (sigR (rest S i) n).2.1, (sigR (rest S i) n).2.2⟩ := by unfold rdv; simp
    rw [hd]
    refine ref_int rfl rfl rfl (rrd_sig S i _ e _ n _ w fun w => (refReadSigned_any S i e n hS hi w).mono fun en w' ⟨h1, h2⟩ => ⟨by rw [h1, ite_int], h2⟩)
  by_cases h2 : k = 2
  · subst h2
    have hd : rdv 2 n (rest S i) = ⟨(numR (rest S i)).1, ⟨#[]⟩, [], (numR (rest S i)).2.1, (numR (rest S i)).2.2⟩ := by unfold rdv; simp
    rw [hd]
    refine ref_int rfl rfl rfl (rrd_num S i _ e _ n _ w fun w => (refReadNumber_any S i e hS hi w).mono fun en w' ⟨h1, h2⟩ => ⟨by rw [h1, ite_int], h2⟩)
  by_cases h3 : k = 3
  · subst h3
    have hd : rdv 3 n (rest S i) = ⟨0, (strR (rest S i) n).1, [], (strR (rest S i) n).2.1, (strR (rest S i) n).2.2⟩ := by unfold rdv; simp
    rw [hd]
    refine ref_str rfl rfl rfl (rrd_str S i _ e _ n _ w fun w => (refReadString_any S i e n hS hi w).mono fun en w' ⟨h1, h2⟩ => ⟨by rw [h1, ite_str], h2⟩)
  by_cases h4 : k = 4
  · subst h4
    have hd : rdv 4 n (rest S i) = ⟨0, ⟨#[]⟩, (bitR (rest S i) n).1, (bitR (rest S i) n).2.1, (bitR (rest S i) n).2.2⟩ := by unfold rdv; simp
    rw [hd]
    refine (rrd_bit S i _ e _ n _ w fun w => refReadBits_any S i e n hS hi w).mono fun en w' ⟨a, ll, lc, h1, h2, h3⟩ => ⟨a, ll, lc, ?_, h2, ?_⟩
    · rw [h1]
      by_cases h0 : e ≠ 0
      · simp [Rd.eff, It.val, h0, rdr]
      · simp [Rd.eff, It.val, h0, rdr]
    · have : (Rd.eff ⟨0, ⟨#[]⟩, (bitR (rest S i) n).1, (bitR (rest S i) n).2.1, (bitR (rest S i) n).2.2⟩ e).L = if e ≠ 0 then [] else (bitR (rest S i) n).1 := by unfold Rd.eff; split <;> rfl
      rw [this]; exact h3
  by_cases h6 : k = 6
  · subst h6
    have hd : rdv 6 n (rest S i) = ⟨(cntR (rest S i) n).1, ⟨#[]⟩, [], (cntR (rest S i) n).2.1, (cntR (rest S i) n).2.2⟩ := by unfold rdv; simp
    rw [hd]
    refine ref_int rfl rfl rfl (rrd_cnt S i _ e _ n _ w fun w => (refReadCount_any S i e n hS hi w).mono fun en w' ⟨h1, h2⟩ => ⟨by rw [h1, ite_int], h2⟩)
  · have hd : rdv k n (rest S i) = ⟨0, (rawR (rest S i) n).1, [], (rawR (rest S i) n).2.1, (rawR (rest S i) n).2.2⟩ := by unfold rdv; rw [if_neg h0, if_neg h1, if_neg h2, if_neg h3, if_neg h4, if_neg h6]
    rw [hd]
    refine ref_str rfl rfl rfl (rrd_raw S i _ e _ n _ w k h0 h1 h2 h3 h4 h6 fun w => (refReadRaw_any S i e n hS hi w).mono fun en w' ⟨h1, h2⟩ => ⟨by rw [h1, ite_str], h2⟩)
end Go.Proofs.YtjjdfodjkoiedaaDoor
