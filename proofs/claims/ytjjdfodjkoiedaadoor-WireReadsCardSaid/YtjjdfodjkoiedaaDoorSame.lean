/-
  acheronlaw02: slices.Equal at bools, same; read at nil.
-/
import Derived.Test.YtjjdfodjkoiedaaDoorItem
set_option linter.unusedVariables false
namespace Go.Proofs.YtjjdfodjkoiedaaDoor
open Go.RowKit

theorem BoolsAt.below {P : Nat → Prop} {w w' : World} {v : Value} {l : List Bool} (h : BoolsAt P w v l) (hb : Below w.heap.size w w') : BoolsAt P w' v l := by
  obtain ⟨a, cap, hv, h⟩ := h
  refine ⟨a, cap, hv, ?_⟩
  rcases h with h | ⟨b, o, ha, hp, hlt, hc⟩
  · exact .inl h
  · exact .inr ⟨b, o, ha, hp, Nat.lt_of_lt_of_le hlt hb.size, fun j hj => (hb.cell (p := ⟨b, o + j, none⟩) hlt).trans (hc j hj)⟩

set_option maxHeartbeats 2000000 in
set_option maxRecDepth 100000 in
theorem equal_any (P1 P2 : Nat → Prop) (v1 v2 : Value) (l1 l2 : List Bool) (hl : l1.length ≤ 1000000000) (w : World) (h1 : BoolsAt P1 w v1 l1) (h2 : BoolsAt P2 w v2 l2) :
    Calls Tryd.prog 55 #[v1, v2] w fun e w' => e = .returned (.bool (decide (l1 = l2))) ∧ Below w.heap.size w w' := by
  obtain ⟨a1, cap1, rfl, h1⟩ := h1
  obtain ⟨a2, cap2, rfl, h2⟩ := h2
  by_cases hlen : l1.length = l2.length
  · have hlI : ((l1.length : Int) != (l2.length : Int)) = false := by rw [bne_eq_false_iff_eq, hlen]
    have hlI2 : (l2.length : Int) = (l1.length : Int) := by omega
    have H1 : Hid (l1 = [] ∨ ∃ b o, a1 = some ⟨b, o, none⟩ ∧ P1 b ∧ b < w.heap.size ∧ ∀ j (h : j < l1.length), w.cell? ⟨b, o + j, none⟩ = some (.bool l1[j])) := h1
    have H2 : Hid (l2 = [] ∨ ∃ b o, a2 = some ⟨b, o, none⟩ ∧ P2 b ∧ b < w.heap.size ∧ ∀ j (h : j < l2.length), w.cell? ⟨b, o + j, none⟩ = some (.bool l2[j])) := h2
    have HLEN := Lib.hid hlen
    clear h1 h2 hlen
    go_enter Tryd.func55, Tryd.ntmps55
    go_wp2
    clear hlI
    go_loopw [13] (fun i wr => ∃ k : Nat, k ≤ l1.length ∧ i = .int .i64 k ∧ l1.take k = l2.take k ∧ Below w.heap.size w wr) (fun i _ => l1.length - (intOf i).toNat)
    case atStart => exact ⟨0, Nat.zero_le _, rfl, rfl, Below.refl _ _⟩
    case round =>
      obtain ⟨k, hk, rfl, htk, hbel⟩ := hrel
      have HTK := Lib.hid htk
      clear htk
      by_cases hlt : k < l1.length
      · have hltI : (k : Int) < (l1.length : Int) := by omega
        have hlt2 : k < l2.length := by have := HLEN.out; omega
        rcases H1.out with hnil | ⟨b1, o1, rfl, _, hb1, hc1⟩
        · rw [hnil] at hlt; exact absurd hlt (Nat.not_lt_zero _)
        rcases H2.out with hnil | ⟨b2, o2, rfl, _, hb2, hc2⟩
        · rw [hnil] at hlt2; exact absurd hlt2 (Nat.not_lt_zero _)
        have d1 := (hbel.cell (p := ⟨b1, o1 + k, none⟩) hb1).trans (hc1 k hlt)
        have d2 := (hbel.cell (p := ⟨b2, o2 + k, none⟩) hb2).trans (hc2 k hlt2)
        have e1 : Hid (l1.take (k + 1) = l1.take k ++ [l1[k]]) := List.take_succ_eq_append_getElem hlt
        have e2 : Hid (l2.take (k + 1) = l2.take k ++ [l2[k]]) := List.take_succ_eq_append_getElem hlt2
        have e3 : Hid (l1[k] ≠ l2[k] → l1 ≠ l2) := fun hne e => hne (by subst e; rfl)
        have hk0 : (0 : Int) ≤ (k : Int) := by omega
        have hltI2 : (k : Int) < (l2.length : Int) := by omega
        clear hc1 hc2 hlI2
        generalize l1[k] = x at *
        generalize l2[k] = y at *
        by_cases hxy : x = y
        · subst hxy
          cases x
          all_goals
            go_wp2_with fail
            go_quiet (fail)
            go_wp2
            go_roundw
            case rel => exact ⟨k + 1, by omega, by go_num, by rw [e1.out, e2.out, HTK.out], below_drewN hbel _⟩
            case measure => simp [intOf]; omega
        · have HF := Lib.hid (decide_eq_false (e3.out hxy))
          obtain rfl : y = !x := by cases x <;> cases y <;> simp_all
          clear hxy
          cases x
          all_goals
            simp only [Bool.not_true, Bool.not_false] at d2
            go_wp2_with fail
            go_quiet (fail)
            go_wp2
            go_ret
            exact ⟨ret_bool HF.out.symm, below_drewN hbel _⟩
      · obtain rfl : k = l1.length := by omega
        have hfin : decide (l1 = l2) = true := by
          have h := HTK.out
          rw [List.take_length, HLEN.out, List.take_length] at h
          exact decide_eq_true h
        have HF := Lib.hid hfin
        clear hfin
        go_wp2
        go_ret
        exact ⟨ret_bool HF.out.symm, hbel⟩
  · have hlI : ((l1.length : Int) != (l2.length : Int)) = true := by rw [bne_iff_ne]; omega
    have HF := Lib.hid (decide_eq_false (show ¬ l1 = l2 from fun e => hlen (by rw [e])))
    clear h1 h2 hlen
    go_enter Tryd.func55, Tryd.ntmps55
    go_wp2
    all_goals
      go_ret
      first
        | exact ⟨ret_bool HF.out.symm, Below.refl _ _⟩
        | (exfalso; simp_all; done)

def sameB (a b : It) (la lb : List Bool) : Bool := (a.n == b.n) && ((a.s.toList == b.s.toList) && decide (la = lb))

set_option maxHeartbeats 2000000 in
set_option maxRecDepth 100000 in
theorem same_any (P1 P2 : Nat → Prop) (a b : It) (la lb : List Bool) (hl : la.length ≤ 1000000000) (w : World) (h1 : BoolsAt P1 w (.slice a.la a.ll a.lc) la) (h2 : BoolsAt P2 w (.slice b.la b.ll b.lc) lb) :
    Calls Tryd.prog 20 #[a.val, b.val] w fun e w' => e = .returned (.bool (sameB a b la lb)) ∧ Below w.heap.size w w' := by
  obtain ⟨k1, z1, n1, s1, a1, ll1, lc1⟩ := a
  obtain ⟨k2, z2, n2, s2, a2, ll2, lc2⟩ := b
  unfold It.val sameB
  simp only at *
  have hE := fun W (hb : Below w.heap.size w W) => equal_any P1 P2 _ _ la lb hl W (h1.below hb) (h2.below hb)
  have HE := Lib.hid hE
  clear hE h1 h2
  by_cases h1 : n1 = n2
  · subst h1
    rw [beq_self_eq_true, Bool.true_and]
    by_cases h2 : s1 = s2
    · subst h2
      rw [beq_self_eq_true, Bool.true_and]
      generalize decide (la = lb) = q at *
      go_enter Tryd.func20, Tryd.ntmps20
      go_wp2_with fail
      refine (HE.out _ (by exact (((Below.refl _ _).alloc (Nat.le_refl _) _).alloc (by simp) _))).mono ?_
      rintro e w1 ⟨rfl, hb⟩
      have HB := Lib.hid ((((Below.refl w.heap.size w).alloc (Nat.le_refl _) _).alloc (by simp) _).trans (hb.mono (by simp; omega)))
      clear hb
      go_wp2
      go_ret
      exact ⟨rfl, HB.out⟩
    · have hs : (s1.toList == s2.toList) = false := by
        rw [beq_eq_false_iff_ne, ByteArray.toList_eq, ByteArray.toList_eq]
        intro e
        exact h2 (ByteArray.ext (Array.toList_inj.1 e))
      rw [hs, Bool.false_and]
      clear h2
      go_enter Tryd.func20, Tryd.ntmps20
      go_wp2
      go_ret
      exact ⟨rfl, (((Below.refl _ _).alloc (Nat.le_refl _) _).alloc (by simp) _)⟩
  · have hn : (n1 == n2) = false := by rw [beq_eq_false_iff_ne]; exact h1
    rw [hn, Bool.false_and]
    clear h1
    go_enter Tryd.func20, Tryd.ntmps20
    go_wp2
    go_ret
    exact ⟨rfl, (((Below.refl _ _).alloc (Nat.le_refl _) _).alloc (by simp) _)⟩

end Go.Proofs.YtjjdfodjkoiedaaDoor
