/-
  The reference's Compare and Find at slices of numbers.
-/
import Derived.Test.YtjpnkffdpcfnjaaOrd
set_option linter.unusedVariables false
namespace Go.Proofs.Ytjpnkffdpcfnjaa
open Go.RowKit

/-- A slice value of the numbers l, with its capacity. -/
def IntsC (w : World) (v : Value) (l : List Nat) : Prop :=
  ∃ a cap, v = .slice a l.length cap ∧ l.length ≤ cap ∧ cap ≤ maxLen ∧ (l = [] ∨ ∃ b o, a = some ⟨b, o, none⟩ ∧ b < w.heap.size ∧ ∀ j (h : j < l.length), w.cell? ⟨b, o + j, none⟩ = some (.int .i64 (l[j] : Int)))
theorem IntsC.at {w : World} {v : Value} {l : List Nat} (h : IntsC w v l) : IntsAt w v l := by
  obtain ⟨a, cap, hv, _, _, h⟩ := h
  exact ⟨a, cap, hv, h⟩
theorem IntsC.below {w w' : World} {v : Value} {l : List Nat} (h : IntsC w v l) (hb : Below w.heap.size w w') : IntsC w' v l := by
  obtain ⟨a, cap, hv, h1, h2, h⟩ := h
  refine ⟨a, cap, hv, h1, h2, ?_⟩
  rcases h with h | ⟨b, o, ha, hlt, hc⟩
  · exact .inl h
  · exact .inr ⟨b, o, ha, Nat.lt_of_lt_of_le hlt hb.size, fun j hj => (hb.cell (p := ⟨b, o + j, none⟩) hlt).trans (hc j hj)⟩
theorem Ints.c {w : World} {base : Nat} {v : Value} {l : List Nat} (h : Ints w base v l) : IntsC w v l := by
  rcases row_form h with ⟨rfl, hn⟩ | ⟨g, cap, rfl, h1, h2, _, hg, hcell⟩
  · exact ⟨none, 0, by rw [hn], by omega, by unfold maxLen; omega, .inl (List.length_eq_zero_iff.1 hn)⟩
  · refine ⟨_, _, rfl, h1, h2, .inr ⟨g, 0, rfl, hg, fun j hj => ?_⟩⟩
    rw [Nat.zero_add, hcell j hj]
    simp [intsV, hj]

set_option maxHeartbeats 1000000 in
theorem refCompare_any (l m : List Nat) (hl : l.length ≤ 1000000000) (hm : m.length ≤ 1000000000) (v1 v2 : Value) (w : World) (h1 : IntsAt w v1 l) (h2 : IntsAt w v2 m) :
    Calls Try.prog 23 #[v1, v2] w fun e w' => e = .returned (.int .i64 (cmpL l m)) ∧ Below w.heap.size w w' := by
  obtain ⟨a1, cap1, rfl, h1⟩ := h1
  obtain ⟨a2, cap2, rfl, h2⟩ := h2
  have H1 : Hid (l = [] ∨ ∃ b o, a1 = some ⟨b, o, none⟩ ∧ b < w.heap.size ∧ ∀ j (h : j < l.length), w.cell? ⟨b, o + j, none⟩ = some (.int .i64 (l[j] : Int))) := h1
  have H2 : Hid (m = [] ∨ ∃ b o, a2 = some ⟨b, o, none⟩ ∧ b < w.heap.size ∧ ∀ j (h : j < m.length), w.cell? ⟨b, o + j, none⟩ = some (.int .i64 (m[j] : Int))) := h2
  clear h1 h2
  go_enter Try.func23, Try.ntmps23
  go_wp2
  go_loopw [5] (fun i wr => ∃ k : Nat, i = .int .i64 k ∧ Alike l m k ∧ Below w.heap.size w wr) (fun i _ => l.length - (intOf i).toNat)
  case atStart => exact ⟨0, rfl, alike_zero l m, Below.refl _ _⟩
  case round =>
    obtain ⟨k, rfl, hal, hbel⟩ := hrel
    have HAL := Lib.hid hal
    have hk1 := hal.1
    have hk2 := hal.2.1
    clear hal
    by_cases hlt1 : k < l.length
    · by_cases hlt2 : k < m.length
      · rcases H1.out with hnil | ⟨b1, o1, rfl, hb1, hc1⟩
        · rw [hnil] at hlt1; exact absurd hlt1 (Nat.not_lt_zero _)
        rcases H2.out with hnil | ⟨b2, o2, rfl, hb2, hc2⟩
        · rw [hnil] at hlt2; exact absurd hlt2 (Nat.not_lt_zero _)
        have d1 := (hbel.cell (p := ⟨b1, o1 + k, none⟩) hb1).trans (hc1 k hlt1)
        have d2 := (hbel.cell (p := ⟨b2, o2 + k, none⟩) hb2).trans (hc2 k hlt2)
        have HLE : Hid (l[k] < m[k] → cmpL l m = -1) := fun h => HAL.out.less hlt1 hlt2 h
        have HMO : Hid (m[k] < l[k] → cmpL l m = 1) := fun h => HAL.out.more hlt1 hlt2 h
        have HEQ : Hid (l[k] = m[k] → Alike l m (k + 1)) := fun h => HAL.out.next hlt1 hlt2 h
        clear hc1 hc2
        generalize l[k] = x at *
        generalize m[k] = y at *
        by_cases hxy : x < y
        · have hd : (x : Int) < (y : Int) := by omega
          have HF := Lib.hid (HLE.out hxy)
          clear hxy
          go_wp2_with fail
          go_quiet (fail)
          go_wp2
          go_ret
          exact ⟨ret_int HF.out.symm, below_drewN hbel _⟩
        · by_cases hyx : y < x
          · have hd : ¬ (x : Int) < (y : Int) := by omega
            have hd2 : (y : Int) < (x : Int) := by omega
            have HF := Lib.hid (HMO.out hyx)
            clear hxy hyx
            go_wp2_with fail
            go_quiet (fail)
            go_wp2_with fail
            go_quiet (fail)
            go_wp2
            go_ret
            exact ⟨ret_int HF.out.symm, below_drewN (below_drewN hbel _) _⟩
          · have hd : ¬ (x : Int) < (y : Int) := by omega
            have hd2 : ¬ (y : Int) < (x : Int) := by omega
            have HF := Lib.hid (HEQ.out (by omega))
            clear hxy hyx
            go_wp2_with fail
            go_quiet (fail)
            go_wp2_with fail
            go_quiet (fail)
            go_wp2
            go_roundw
            case rel => exact ⟨k + 1, by go_num, HF.out, below_drewN hbel _⟩
            case measure => simp [intOf]; omega
      · obtain rfl : k = m.length := by omega
        have HF := Lib.hid (HAL.out.long hlt1 (Nat.le_refl _))
        have hd : ¬ (l.length : Int) < (m.length : Int) := by omega
        have hd2 : (m.length : Int) < (l.length : Int) := by omega
        go_wp2
        go_ret
        exact ⟨ret_int HF.out.symm, hbel⟩
    · obtain rfl : k = l.length := by omega
      by_cases hlt2 : l.length < m.length
      · have HF := Lib.hid (HAL.out.short (Nat.le_refl _) hlt2)
        have hd : (l.length : Int) < (m.length : Int) := by omega
        go_wp2
        go_ret
        exact ⟨ret_int HF.out.symm, hbel⟩
      · have HF := Lib.hid (HAL.out.even (Nat.le_refl _) (by omega))
        have hd : ¬ (l.length : Int) < (m.length : Int) := by omega
        have hd2 : ¬ (m.length : Int) < (l.length : Int) := by omega
        go_wp2
        go_ret
        exact ⟨ret_int HF.out.symm, hbel⟩

theorem at_cmp (s p : List Nat) (k : Nat) (h : k + p.length ≤ s.length) : Kmp.At s p k ↔ cmpL ((s.drop k).take p.length) p = 0 := by
  rw [cmpL_zero]
  exact ⟨fun h => h.2, fun e => ⟨h, e⟩⟩

def FindPost (l m : List Nat) (w : World) (e : Ending) (w' : World) : Prop := ∃ r : Int, e = .returned (.int .i64 r) ∧ Kmp.Found l m r ∧ Below w.heap.size w w'

set_option maxHeartbeats 1000000 in
theorem refFind_any (s p : List Nat) (hl : s.length ≤ 1000000000) (hm : p.length ≤ 1000000000) (v1 v2 : Value) (w : World) (h1 : IntsC w v1 s) (h2 : IntsC w v2 p) :
    Calls Try.prog 25 #[v1, v2] w (FindPost s p w) := by
  have HP2 := Lib.hid h2
  obtain ⟨a1, cap1, rfl, hcl, hcm, h1⟩ := h1
  obtain ⟨a2, cap2, rfl, _, _, _⟩ := h2
  have H1 : Hid (s = [] ∨ ∃ b o, a1 = some ⟨b, o, none⟩ ∧ b < w.heap.size ∧ ∀ j (h : j < s.length), w.cell? ⟨b, o + j, none⟩ = some (.int .i64 (s[j] : Int))) := h1
  have hcI : (s.length : Int) ≤ (cap1 : Int) := by omega
  have hcM : (cap1 : Int) ≤ 9223372036854775807 := by unfold maxLen at hcm; omega
  have HSL : Hid (∀ (wr : World) (k : Nat), Below w.heap.size w wr → k + p.length ≤ s.length → ∀ a, (k < cap1 → ∀ b o, a1 = some ⟨b, o, none⟩ → a = some ⟨b, o + k, none⟩) → IntsAt wr (.slice a p.length (cap1 - k)) ((s.drop k).take p.length)) := by
    intro wr k hb hk a ha
    have hlen : ((s.drop k).take p.length).length = p.length := by rw [List.length_take, List.length_drop]; omega
    refine ⟨a, cap1 - k, by rw [hlen], ?_⟩
    by_cases hp : p.length = 0
    · exact .inl (by rw [hp]; simp)
    · rcases h1 with hn | ⟨b, o, e, hlt, hc⟩
      · rw [hn, List.length_nil] at hk; omega
      · refine .inr ⟨b, o + k, ha (by omega) b o e, Nat.lt_of_lt_of_le hlt hb.size, fun j hj => ?_⟩
        have hj' : j < p.length := by rw [hlen] at hj; exact hj
        rw [Nat.add_assoc, (hb.cell (p := ⟨b, o + (k + j), none⟩) hlt).trans (hc (k + j) (by omega))]
        simp
  clear h1 hcm
  go_enter Try.func25, Try.ntmps25
  go_wp2
  go_loopw [5] (fun i wr => ∃ k : Nat, k ≤ s.length + 1 ∧ i = .int .i64 k ∧ (∀ j, j < k → ¬ Kmp.At s p j) ∧ Below w.heap.size w wr) (fun i _ => s.length + 1 - (intOf i).toNat)
  case atStart => exact ⟨0, Nat.zero_le _, rfl, fun j hj => by omega, Below.refl _ _⟩
  case round =>
    obtain ⟨k, hk, rfl, hno, hbel⟩ := hrel
    have HNO := Lib.hid hno
    clear hno
    by_cases hin : k + p.length ≤ s.length
    · have hinI : (k : Int) + (p.length : Int) ≤ (s.length : Int) := by omega
      have hk0 : (0 : Int) ≤ (k : Int) := by omega
      have hkc : (k : Int) + (p.length : Int) ≤ (cap1 : Int) := by omega
      have hsl : ((s.drop k).take p.length).length ≤ 1000000000 := by rw [List.length_take]; omega
      have HCMP : Hid (∀ a, (k < cap1 → ∀ b o, a1 = some ⟨b, o, none⟩ → a = some ⟨b, o + k, none⟩) → Calls Try.prog 23 #[.slice a p.length (cap1 - k), .slice a2 p.length cap2] wr fun e w' => e = .returned (.int .i64 (cmpL ((s.drop k).take p.length) p)) ∧ Below wr.heap.size wr w') :=
        fun a ha => refCompare_any _ _ hsl hm _ _ _ (HSL.out wr k hbel hin a ha) (HP2.out.at.below hbel)
      have HAT := Lib.hid (at_cmp s p k hin)
      clear hsl hin
      go_wp2_with fail
      case' inl h =>
        have hcap : Calls Try.prog 23 #[.slice a1 p.length 0, .slice a2 p.length cap2] wr fun e w' => e = .returned (.int .i64 (cmpL ((s.drop k).take p.length) p)) ∧ Below wr.heap.size wr w' := by
          have h0 := HCMP.out a1 (fun hlt => by omega)
          rw [show cap1 - k = 0 by omega] at h0
          exact h0
        refine hcap.mono ?_
        clear hcap
        have h2 := h.symm
        clear h
        subst h2
      case' inr h =>
        have hcap := HCMP.out (Option.map (fun x => x.add k) a1) (fun hlt b o e => by rw [e]; simp [Addr.add])
        refine hcap.mono ?_
        clear hcap h
      all_goals
        rintro e w3 ⟨rfl, hb3⟩
        have B3 := below_from hbel hb3 (Nat.le_refl _)
        clear hb3
        generalize cmpL ((s.drop k).take p.length) p = r at *
        by_cases hr : r = 0
        · subst hr
          have HF : Hid (FindPost s p w (.returned (.int .i64 (k : Int))) w3) := ⟨_, rfl, .inr ⟨k, rfl, HAT.out.2 rfl, HNO.out⟩, B3⟩
          go_wp2
          go_ret
          exact HF.out
        · have hq : (r == 0) = false := by rw [beq_eq_false_iff_ne]; exact hr
          have HN : Hid (∀ j, j < k + 1 → ¬ Kmp.At s p j) := fun j hj hat => by
            rcases Nat.lt_or_ge j k with h | h
            · exact HNO.out j h hat
            · have : j = k := by omega
              subst this
              exact hr (HAT.out.1 hat)
          clear hr
          go_wp2
          go_roundw
          case rel => exact ⟨k + 1, by omega, by go_num, HN.out, B3⟩
          case measure => simp [intOf]; omega
    · have hinI : ¬ (k : Int) + (p.length : Int) ≤ (s.length : Int) := by omega
      have HF : Hid (Kmp.Found s p (-1)) := .inl ⟨rfl, fun i hat => by
        rcases Nat.lt_or_ge i k with h | h
        · exact HNO.out i h hat
        · have := hat.1; omega⟩
      go_wp2
      go_ret
      exact ⟨_, rfl, HF.out, hbel⟩
end Go.Proofs.Ytjpnkffdpcfnjaa
