/-
  wire: the closures of Reader's methods but that of Bits.
-/
import Derived.Test.YtjjdfodjkoiedaaDoorRead1
set_option linter.unusedVariables false
namespace Go.Proofs.YtjjdfodjkoiedaaDoor
open Go.RowKit

def strR (s : ByteArray) (most : Int) : ByteArray × Int × Int :=
  if (cntR s (min most 1048576)).2.2 = 0 then
    (if (s.size : Int) - (cntR s (min most 1048576)).2.1 < (cntR s (min most 1048576)).1 then (⟨#[]⟩, 0, 16)
     else (s.extract (cntR s (min most 1048576)).2.1.toNat ((cntR s (min most 1048576)).2.1 + (cntR s (min most 1048576)).1).toNat, (cntR s (min most 1048576)).2.1 + (cntR s (min most 1048576)).1, 0))
  else (⟨#[]⟩, 0, (cntR s (min most 1048576)).2.2)
def rawR (s : ByteArray) (n : Int) : ByteArray × Int × Int :=
  if n < 0 then (⟨#[]⟩, 0, 11) else if (s.size : Int) < n then (⟨#[]⟩, 0, 16) else (s.extract 0 n.toNat, n, 0)
def endR (s : ByteArray) : Bool × Int × Int := if s.size = 0 then (true, 0, 0) else (false, 0, 2)

theorem cntR_bd (s : ByteArray) (most : Int) : (cntR s most).2.2 = 0 → 0 ≤ (cntR s most).1 ∧ (cntR s most).1 ≤ most ∧ 0 ≤ (cntR s most).2.1 ∧ (cntR s most).2.1 ≤ 9 ∧ (cntR s most).2.1 ≤ s.size := by
  have h := numR_bd s
  unfold cntR
  split
  · split
    · simp
    · split
      · simp
      · intro _
        omega
  · intro h'
    simp at h'
    contradiction

set_option maxHeartbeats 1000000 in
set_option maxRecDepth 100000 in
theorem little_clo (s : ByteArray) (size : Int) (hl : s.size ≤ 1000000000) (cb : Nat) (w : World) (hc : w.cell? ⟨cb, 0, none⟩ = some (.int .i64 size)) :
    Calls Tryd.prog 72 #[.string s, .pointer (some ⟨cb, 0, none⟩)] w fun e w' => e = R3 (litR s size) ∧ Below w.heap.size w w' := by
  have hn := fun w => low_read s size hl w
  have hb := lowS_bd s size
  unfold litR
  generalize lowS s size = r at *
  obtain ⟨u, x⟩ := r
  unfold R3
  simp only at hb
  have HN := Lib.hid hn
  clear hn
  simp only
  by_cases hx : x = 0
  · subst hx
    rw [if_pos rfl]
    by_cases h1 : 9223372036854775807 < u
    · rw [if_pos h1]
      clear hb
      go_enter Tryd.func72, Tryd.ntmps72
      go_wp2_with fail
      refine (HN.out _).mono ?_
      rintro e w1 ⟨rfl, rfl⟩
      go_wp2
      go_ret3
      exact ⟨rfl, Below.refl _ _⟩
    · rw [if_neg h1]
      have h2 : u ≤ 9223372036854775807 := by omega
      have hw : IntKind.i64.wrap u = u := IntWalk.i64_in _ (by omega)
      have hu0 := hb.1
      clear hb h1
      go_enter Tryd.func72, Tryd.ntmps72
      go_wp2_with fail
      refine (HN.out _).mono ?_
      rintro e w1 ⟨rfl, rfl⟩
      go_wp2_with fail
      go_quiet (fail)
      go_wp2
      go_ret3
      exact ⟨rfl, below_drewN (Below.refl _ _) _⟩
  · rw [if_neg hx]
    have hxb : (x != 0) = true := by rw [bne_iff_ne]; exact hx
    clear hb
    go_enter Tryd.func72, Tryd.ntmps72
    go_wp2_with fail
    refine (HN.out _).mono ?_
    rintro e w1 ⟨rfl, rfl⟩
    go_wp2
    go_ret3
    exact ⟨rfl, Below.refl _ _⟩

set_option maxHeartbeats 1000000 in
set_option maxRecDepth 100000 in
theorem signed_clo (s : ByteArray) (size : Int) (hl : s.size ≤ 1000000000) (cb : Nat) (w : World) (hc : w.cell? ⟨cb, 0, none⟩ = some (.int .i64 size)) :
    Calls Tryd.prog 74 #[.string s, .pointer (some ⟨cb, 0, none⟩)] w fun e w' => e = R3 (sigR s size) ∧ Below w.heap.size w w' := by
  have hn := fun w => low_read s size hl w
  have hz : (lowS s size).2 = 0 → isSz size = true := by
    intro h
    unfold lowS at h
    cases hq : isSz size
    · rw [hq] at h; simp at h
    · rfl
  unfold sigR
  generalize lowS s size = r at *
  obtain ⟨u, x⟩ := r
  unfold R3
  simp only at hz
  have HN := Lib.hid hn
  clear hn
  simp only
  by_cases hx : x = 0
  · subst hx
    rw [if_pos rfl]
    obtain ⟨z, rfl, hz8⟩ := isSz_cases (hz rfl)
    have hsg := fun w => signed_any u (8 * (z : Int)) (by omega) (by omega) w
    rw [show (8 * (z : Int)).toNat = 8 * z by omega] at hsg
    rw [Int.toNat_natCast]
    have hw : IntKind.i64.wrap (8 * (z : Int)) = 8 * (z : Int) := IntWalk.i64_in _ (by omega)
    have HSG := Lib.hid hsg
    clear hsg hz hz8
    go_enter Tryd.func74, Tryd.ntmps74
    go_wp2_with fail
    refine (HN.out _).mono ?_
    rintro e w1 ⟨rfl, rfl⟩
    go_wp2_with fail
    go_quiet ((go_at_call 75; exact Calls.quiet_of_same ((HSG.out _).mono fun e w' ⟨he, hw⟩ => ⟨he, hw.symm⟩)))
    go_wp2
    go_ret3
    exact ⟨rfl, below_drewN (Below.refl _ _) _⟩
  · rw [if_neg hx]
    have hxb : (x != 0) = true := by rw [bne_iff_ne]; exact hx
    clear hz
    go_enter Tryd.func74, Tryd.ntmps74
    go_wp2_with fail
    refine (HN.out _).mono ?_
    rintro e w1 ⟨rfl, rfl⟩
    go_wp2
    go_ret3
    exact ⟨rfl, Below.refl _ _⟩

set_option maxHeartbeats 1000000 in
set_option maxRecDepth 100000 in
theorem count_clo (s : ByteArray) (most : Int) (hl : s.size ≤ 1000000000) (cb : Nat) (w : World) (ht : Tab w) (hc : w.cell? ⟨cb, 0, none⟩ = some (.int .i64 most)) :
    Calls Tryd.prog 81 #[.string s, .pointer (some ⟨cb, 0, none⟩)] w fun e w' => e = R3 (cntR s most) ∧ Below w.heap.size w w' := by
  have hn := count_read s most hl w ht
  generalize cntR s most = r at *
  obtain ⟨v, n, x⟩ := r
  unfold R3 at *
  have HN := Lib.hid hn
  clear hn ht
  go_enter Tryd.func81, Tryd.ntmps81
  go_wp2_with fail
  refine HN.out.mono ?_
  rintro e w1 ⟨rfl, hb⟩
  go_wp2
  go_ret3
  exact ⟨rfl, hb⟩

def R3s (r : ByteArray × Int × Int) : Ending := .returned (.tuple #[.string r.1, .int .i64 r.2.1, .int .i64 r.2.2])
def R3b (r : Bool × Int × Int) : Ending := .returned (.tuple #[.bool r.1, .int .i64 r.2.1, .int .i64 r.2.2])

set_option maxHeartbeats 1000000 in
set_option maxRecDepth 100000 in
theorem string_clo (s : ByteArray) (most : Int) (hl : s.size ≤ 1000000000) (cb : Nat) (w : World) (ht : Tab w) (hc : w.cell? ⟨cb, 0, none⟩ = some (.int .i64 most)) :
    Calls Tryd.prog 76 #[.string s, .pointer (some ⟨cb, 0, none⟩)] w fun e w' => e = R3s (strR s most) ∧ Below w.heap.size w w' := by
  have hn := count_read s (min most 1048576) hl w ht
  have hbd := cntR_bd s (min most 1048576)
  unfold strR
  generalize hmm : min most 1048576 = m at *
  have hcs : (most ≤ 1048576 ∧ m = most) ∨ (1048576 < most ∧ m = 1048576) := by omega
  clear hmm
  rcases hcs with ⟨hm, rfl⟩ | ⟨hm, rfl⟩
  all_goals
    generalize cntR s _ = r at *
    obtain ⟨v, n, x⟩ := r
    unfold R3s
    unfold R3 at hn
    have HN := Lib.hid hn
    clear hn ht
    simp only at *
    by_cases hx : x = 0
    · subst hx
      rw [if_pos rfl]
      obtain ⟨h0, h1, h2, h3, h4⟩ := hbd rfl
      obtain ⟨v, rfl⟩ := Int.eq_ofNat_of_zero_le h0
      obtain ⟨n, rfl⟩ := Int.eq_ofNat_of_zero_le h2
      have h5 : v ≤ 1048576 := by omega
      clear hbd h1
      by_cases hlt : (s.size : Int) - (n : Int) < (v : Int)
      · rw [if_pos hlt]
        go_enter Tryd.func76, Tryd.ntmps76
        go_wp2_with fail
        refine HN.out.mono ?_
        rintro e w1 ⟨rfl, hb⟩
        go_wp2
        go_ret3
        exact ⟨rfl, hb⟩
      · rw [if_neg hlt]
        have h6 : n + v ≤ s.size := by omega
        rw [Int.toNat_natCast, show ((n : Int) + (v : Int)).toNat = n + v by omega]
        go_enter Tryd.func76, Tryd.ntmps76
        go_wp2_with fail
        refine HN.out.mono ?_
        rintro e w1 ⟨rfl, hb⟩
        go_wp2
        go_ret3
        exact ⟨rfl, hb⟩
    · rw [if_neg hx]
      have hxb : (x != 0) = true := by rw [bne_iff_ne]; exact hx
      clear hbd
      go_enter Tryd.func76, Tryd.ntmps76
      go_wp2_with fail
      refine HN.out.mono ?_
      rintro e w1 ⟨rfl, hb⟩
      go_wp2
      go_ret3
      exact ⟨rfl, hb⟩

set_option maxHeartbeats 1000000 in
set_option maxRecDepth 100000 in
theorem raw_clo (s : ByteArray) (n : Int) (hl : s.size ≤ 1000000000) (cb : Nat) (w : World) (hc : w.cell? ⟨cb, 0, none⟩ = some (.int .i64 n)) :
    Calls Tryd.prog 60 #[.string s, .pointer (some ⟨cb, 0, none⟩)] w fun e w' => e = R3s (rawR s n) ∧ Below w.heap.size w w' := by
  unfold rawR
  unfold R3s
  by_cases h0 : n < 0
  · rw [if_pos h0]
    go_enter Tryd.func60, Tryd.ntmps60
    go_wp2
    go_ret3
    exact ⟨rfl, Below.refl _ _⟩
  rw [if_neg h0]
  obtain ⟨k, rfl⟩ := Int.eq_ofNat_of_zero_le (show 0 ≤ n by omega)
  by_cases h1 : (s.size : Int) < (k : Int)
  · rw [if_pos h1]
    go_enter Tryd.func60, Tryd.ntmps60
    go_wp2
    go_ret3
    exact ⟨rfl, Below.refl _ _⟩
  · rw [if_neg h1, Int.toNat_natCast]
    have h2 : k ≤ s.size := by omega
    have h3 : (k : Int) ≤ (s.size : Int) := by omega
    go_enter Tryd.func60, Tryd.ntmps60
    go_wp2_with fail
    go_quiet (fail)
    go_wp2
    go_ret3
    exact ⟨rfl, below_drewN (Below.refl _ _) _⟩

set_option maxHeartbeats 1000000 in
set_option maxRecDepth 100000 in
theorem end_clo (s : ByteArray) (w : World) :
    Calls Tryd.prog 58 #[.string s] w fun e w' => e = R3b (endR s) ∧ Below w.heap.size w w' := by
  unfold endR R3b
  by_cases h0 : s.size = 0
  · rw [if_pos h0]
    have hne := str_eq s h0
    clear h0
    go_enter Tryd.func58, Tryd.ntmps58
    go_wp2
    go_ret3
    exact ⟨rfl, Below.refl _ _⟩
  · rw [if_neg h0]
    have hne := str_ne s (by omega)
    clear h0
    go_enter Tryd.func58, Tryd.ntmps58
    go_wp2
    go_ret3
    exact ⟨rfl, Below.refl _ _⟩
end Go.Proofs.YtjjdfodjkoiedaaDoor
