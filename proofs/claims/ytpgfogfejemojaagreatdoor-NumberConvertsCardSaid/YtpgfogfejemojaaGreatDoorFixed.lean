/-
  internal/strconv.fixedWidthFloat for the format e.
-/
import Derived.Test.YtpgfogfejemojaaGreatDoorTabN
set_option linter.unusedVariables false
namespace Go.Proofs.YtpgfogfejemojaaGreatDoor
open Go.RowKit

theorem bits_u64 (op : BinOp) (a b : Int) : 0 ≤ bits op .u64 a b ∧ bits op .u64 a b < 18446744073709551616 := by
  unfold bits
  rw [IntKind.wrap_u64]
  omega
theorem uscG_lt (h mid mid2 s : Int) : 0 ≤ uscG h mid mid2 s ∧ uscG h mid mid2 s < 18446744073709551616 := by
  unfold uscG
  split
  · exact bits_u64 _ _ _
  · exact bits_u64 _ _ _
theorem divV_lt (x : Int) : 0 ≤ divV x ∧ divV x < 18446744073709551616 := bits_u64 _ _ _

/-- The power, the shift and the digits that fixedWidthFloat takes. -/
def fxQ (e n : Int) : Int := n - 1 - (e + 63) * 78913 / 262144
def fxS (e n : Int) : Int := -(e + fxQ e n * 108853 / 32768 + 3)
theorem fx_range (e n : Int) (e0 : -1137 ≤ e) (e1 : e ≤ 960) (n0 : 1 ≤ n) (n1 : n ≤ 18) : 0 ≤ fxS e n ∧ fxS e n ≤ 63 ∧ -340 ≤ fxQ e n ∧ fxQ e n ≤ 345 := by
  unfold fxS fxQ
  omega
def fxU (m : Nat) (e n : Int) : Int := uscV m (hiT (fxQ e n + 348).toNat) (loT (fxQ e n + 348).toNat) (fxS e n)
def fxD (m : Nat) (e n : Int) : Int := if decide (fxU m e n ≥ unminV ((10 ^ n.toNat : Nat) : Int)) = true then roundV (divV (fxU m e n)) else roundV (fxU m e n)
def fxP (m : Nat) (e n : Int) : Int := if decide (fxU m e n ≥ unminV ((10 ^ n.toNat : Nat) : Int)) = true then -(fxQ e n - 1) else -(fxQ e n)

set_option maxHeartbeats 1000000 in
set_option maxRecDepth 100000 in
theorem fixed_any (m : Nat) (e n prec : Int) (hm : m < 18446744073709551616) (e0 : -1137 ≤ e) (e1 : e ≤ 960) (n0 : 1 ≤ n) (n1 : n ≤ 18) (w : World) (ht : TabN w) :
    Calls Tryz.prog 134 #[.int .u64 (m : Int), .int .i64 e, .int .i64 n, .int .i64 prec, .int .u8 101] w fun en w' => en = .returned (.tuple #[.int .u64 (fxD m e n), .int .i64 (fxP m e n)]) ∧ Below w.heap.size w w' := by
  obtain ⟨r1, r2, r3, r4⟩ := fx_range e n e0 e1 n0 n1
  have HT := Lib.hid ht
  have hpos : 16 < w.heap.size := by obtain ⟨k, h⟩ := ht.ml; exact World.block_lt_of_cell? w ⟨16, 0, none⟩ h
  obtain ⟨q, hq⟩ : ∃ q, q = fxQ e n := ⟨_, rfl⟩
  obtain ⟨j, hj⟩ : ∃ j : Nat, j = (q + 348).toNat := ⟨_, rfl⟩
  have hjl : j < 696 := by omega
  have q0 : -340 ≤ q := by omega
  have q1 : q ≤ 345 := by omega
  have eq1 : Hid (n - 1 - (e + 63) * 78913 / 262144 = q) := Lib.hid hq.symm
  have eq2 : Hid ((j : Int) - 348 = q) := Lib.hid (by omega)
  have hs0 : 0 ≤ -(e + q * 108853 / 32768 + 3) := by rw [hq]; exact r1
  have hs1 : -(e + q * 108853 / 32768 + 3) ≤ 63 := by rw [hq]; exact r2
  obtain ⟨s, hs⟩ : ∃ s, s = -(e + q * 108853 / 32768 + 3) := ⟨_, rfl⟩
  rw [← hs] at hs0 hs1
  obtain ⟨u, hu⟩ : ∃ u, u = uscV m (hiT j) (loT j) s := ⟨_, rfl⟩
  have hub := uscG_lt ((m * hiT j / 18446744073709551616 : Nat) : Int) ((m * hiT j % 18446744073709551616 : Nat) : Int) ((m * loT j / 18446744073709551616 : Nat) : Int) s
  have hub : 0 ≤ u ∧ u < 18446744073709551616 := by rw [hu]; exact hub
  obtain ⟨u0, u1⟩ := hub
  have HP : Hid (∀ g w, TabN w → ScAt w g 0 0 0 → 16 < g → Calls Tryz.prog 162 #[.pointer (some ⟨g, 0, none⟩), .int .i64 e, .int .i64 q, .int .i64 (q * 108853 / 32768)] w fun en w' => en = .returned (.tuple #[]) ∧ ScAt w' g (hiT j) (loT j) s ∧ Below g w w') := Lib.hid (fun g w ht hs' hg => by
    have h := prescale_any g 0 0 0 e j (q * 108853 / 32768) hjl (by omega) (by omega) (by omega) (by omega) w ht hs' hg
    rw [eq2.out, ← hs] at h
    exact h)
  have HU := Lib.hid (fun g w c0 c1 c2 => uscale_any m (hiT j) (loT j) s g hm (hiT_lt j hjl) (loT_lt j hjl) hs0 hs1 w c0 c1 c2)
  have eD : Hid (fxD m e n = if decide (u ≥ unminV ((10 ^ n.toNat : Nat) : Int)) = true then roundV (divV u) else roundV u) := Lib.hid (by unfold fxD fxU fxS; rw [hu, hs, hj, hq])
  have eP : Hid (fxP m e n = if decide (u ≥ unminV ((10 ^ n.toNat : Nat) : Int)) = true then -(q - 1) else -q) := Lib.hid (by unfold fxP fxU fxS; rw [hu, hs, hj, hq])
  rw [← hu] at HU
  have hpw := ht.pw n.toNat (by omega)
  have hnn : 0 ≤ n := by omega
  have b10 : ((10 ^ n.toNat : Nat) : Int) < 18446744073709551616 := by
    have : 10 ^ n.toNat ≤ 10 ^ 18 := Nat.pow_le_pow_right (by decide) (by omega)
    omega
  obtain ⟨ten, hten⟩ : ∃ t : Int, t = ((10 ^ n.toNat : Nat) : Int) := ⟨_, rfl⟩
  have ten0 : 0 ≤ ten := by rw [hten]; exact Int.natCast_nonneg _
  rw [← hten] at hpw b10 eD eP
  clear hten hu hs hj hq ht r1 r2 r3 r4
  go_enter Tryz.func134, Tryz.ntmps134
  go_wp2_with fail
  refine (log10_any _ (by omega) (by omega) _).mono ?_
  rintro e w1 ⟨rfl, rfl⟩
  go_wp2_with fail
  rw [eq1.out]
  refine (log2_any _ (by omega) (by omega) _).mono ?_
  rintro e w2 ⟨rfl, rfl⟩
  go_wp2_with fail
  have ht1 := HT.out.below ((Below.refl w.heap.size w).alloc (Nat.le_refl _) (.cells #[.int .u64 0, .int .u64 0, .int .i64 0] 162))
  refine (HP.out w.heap.size _ ht1 (heap_top _ _) hpos).mono ?_
  rintro e w3 ⟨rfl, hsc, hb⟩
  have c0 := hsc.c0
  have c1 := hsc.c1
  have c2 := hsc.c2
  have HB := Lib.hid (((Below.refl w.heap.size w).alloc (Nat.le_refl _) _).trans hb)
  have hpw3 := cell_keep HB.out hpw
  clear hb hsc ht1 hpw
  go_wp2_with fail
  refine (HU.out w.heap.size _ c0 c1 c2).mono ?_
  rintro e w4 ⟨rfl, hb⟩
  have HB4 := Lib.hid (HB.out.trans (hb.mono HB.out.size))
  have hpw4 := cell_keep hb hpw3
  clear hb hpw3 c0 c1 c2
  go_wp2_with fail
  refine (unmin_any _ (by omega) (by omega) _).mono ?_
  rintro e w5 ⟨rfl, rfl⟩
  rcases Bool.eq_false_or_eq_true (decide (u ≥ unminV ten)) with hd | hd
  · have HD : Hid (fxD m e n = roundV (divV u)) := Lib.hid (by rw [eD.out, if_pos hd])
    have HPP : Hid (fxP m e n = -(q - 1)) := Lib.hid (by rw [eP.out, if_pos hd])
    go_wp2_with fail
    refine (div_any _ u0 u1 _).mono ?_
    rintro e w5 ⟨rfl, hb⟩
    have HB5 := Lib.hid (HB4.out.trans (hb.mono HB4.out.size))
    clear hb
    obtain ⟨d0, d1⟩ := divV_lt u
    go_wp2_with fail
    refine (round_any _ d0 d1 _).mono ?_
    rintro e w6 ⟨rfl, rfl⟩
    go_wp2_with fail
    go_ret2
    exact ⟨by rw [HD.out, HPP.out]; rfl, HB5.out⟩
  · have HD : Hid (fxD m e n = roundV u) := Lib.hid (by rw [eD.out, if_neg (by rw [hd]; decide)])
    have HPP : Hid (fxP m e n = -q) := Lib.hid (by rw [eP.out, if_neg (by rw [hd]; decide)])
    go_wp2_with fail
    refine (round_any _ u0 u1 _).mono ?_
    rintro e w6 ⟨rfl, rfl⟩
    go_wp2_with fail
    go_ret2
    exact ⟨by rw [HD.out, HPP.out]; rfl, HB4.out⟩
end Go.Proofs.YtpgfogfejemojaaGreatDoor
