/-
  wire.Writer: Number.
-/
import Derived.Test.YtjjdfodjkoiedaaDoorWWrite2
import Derived.Deep.DeepCutAuto
set_option linter.unusedVariables false
namespace Go.Proofs.YtjjdfodjkoiedaaDoor
open Go.RowKit

/-- The bytes of n behind the first one, the most significant first: k of R. -/
def beT (n : Int) (R : Nat) : Nat → List UInt8
  | 0 => []
  | k + 1 => beT n R k ++ [byteI (n / 2 ^ (8 * (R - (k + 1))))]
theorem beT_len (n : Int) (R k : Nat) : (beT n R k).length = k := by
  induction k with
  | zero => rfl
  | succ k ih => simp [beT, ih]

def NumRel (w : World) (wb B : Nat) (v : Value) (bs : List UInt8) (n : Int) (R : Nat) (i : Value) (wr : World) : Prop :=
  ∃ (k : Nat) (vr : Value), k ≤ R ∧ i = .int .i64 ((8 * (R - k) : Nat) : Int) ∧ WAt wr wb B vr (bs ++ beT n R k) ∧ WStep w wr wb v vr

set_option maxHeartbeats 2000000 in
set_option maxRecDepth 100000 in
theorem number_core (wb B : Nat) (v : Value) (bs : List UInt8) (n S bb mk mm : Int) (R : Nat) (hR : R ≤ 8) (hS : S = (R : Int) + 1) (b0 : UInt8) (hf : formN n = formV S bb mk mm)
    (hz : bits .or .u8 mk (bits .and .u8 (IntKind.u8.wrap (n / 2 ^ (8 * R))) mm) = (b0.toNat : Int)) (hl : bs.length ≤ 1000000000) (w : World) (h : WAt w wb B v bs) (ht : Tab w) :
    Calls Tryd.prog 27 #[.pointer (some ⟨wb, 0, none⟩), .int .i64 n] w (WPost w wb B v bs (0, b0 :: beT n R R)) := by
  obtain ⟨i0, hi, hz0, hz1, hz2⟩ := info_parts infoU8
  have hsh := shapeOf_any n w ht
  rw [hf] at hsh
  unfold formV at hsh
  have HSH := Lib.hid hsh
  have e8 : 8 * (S - 1) = ((8 * R : Nat) : Int) := by omega
  have hS1 : 1 ≤ S := by omega
  have hS2 : S ≤ 9 := by omega
  have HZ := Lib.hid hz
  clear hsh hf ht hz hS
  go_enter Tryd.func27, Tryd.ntmps27
  go_wp2_with fail
  refine HSH.out.mono ?_
  rintro e w1 ⟨rfl, hb1⟩
  have ha := (h.below hb1).below ((Below.refl _ _).alloc (Nat.le_refl _) (.cells #[.int .i64 S, .int .i64 bb, .int .u8 mk, .int .u8 mm] 96))
  have hst := (WStep.refl w wb v).below (below_al (o := .cells #[.int .i64 S, .int .i64 bb, .int .u8 mk, .int .u8 mm] 96) hb1)
  have m2 : (w1.alloc (.cells #[.int .i64 S, .int .i64 bb, .int .u8 mk, .int .u8 mm] 96)).cell? ⟨w1.heap.size, 2, none⟩ = some (.int .u8 mk) := by rw [World.cell?_alloc_at _ _ _ _ rfl]; rfl
  have m3 : (w1.alloc (.cells #[.int .i64 S, .int .i64 bb, .int .u8 mk, .int .u8 mm] 96)).cell? ⟨w1.heap.size, 3, none⟩ = some (.int .u8 mm) := by rw [World.cell?_alloc_at _ _ _ _ rfl]; rfl
  have HA := Lib.hid ha
  have HST := Lib.hid hst
  have M2 := Lib.hid m2
  have M3 := Lib.hid m3
  clear ha hst h hb1 m2 m3
  go_upto_region 5 with fail
  generalize w1.alloc (.cells #[.int .i64 S, .int .i64 bb, .int .u8 mk, .int .u8 mm] 96) = W at *
  generalize w1.heap.size = b5 at *
  go_cut [31] (fun _ wr => ∃ vr, WAt wr wb B vr (bs ++ [b0]) ∧ WStep w wr wb v vr)
  case first =>
    have ha := HA.out
    have c0 := ha.cell
    have f0 := ha.free
    have hba := ha.base
    have m2 := M2.out
    have m3 := M3.out
    have ca : ∀ o : Obj, (W.alloc o).cell? ⟨wb, 0, none⟩ = some v := fun o => (World.cell?_alloc_lt W o ⟨wb, 0, none⟩ ha.lt).trans c0
    have hmx : bs.length ≤ 2000000000 := by omega
    have e8' : (8 * (R : Int)).toNat = 8 * R := by omega
    go_region_law (refine step_append_lies _ rfl (.tmp 19) (.tmp 30) 64 rfl B 5 i0 (.int .u8 0) 1 1 Tryd.underlying64 hi hz0 hz1 hz2 rfl (by decide) v _ _ rfl (by exact ha.own.alloc _) ⟨W.heap.size, 0, none⟩ 1 1 [.int .u8 (bits .or .u8 mk (bits .and .u8 (IntKind.u8.wrap (n / 2 ^ (8 * R))) mm))] rfl rfl (by exact news_one _ _ _) (by exact one_one _ _) (by decide) (by exact max_one hmx) (by exact max_one1 hmx) (by exact base_al hba) _ rfl ?_; intro g cap w2 hown hgrow hat hg2; have cw := ha.cell_grown (below_one _ _) hgrow; have fw := ha.free_grown (below_one _ _) hgrow)
    all_goals
      have R := ha.app1 HZ.out hown hgrow hat
      go_wp2_with fail
      go_meet
      exact ⟨_, R.1, HST.out.trans R.2⟩
  case rest =>
    obtain ⟨vr, ha, hst⟩ := hcut
    have hl1 : (bs ++ [b0]).length ≤ 1000000001 := by simp; omega
    have hbe : Hid (∀ l, bs ++ b0 :: l = (bs ++ [b0]) ++ l) := by show ∀ l, _ = _; intro l; simp
    clear HA HST M2 M3 HSH e8 hS1 hS2 HZ
    generalize bs ++ [b0] = bc at ha hl1 hbe
    go_wp2
    go_loopw [6] (fun i wr => NumRel w wb B v bc n R i wr) (fun i _ => (intOf i).toNat)
    case atStart => exact ⟨0, vr, Nat.zero_le _, by go_num, by simpa [beT] using ha, hst⟩
    case round =>
      obtain ⟨k, vk, hk, rfl, hak, hstk⟩ := hrel
      by_cases hlt : k < R
      · have c0 := hak.cell
        have f0 := hak.free
        have hmx : (bc ++ beT n R k).length ≤ 2000000000 := by rw [List.length_append, beT_len]; omega
        have hnx : Hid ((bc ++ beT n R k) ++ [byteI (n / 2 ^ (8 * (R - (k + 1))))] = bc ++ beT n R (k + 1)) := by show _ = _; rw [beT, List.append_assoc]
        generalize bc ++ beT n R k = bk at hak hmx hnx
        have hm2 : 8 * (R - k) = 8 * (R - (k + 1)) + 8 := by omega
        have hm64 : 8 * (R - (k + 1)) ≤ 64 := by omega
        have hm3 : Hid (8 * (R - (k + 1)) < 8 * (R - (k + 1)) + 8) := by show _ < _; omega
        have HX : Hid (IntKind.u8.wrap (n / 2 ^ (8 * (R - (k + 1)))) = ((byteI (n / 2 ^ (8 * (R - (k + 1))))).toNat : Int)) := by
          show _ = _
          rw [IntKind.wrap_u8, byteI_nat]
        rw [hm2]
        obtain ⟨m, hm⟩ : ∃ m : Nat, m = 8 * (R - (k + 1)) := ⟨_, rfl⟩
        rw [← hm] at hm64 hm3 HX hnx ⊢
        have HM := Lib.hid hm
        clear hm hm2
        have hba := hak.base
        have hm0 : (0 : Int) ≤ (m : Int) := by omega
        have hm1 : (m : Int) ≤ 64 := by omega
        have ca : ∀ o : Obj, (wr.alloc o).cell? ⟨wb, 0, none⟩ = some vk := fun o => (World.cell?_alloc_lt wr o ⟨wb, 0, none⟩ hak.lt).trans c0
        go_wp2_with fail
        go_region_law (refine step_append_lies _ rfl (.tmp 42) (.tmp 47) 64 rfl B 5 i0 (.int .u8 0) 1 1 Tryd.underlying64 hi hz0 hz1 hz2 rfl (by decide) vk _ _ rfl (by exact hak.own.alloc _) ⟨wr.heap.size, 0, none⟩ 1 1 [.int .u8 (IntKind.u8.wrap (n / 2 ^ m))] rfl rfl (by exact news_one _ _ _) (by exact one_one _ _) (by decide) (by exact max_one hmx) (by exact max_one1 hmx) (by exact base_al hba) _ rfl ?_; intro g cap w2 hown hgrow hat hg2; have cw := hak.cell_grown (below_one _ _) hgrow; have fw := hak.free_grown (below_one _ _) hgrow)
        all_goals
          have R0 := hak.app1 HX.out hown hgrow hat
          rw [hnx.out] at R0
          have HR := Lib.hid R0
          clear R0 hown hgrow hat cw fw c0 f0 ca
          go_wp2
          go_roundw
          case rel => exact ⟨k + 1, _, by omega, by rw [← HM.out], HR.out.1, hstk.trans HR.out.2⟩
          case measure => simp [intOf]; omega
      · obtain rfl : k = R := by omega
        have h0 : 8 * (k - k) = 0 := by omega
        rw [h0]
        have HB := Lib.hid (hbe.out (beT n k k))
        clear hbe
        go_wp2
        go_ret
        exact ⟨rfl, vk, by rw [HB.out]; exact hak, hstk⟩
end Go.Proofs.YtjjdfodjkoiedaaDoor
