/-
  wire.Writer: low, Little, Signed, Number, Raw, String, Text, Len, NewWriter.
-/
import Derived.Test.YtjjdfodjkoiedaaDoorWOwn
import Derived.Deep.RegionHeldLaw
import Derived.BigRegion
import Derived.Deep.RegionLaw
set_option linter.unusedVariables false
namespace Go.Proofs.YtjjdfodjkoiedaaDoor
open Go.RowKit

def LowRel (w : World) (wb B : Nat) (v : Value) (bs : List UInt8) (n : Int) (size : Nat) (i : Value) (wr : World) : Prop :=
  ∃ (k : Nat) (vr : Value), k ≤ size ∧ i = .int .i64 k ∧ WAt wr wb B vr (bs ++ encLE n k) ∧ WStep w wr wb v vr

set_option maxHeartbeats 1000000 in
set_option maxRecDepth 100000 in
theorem low_any (wb B : Nat) (v : Value) (bs : List UInt8) (n : Int) (size : Nat) (hs : size ≤ 8) (hl : bs.length ≤ 1000000000) (w : World) (h : WAt w wb B v bs) :
    Calls Tryd.prog 66 #[.pointer (some ⟨wb, 0, none⟩), .int .i64 n, .int .i64 (size : Int)] w fun e w' => e = .returned (.tuple #[]) ∧ ∃ v', WAt w' wb B v' (bs ++ encLE n size) ∧ WStep w w' wb v v' := by
  obtain ⟨i0, hi, hz0, hz1, hz2⟩ := info_parts infoU8
  go_enter Tryd.func66, Tryd.ntmps66
  go_wp2
  go_loopw [6, 8] (fun _ i wr => LowRel w wb B v bs n size i wr) (fun _ i _ => size - (intOf i).toNat)
  case atStart => exact ⟨0, v, Nat.zero_le _, rfl, by simpa [encLE] using h, WStep.refl _ _ _⟩
  case round =>
    obtain ⟨k, vr, hk, rfl, ha, hst⟩ := hrel
    by_cases hlt : k < size
    · have c0 := ha.cell
      have f0 := ha.free
      have hltI : (k : Int) < (size : Int) := by omega
      have hmx : (bs ++ encLE n k).length ≤ 2000000000 := by rw [List.length_append, encLE_len]; omega
      have hnx : Hid ((bs ++ encLE n k) ++ [byteI (n / 2 ^ (8 * k))] = bs ++ encLE n (k + 1)) := by show _ = _; rw [encLE, List.append_assoc]
      generalize bs ++ encLE n k = bk at ha hmx hnx
      go_wp2_with fail
      have e8 : IntKind.i64.wrap (8 * (k : Int)) = ((8 * k : Nat) : Int) := by rw [IntWalk.i64_in _ (by omega)]; omega
      have e8a : (0 : Int) ≤ ((8 * k : Nat) : Int) := by omega
      have e8b : ((8 * k : Nat) : Int) ≤ 64 := by omega
      have HX : Hid (IntKind.u8.wrap (n / 2 ^ (8 * k)) = ((byteI (n / 2 ^ (8 * k))).toNat : Int)) := by
        show _ = _
        rw [IntKind.wrap_u8, byteI_nat]
      generalize 8 * k = m at e8 e8a e8b HX hnx ⊢
      have hba := ha.base
      have ca : ∀ o : Obj, (wr.alloc o).cell? ⟨wb, 0, none⟩ = some vr := fun o => (World.cell?_alloc_lt wr o ⟨wb, 0, none⟩ ha.lt).trans c0
      go_region_law (refine step_append_lies _ rfl (.tmp 15) (.tmp 21) 64 rfl B 5 i0 (.int .u8 0) 1 1 Tryd.underlying64 hi hz0 hz1 hz2 rfl (by decide) vr _ _ rfl (by exact ha.own.alloc _) ⟨wr.heap.size, 0, none⟩ 1 1 [.int .u8 (IntKind.u8.wrap (n / 2 ^ m))] rfl rfl (by exact news_one _ _ _) (by exact one_one _ _) (by decide) (by exact max_one hmx) (by exact max_one1 hmx) (by exact base_al hba) _ rfl ?_; intro g cap w2 hown hgrow hat hg2; have cw := ha.cell_grown (below_one _ _) hgrow; have fw := ha.free_grown (below_one _ _) hgrow)
      all_goals
        have R := ha.app1 HX.out hown hgrow hat
        rw [hnx.out] at R
        have HR := Lib.hid R
        clear R hown hgrow hat e8 cw fw c0 f0 ca
        go_wp2
        go_roundw
        case rel => exact ⟨k + 1, _, by omega, by go_num, HR.out.1, hst.trans HR.out.2⟩
        case measure => simp [intOf]; omega
    · obtain rfl : k = size := by omega
      go_wp2
      go_end0
      exact ⟨rfl, vr, ha, hst⟩
end Go.Proofs.YtjjdfodjkoiedaaDoor
