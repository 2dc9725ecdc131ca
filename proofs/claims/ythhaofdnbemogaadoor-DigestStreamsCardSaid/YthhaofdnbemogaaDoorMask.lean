/-
  digest.masked, lockOf.
-/
import Derived.Test.YthhaofdnbemogaaDoorByte
import Derived.Lib.ConvBytes
set_option linter.unusedVariables false
namespace Go.Proofs.YthhaofdnbemogaaDoor
open Go.RowKit

def xorB (a b : UInt8) : UInt8 := a ^^^ b
/-- The first k bytes are masked. -/
def maskF (s t : List UInt8) (k j : Nat) : Value := if j < k then .int .u8 (((s.getD j 0) ^^^ (t.getD j 0)).toNat : Int) else .int .u8 ((s.getD j 0).toNat : Int)
def maskL (s t : List UInt8) : List UInt8 := List.zipWith (· ^^^ ·) s t

theorem maskF_step (s t : List UInt8) (k j : Nat) {v : Int} (hv : v = (((s.getD k 0) ^^^ (t.getD k 0)).toNat : Int)) : (if j = k then Value.int .u8 v else maskF s t k j) = maskF s t (k + 1) j := by
  unfold maskF
  by_cases h : j = k
  · subst h
    rw [if_pos rfl, if_pos (Nat.lt_succ_self _), hv]
  · rw [if_neg h]
    by_cases h2 : j < k
    · rw [if_pos h2, if_pos (by omega)]
    · rw [if_neg h2, if_neg (by omega)]
theorem xor_u8 (a b : UInt8) : bits .xor .u8 (a.toNat : Int) (b.toNat : Int) = ((a ^^^ b).toNat : Int) := by
  have e : ∀ x : UInt8, (BitVec.ofInt 8 (x.toNat : Int)).toNat = x.toNat := by
    intro x
    have := x.toNat_lt
    rw [BitVec.ofInt_natCast, BitVec.toNat_ofNat]
    omega
  have hz : a.toNat ^^^ b.toNat < 256 := Nat.xor_lt_two_pow (n := 8) a.toNat_lt b.toNat_lt
  show IntKind.u8.wrap ((BitVec.ofInt 8 (a.toNat : Int) ^^^ BitVec.ofInt 8 (b.toNat : Int)).toNat : Int) = _
  rw [BitVec.toNat_xor, e, e, IntKind.wrap_u8, UInt8.toNat_xor]
  omega
/-- The first n cells of a block, none of them frozen. -/
structure MRow (w : World) (b n : Nat) (f : Nat → Value) : Prop where
  lt : b < w.heap.size
  cell : ∀ i, i < n → w.cell? ⟨b, i, none⟩ = some (f i)
  free : ∀ i, i < n → w.frozen? ⟨b, i, none⟩ = false
theorem MRow.congr {w : World} {b n : Nat} {f g : Nat → Value} (h : MRow w b n f) (e : ∀ i, i < n → f i = g i) : MRow w b n g := ⟨h.lt, fun i hi => (h.cell i hi).trans (by rw [e i hi]), h.free⟩
theorem MRow.drew {w : World} {b n : Nat} {f : Nat → Value} (h : MRow w b n f) : MRow w.drew b n f := ⟨h.lt, h.cell, h.free⟩
theorem MRow.set {w : World} {b n : Nat} {f : Nat → Value} (h : MRow w b n f) (k : Nat) (v : Value) (hk : k < n) : MRow (w.setCell ⟨b, k, none⟩ v) b n (fun j => if j = k then v else f j) := by
  refine ⟨by simpa [World.setCell] using h.lt, fun i hi => ?_, fun i hi => ?_⟩
  · by_cases hik : i = k
    · subst hik
      show _ = some (if i = i then v else f i)
      rw [if_pos rfl]
      exact World.cell?_setCell_same' w _ v (by rw [h.cell i hi]; rfl)
    · show _ = some (if i = k then v else f i)
      rw [if_neg hik]
      exact (World.cell?_setCell_other _ _ _ _ (fun e => hik (by injection e with e1 e2; exact e2.symm))).trans (h.cell i hi)
  · rw [World.frozen?_setCell]; exact h.free i hi

def MaskRel (w : World) (s t : ByteArray) (i : Value) (wr : World) : Prop :=
  ∃ k : Nat, k ≤ s.size ∧ i = .int .i64 (k : Int) ∧ MRow wr w.heap.size s.size (maskF s.data.toList t.data.toList k) ∧ Below w.heap.size w wr

set_option maxHeartbeats 2000000 in
set_option maxRecDepth 100000 in
theorem masked_any (s t : ByteArray) (hl : s.size ≤ 10000000) (hst : s.size ≤ t.size) (w : World) :
    Calls Tryd.prog 59 #[.string s, .string t] w fun e w' => e = .returned (.string (strL (maskL s.data.toList t.data.toList))) ∧ Below w.heap.size w w' := by
  have hcv := fun w => Lib.run_convert_string_bytes (P := Tryd.prog) w 9 47 5 s Tryd.underlying9 Tryd.underlying47 Tryd.underlying5
  have HM : Hid (MaskRel w s t (.int .i64 0) (Lib.bytesWorld w 5 s)) := Lib.hid (by
    refine ⟨0, Nat.zero_le _, rfl, ⟨by rw [Lib.bytesWorld_size]; omega, fun i hi => ?_, fun i hi => ?_⟩, ?_⟩
    · rw [Lib.bytesWorld_cell w _ s i hi, maskF, if_neg (Nat.not_lt_zero _)]
    · unfold World.frozen?
      rw [Lib.bytesWorld_at_new]
      have : s.size ≤ (Lib.bytesCells w 5 s).size := by simp [Lib.bytesCells]
      simp
      omega
    · refine ⟨rfl, rfl, rfl, by rw [Lib.bytesWorld_size]; omega, fun j hj => Lib.bytesWorld_at_old w _ s j hj⟩)
  go_enter Tryd.func59, Tryd.ntmps59
  go_wp2
  clear hcv
  go_loopw [6, 11] (fun _ i wr => MaskRel w s t i wr) (fun _ i _ => s.size - (intOf i).toNat)
  case atStart => exact HM.out
  case round =>
    obtain ⟨k, hk, rfl, hr, hbel⟩ := hrel
    clear HM
    by_cases hlt : k < s.size
    · have hltI : (k : Int) < (s.size : Int) := by omega
      have hltT : (k : Int) < (t.size : Int) := by omega
      have hltT' : k < t.size := by omega
      have hcell := hr.cell k hlt
      rw [maskF, if_neg (Nat.lt_irrefl _)] at hcell
      have hfr := hr.free k hlt
      have hbt := byte_at t k hltT'
      have HR := Lib.hid hr
      have HB := Lib.hid hbel
      generalize hA : s.data.toList.getD k 0 = A at *
      generalize hB : t.data.toList.getD k 0 = B at *
      have HA := Lib.hid hA
      have HBB := Lib.hid hB
      clear hr hbel hA hB
      go_wp2_with fail
      go_region
      go_wp2
      go_roundw
      case rel =>
        refine ⟨k + 1, by omega, by go_num, ?_, ?_⟩
        · refine MRow.drew ((HR.out.set k _ hlt).congr (fun j _ => ?_))
          exact maskF_step _ _ k j (by rw [HA.out, HBB.out]; exact xor_u8 A B)
        · exact (HB.out.setCell (p := ⟨w.heap.size, k, none⟩) (Nat.le_refl _) _).drew
      case measure => simp [intOf]; omega
    · obtain rfl : k = s.size := by omega
      have hcv : (convert 47 9 (.slice (some ⟨w.heap.size, 0, none⟩) s.size (grownCap w s.size 0 5))).run Tryd.prog wr = .ok (.string ⟨(maskL s.data.toList t.data.toList).toArray⟩) wr := by
        have hlen : (maskL s.data.toList t.data.toList).length = s.size := by simp [maskL]; omega
        rw [← hlen]
        refine run_convert_bytes_back wr _ _ _ ⟨w.heap.size, 0, none⟩ _ (maskL s.data.toList t.data.toList) Tryd.underlying47 Tryd.underlying5 Tryd.underlying9 (fun j hj => ?_)
        rw [hlen] at hj
        rw [addr_at, hr.cell j hj, maskF, if_pos hj]
        simp [maskL, List.getD_eq_getElem?_getD, hj, show j < t.size by omega]
      have HB := Lib.hid hbel
      clear hr hbel
      go_wp2
      go_ret
      exact ⟨rfl, HB.out⟩
end Go.Proofs.YthhaofdnbemogaaDoor
