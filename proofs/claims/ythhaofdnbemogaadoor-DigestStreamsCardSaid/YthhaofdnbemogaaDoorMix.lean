/-
  digest.Hash: mix.
-/
import Derived.Test.YthhaofdnbemogaaDoorState
set_option linter.unusedVariables false
namespace Go.Proofs.YthhaofdnbemogaaDoor
open Go.RowKit

/-- A block that holds a hash. -/
def HashAt (w : World) (b : Nat) (A : List Int) (r : ByteArray) (n : Int) : Prop := w.heap[b]? = some (.cells (hashV A r n) 27 (0, 0))
theorem hashV_size (A : List Int) (r : ByteArray) (n : Int) : (hashV A r n).size = A.length + 2 := by simp [hashV, u32s]
theorem hashV_get (A : List Int) (r : ByteArray) (n : Int) (j : Nat) (h : j < A.length) : (hashV A r n)[j]? = some (.int .u32 (wd A j)) := by
  rw [hashV, Array.getElem?_append_left (by rw [u32s_size]; exact h), u32s_get A j h]
theorem hashV_set (A : List Int) (r : ByteArray) (n : Int) (j : Nat) (v : Int) (h : j < A.length) : (hashV A r n).setIfInBounds j (.int .u32 v) = hashV (A.set j v) r n := by
  simp [hashV, u32s, h, List.map_set]
theorem hashV_one (A : List Int) (r : ByteArray) (n : Int) : (hashV A r n).all (·.oneCell') = true := by
  simp [hashV, u32s, Value.oneCell']
theorem HashAt.cell {w : World} {b : Nat} {A : List Int} {r : ByteArray} {n : Int} (h : HashAt w b A r n) {j : Nat} (hj : j < A.length) : w.cell? ⟨b, j, none⟩ = some (.int .u32 (wd A j)) := by
  rw [cell_of_row w b j _ _ _ h, hashV_get A r n j hj]
theorem HashAt.frozen {w : World} {b : Nat} {A : List Int} {r : ByteArray} {n : Int} (h : HashAt w b A r n) (j : Nat) : w.frozen? ⟨b, j, none⟩ = false := frozen_of_row w b j _ _ h
theorem HashAt.set {w : World} {b : Nat} {A : List Int} {r : ByteArray} {n : Int} (h : HashAt w b A r n) (j : Nat) (v : Int) (hj : j < A.length) : HashAt (w.setCell ⟨b, j, none⟩ (.int .u32 v)) b (A.set j v) r n := by
  unfold HashAt
  rw [heap_setCell_same w b j _ _ _ h, hashV_set A r n j v hj]

theorem HashAt.drew {w : World} {b : Nat} {A : List Int} {r : ByteArray} {n : Int} (h : HashAt w b A r n) : HashAt w.drew b A r n := h
/-- But for block b all that was there is as it was. -/
structure Only (b : Nat) (w w' : World) : Prop where
  os : w'.os = w.os
  tape : w'.tape = w.tape
  output : w'.output = w.output
  size : w.heap.size ≤ w'.heap.size
  other : ∀ c, c ≠ b → c < w.heap.size → w'.heap[c]? = w.heap[c]?
theorem Only.refl (b : Nat) (w : World) : Only b w w := ⟨rfl, rfl, rfl, Nat.le_refl _, fun _ _ _ => rfl⟩
theorem Only.of_below {b : Nat} {w w' : World} (h : Below w.heap.size w w') : Only b w w' := ⟨h.os, h.tape, h.output, h.size, fun c _ hc => h.block c hc⟩
theorem Only.trans {b : Nat} {w w' w'' : World} (h : Only b w w') (h' : Only b w' w'') : Only b w w'' :=
  ⟨h'.os.trans h.os, h'.tape.trans h.tape, h'.output.trans h.output, Nat.le_trans h.size h'.size, fun c hc hl => (h'.other c hc (Nat.lt_of_lt_of_le hl h.size)).trans (h.other c hc hl)⟩
theorem Only.drew {b : Nat} {w w' : World} (h : Only b w w') : Only b w w'.drew := ⟨h.os, h.tape, h.output, h.size, h.other⟩
theorem Only.setCell {b : Nat} {w w' : World} (h : Only b w w') (j : Nat) (v : Value) : Only b w (w'.setCell ⟨b, j, none⟩ v) :=
  ⟨h.os, h.tape, h.output, by have := h.size; simpa [World.setCell] using this, fun c hc hl => (Below.heap_setCell _ _ _ _ hc).trans (h.other c hc hl)⟩
theorem Only.below {b B : Nat} {w w' : World} (h : Only b w w') (h1 : B ≤ b) (h2 : B ≤ w.heap.size) : Below B w w' := ⟨h.os, h.tape, h.output, h.size, fun k hk => h.other k (by omega) (by omega)⟩

theorem index8 (L : List Int) (hL : L.length = 8) (k : Nat) (hk : k < 8) (w : World) : (Instr.index 25 (.agg (u32s L)) (.int .i64 (k : Int))).run Tryd.prog w = .ok (.int .u32 (wd L k)) w := by
  obtain ⟨a, b, c, d, e, f, g, i, rfl⟩ := eight hL
  rcases (by omega : k = 0 ∨ k = 1 ∨ k = 2 ∨ k = 3 ∨ k = 4 ∨ k = 5 ∨ k = 6 ∨ k = 7) with rfl | rfl | rfl | rfl | rfl | rfl | rfl | rfl <;> kernel_rfl

theorem octL_len (o : Oct) : (octL o).length = 8 := rfl
theorem addL_len {A B : List Int} (hA : A.length = 8) (hB : B.length = 8) : (addL A B).length = 8 := by rw [← addF_eight hA hB, addF_len, hA]
theorem mixL_len {A : List Int} (hA : A.length = 8) (bs : List UInt8) : (mixL A bs).length = 8 := addL_len hA rfl

def MixRel (w : World) (hb : Nat) (A D : List Int) (r : ByteArray) (n : Int) (i : Value) (wr : World) : Prop :=
  ∃ k : Nat, k ≤ 8 ∧ i = .int .i64 (k : Int) ∧ HashAt wr hb (addF A D k) r n ∧ Only hb w wr

set_option maxHeartbeats 2000000 in
set_option maxRecDepth 100000 in
theorem mix_any (hb : Nat) (A : List Int) (r : ByteArray) (n : Int) (s : ByteArray) (hA : A.length = 8) (hs : s.size = 64) (w : World) (hh : HashAt w hb A r n) (ht : TabD w) :
    Calls Tryd.prog 45 #[.pointer (some ⟨hb, 0, none⟩), .string s] w fun e w' => e = .returned (.tuple #[]) ∧ HashAt w' hb (mixL A s.data.toList) r n ∧ Only hb w w' := by
  have HA := Lib.hid hA
  have HT := Lib.hid ht
  have HH := Lib.hid hh
  have HST := Lib.hid (state_any A r n hA w ht)
  have HSC := Lib.hid (fun w => schedule_any s hs w)
  clear hA ht hh hs
  go_enter Tryd.func45, Tryd.ntmps45
  go_wp2_with (refine wpList_load_row rfl 27 _ rfl hb rfl 27 _ (0, 0) _ HH.out Tryd.underlying27 rfl ?z1 ?_; (case z1 => rw [hashV_size, HA.out]; kernel_rfl))
  refine HST.out.mono ?_
  rintro e w1 ⟨rfl, hb1⟩
  have HB1 := Lib.hid hb1
  clear hb1
  go_wp2_with fail
  refine (HSC.out _).mono ?_
  rintro e w2 ⟨rfl, hb2⟩
  have HB2 := Lib.hid (HB1.out.trans (hb2.mono HB1.out.size))
  have HRD := Lib.hid (rounds_any (addL A sqL) (sched s.data.toList) (addL_len HA.out rfl) (sched_len _) w2 (HT.out.below HB2.out HT.out.pos))
  clear hb2
  go_wp2_with fail
  refine HRD.out.mono ?_
  rintro e w3 ⟨rfl, hb3⟩
  have HO3 := Lib.hid (Only.of_below (b := hb) (HB2.out.trans (hb3.mono HB2.out.size)))
  have HH3 : Hid (HashAt w3 hb A r n) := Lib.hid (by
    have hlt := World.block_lt_of_cell? w ⟨hb, 0, none⟩ (HH.out.cell (j := 0) (by rw [HA.out]; omega))
    unfold HashAt
    rw [(HB2.out.trans (hb3.mono HB2.out.size)).block hb hlt]
    exact HH.out)
  obtain ⟨D, hD⟩ : ∃ D, D = octL (rnds (octOf (addL A sqL)) (sched s.data.toList) 64) := ⟨_, rfl⟩
  rw [← hD]
  have hDl : D.length = 8 := by rw [hD]; rfl
  have HD := Lib.hid hD
  have HDL := Lib.hid hDl
  clear hb3 hD hDl
  go_wp2_with fail
  go_loopw [4, 5, 13] (fun _ _ i wr => MixRel w hb A D r n i wr) (fun _ _ i _ => 8 - (intOf i).toNat)
  case atStart => exact ⟨0, by omega, rfl, HH3.out, HO3.out⟩
  case round =>
    obtain ⟨k, hk, rfl, hh, ho⟩ := hrel
    have HHK := Lib.hid hh
    have HOK := Lib.hid ho
    by_cases hlt : k < 8
    · have hlen : (addF A D k).length = 8 := by rw [addF_len, HA.out]
      have c1 := hh.cell (j := k) (by omega)
      have hf := hh.frozen k
      have hltI : (k : Int) < 8 := by omega
      have hix := fun w => index8 D HDL.out k hlt w
      have HLE := Lib.hid hlen
      clear hh ho hlen
      go_wp2_with fail
      go_region
      go_wp2
      go_roundw
      case rel => exact ⟨k + 1, by omega, by go_num, HashAt.drew (HHK.out.set k _ (by rw [HLE.out]; omega)), (HOK.out.setCell k _).drew⟩
      case measure => simp [intOf]; omega
    · obtain rfl : k = 8 := by omega
      clear hh ho
      go_wp2
      go_end0
      refine ⟨rfl, ?_, HOK.out⟩
      have := HHK.out
      rw [addF_eight HA.out HDL.out, HD.out] at this
      exact this
end Go.Proofs.YthhaofdnbemogaaDoor
