/-
  digest.Hash: state, mix.
-/
import Derived.Test.YthhaofdnbemogaaDoorRounds
import Derived.Deep.MidRow
set_option linter.unusedVariables false
namespace Go.Proofs.YthhaofdnbemogaaDoor
open Go.RowKit

/-- A hash as a value. -/
def hashV (A : List Int) (r : ByteArray) (n : Int) : Array Value := u32s A ++ #[.string r, .int .i64 n]

theorem hashV_range (A : List Int) (r : ByteArray) (n : Int) {w : World} {b : Nat} {T : TypeId} (h : w.heap[b]? = some (.cells (hashV A r n) T (0, 0))) : w.rangeAt b 0 (A.map (Value.int .u32)) := fun j v hv => by
  have hj : j < (A.map (Value.int .u32)).length := (List.getElem?_eq_some_iff.1 hv).1
  rw [Nat.zero_add, cell_of_row w b j _ _ _ h, hashV, Array.getElem?_append_left (by rw [u32s_size]; simpa using hj)]
  simpa [u32s] using hv

theorem eight {A : List Int} (h : A.length = 8) : ∃ a b c d e f g i : Int, A = [a, b, c, d, e, f, g, i] := by
  match A, h with
  | [a, b, c, d, e, f, g, i], _ => exact ⟨a, b, c, d, e, f, g, i, rfl⟩

/-- The further list is added, word by word. -/
def addF (A B : List Int) : Nat → List Int
  | 0 => A
  | k + 1 => (addF A B k).set k ((wd (addF A B k) k + wd B k) % 4294967296)
theorem addF_len (A B : List Int) (k : Nat) : (addF A B k).length = A.length := by
  induction k with
  | zero => simp [addF]
  | succ k ih => simp [addF, ih]
theorem addF_eight {A B : List Int} (hA : A.length = 8) (hB : B.length = 8) : addF A B 8 = addL A B := by
  obtain ⟨a, b, c, d, e, f, g, i, rfl⟩ := eight hA
  obtain ⟨a', b', c', d', e', f', g', i', rfl⟩ := eight hB
  rfl

def StRel (w : World) (A : List Int) (i : Value) (wr : World) : Prop :=
  ∃ k : Nat, k ≤ 8 ∧ i = .int .i64 (k : Int) ∧ Row32 wr (w.heap.size + 1 + 1) 25 (addF A sqL k) ∧ Row32 wr (w.heap.size + 1) 25 (List.replicate 8 0) ∧ wr.heap.size = w.heap.size + 1 + 1 + 1 ∧ Below w.heap.size w wr

theorem alloc3 (w : World) (a b c : Obj) : (((w.alloc a).alloc b).alloc c).heap[w.heap.size + 1 + 1]? = some c := by
  rw [show w.heap.size + 1 + 1 = (w.alloc a).heap.size + 1 by simp]
  exact heap_alloc2_new (w.alloc a) b c
set_option maxHeartbeats 2000000 in
set_option maxRecDepth 100000 in
theorem state_any (A : List Int) (r : ByteArray) (n : Int) (hA : A.length = 8) (w : World) (ht : TabD w) :
    Calls Tryd.prog 49 #[.agg (hashV A r n)] w fun e w' => e = .returned (.agg (u32s (addL A sqL))) ∧ Below w.heap.size w w' := by
  have HA := Lib.hid hA
  have HT := Lib.hid ht
  clear hA ht
  have HH := Lib.hid (hashV_range A r n (heap_alloc2_old w (.cells (hashV A r n) 27) (.cells (u32s (List.replicate 8 0)) 25)))
  have HR := Lib.hid (alloc3 w (.cells (hashV A r n) 27) (.cells (u32s (List.replicate 8 0)) 25) (.cells (u32s (List.replicate 8 0)) 25))
  go_enter Tryd.func49, Tryd.ntmps49
  go_wp2_with (first
    | (refine wpList_load_mid rfl 25 _ rfl w.heap.size 0 rfl (A.map (Value.int .u32)) _ HH.out Tryd.underlying25 rfl ?z1 ?_; (case z1 => rw [List.length_map, HA.out]; kernel_rfl))
    | (refine wpList_store_row rfl 25 _ _ rfl (w.heap.size + 1 + 1) (u32s A) rfl rfl 25 _ HR.out ?z2 ?z3 (u32s_one _) ?_; (case z2 => rw [u32s_size, HA.out]; kernel_rfl); (case z3 => rw [u32s_size, u32s_size, HA.out]; rfl)))
  go_loopw [4, 7] (fun _ i wr => StRel w A i wr) (fun _ i _ => 8 - (intOf i).toNat)
  case atStart =>
    refine ⟨0, by omega, rfl, ?_, ?_, ?_, ?_⟩
    · exact setRow_heap _ _ _ _ _ _ HR.out
    · show Row32 (World.setRow _ _ _) _ _ _
      unfold Row32
      rw [setRow_other _ _ _ _ (by omega), heap_alloc_old _ _ (by simp)]
      exact heap_alloc2_new _ _ _
    · simp
    · exact below_setRow ((((Below.refl w.heap.size w).alloc (Nat.le_refl _) _).alloc (by simp) _).alloc (by simp <;> omega) _) (by omega) _
  case round =>
    obtain ⟨k, hk, rfl, hr1, hr2, hsz, hbel⟩ := hrel
    by_cases hlt : k < 8
    · have hlen : (addF A sqL k).length = 8 := by rw [addF_len, HA.out]
      have c1 := hr1.cell (j := k) (by omega)
      have c2 := (HT.out.below hbel (by have := HT.out.pos; omega)).1 k hlt
      have hf := hr1.frozen k
      have HR1 := Lib.hid hr1
      have HR2 := Lib.hid hr2
      have HSZ := Lib.hid hsz
      have HBL := Lib.hid hbel
      have hltI : (k : Int) < 8 := by omega
      clear hr1 hr2 hsz hbel hlen
      go_wp2_with fail
      go_region
      go_wp2
      go_roundw
      case rel =>
        refine ⟨k + 1, by omega, by go_num, ?_, ?_, ?_, ?_⟩
        · exact (HR1.out.set k _).drew
        · exact (HR2.out.set_other k _ (by omega)).drew
        · simpa using HSZ.out
        · exact (HBL.out.setCell (by simp only []; omega) _).drew
      case measure => simp [intOf]; omega
    · obtain rfl : k = 8 := by omega
      have HRE := Lib.hid (show Row32 wr (w.heap.size + 1 + 1) 25 (addL A sqL) by rw [← addF_eight HA.out rfl]; exact hr1)
      have HR2 := Lib.hid hr2
      have HLN : Hid ((addL A sqL).length = 8) := Lib.hid (by rw [← addF_eight HA.out rfl, addF_len, HA.out])
      have HBL := Lib.hid hbel
      clear hr1 hr2 hsz hbel
      go_wp2_with (first
        | (refine wpList_load_row rfl 25 _ rfl (w.heap.size + 1 + 1) rfl 25 _ (0, 0) _ HRE.out Tryd.underlying25 rfl ?z1 ?_; (case z1 => rw [u32s_size, HLN.out]; kernel_rfl))
        | (refine wpList_store_row rfl 25 _ _ rfl (w.heap.size + 1) (u32s (addL A sqL)) rfl rfl 25 _ HR2.out ?z2 ?z3 (u32s_one _) ?_; (case z2 => rw [u32s_size, HLN.out]; kernel_rfl); (case z3 => rw [u32s_size, u32s_size, HLN.out]; rfl)))
      refine bodyPost_ret (results_cell_row rfl _ _ (w.heap.size + 1) 25 (u32s (addL A sqL)) (0, 0) _ rfl (setRow_heap _ _ _ _ _ _ HR2.out) Tryd.underlying25 rfl ?z1) rfl ⟨rfl, ?_⟩
      case z1 => rw [u32s_size, HLN.out]; kernel_rfl
      exact below_setRow HBL.out (by omega) _
end Go.Proofs.YthhaofdnbemogaaDoor
