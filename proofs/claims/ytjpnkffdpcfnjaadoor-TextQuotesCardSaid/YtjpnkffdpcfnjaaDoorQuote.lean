/-
  text.Quote: the literal of any string.
-/
import Derived.Test.YtjpnkffdpcfnjaaDoorQuo
set_option linter.unusedVariables false
namespace Go.Proofs.YtjpnkffdpcfnjaaDoor
open Go.RowKit

def QuoRel (l : List Nat) (w : World) (o : Obj) (i : Value) (wr : World) : Prop :=
  ∃ k : Nat, k ≤ l.length ∧ i = .int .i64 k ∧ Lib.IsBuilderF 56 5 (w.heap.size + 1) (w.heap.size + 1) (Lib.byteCells (34 :: (l.take k).flatMap quoteC)) wr ∧ Below (w.heap.size + 1) (w.alloc o) wr

theorem quote_pre (l : List Nat) (k : Nat) : (34 :: (l.take k).flatMap quoteC : List UInt8).length ≤ 6 * l.length + 1 := by
  have h : ∀ m : List Nat, (m.flatMap quoteC).length ≤ 6 * m.length := by
    intro m
    induction m with
    | nil => simp
    | cons c m ih =>
      have := quoteC_len c
      simp only [List.flatMap_cons, List.length_append, List.length_cons]
      omega
  have h1 := h (l.take k)
  have h2 : (l.take k).length ≤ l.length := by rw [List.length_take]; omega
  rw [List.length_cons]
  omega

set_option maxHeartbeats 2000000 in
theorem quote_any (l : List Nat) (hl : l.length ≤ 1000000) (hc : Chars l) (w : World) :
    Calls Tryd.prog 8 #[strV l] w fun e w' => e = .returned (.string ⟨(quoteL l).toArray⟩) ∧ Below w.heap.size w w' := by
  have hlen := len_any l (by omega)
  have hchar := fun (i : Nat) (hi : i < l.length) => char_any l i hi (by omega) (fun c h => by have := (hc c h).1; omega)
  unfold strV at hlen hchar ⊢
  have HLEN := Lib.hid hlen
  have HCHAR := Lib.hid hchar
  clear hlen hchar
  go_enter Tryd.func8, Tryd.ntmps8
  have hI0 := (Lib.IsBuilderF.of (Lib.fresh_isBuilder 56 5 (w.alloc (Obj.cells #[Value.string (pk l), Value.bool (wideL l)] 24))))
  rw [show (w.alloc (Obj.cells #[Value.string (pk l), Value.bool (wideL l)] 24)).heap.size = w.heap.size + 1 by simp] at hI0
  have HI0 := Lib.hid hI0
  clear hI0
  go_wp2_with fail
  refine (writeByte_any (w.heap.size + 1) (w.heap.size + 1) _ 34 _ HI0.out (by decide) (by simp)).mono ?_
  rintro e w1 ⟨rfl, h1, hb1, _⟩
  have hbw1 : Below (w.heap.size + 1) (w.alloc (Obj.cells #[Value.string (pk l), Value.bool (wideL l)] 24)) w1 := ((Below.refl _ _).alloc (by simp) _).trans hb1
  have HI1 : Hid (Lib.IsBuilderF 56 5 (w.heap.size + 1) (w.heap.size + 1) (Lib.byteCells (34 :: (l.take 0).flatMap quoteC)) w1) := Lib.hid (.inr h1)
  have hs1 := hbw1.size
  have hs1' : w.heap.size + 1 ≤ w1.heap.size := by simpa using hs1
  have hd0 : w1.cell? ⟨w.heap.size, 0, none⟩ = some (.string (pk l)) := by
    rw [hbw1.cell (p := ⟨w.heap.size, 0, none⟩) (by show w.heap.size < _; omega), World.cell?_alloc_at _ _ _ _ rfl]; rfl
  have hd1 : w1.cell? ⟨w.heap.size, 1, none⟩ = some (.bool (wideL l)) := by
    rw [hbw1.cell (p := ⟨w.heap.size, 1, none⟩) (by show w.heap.size < _; omega), World.cell?_alloc_at _ _ _ _ rfl]; rfl
  have HBW1 := Lib.hid hbw1
  clear h1 hb1 hbw1 hs1 HI0
  go_wp2_with fail
  refine (HLEN.out _).mono ?_
  rintro e w2 ⟨rfl, hb2⟩
  have HI2 := Lib.hid (builder_below HI1.out hb2)
  have HBW2 : Hid (Below (w.heap.size + 1) (w.alloc (Obj.cells #[Value.string (pk l), Value.bool (wideL l)] 24)) w2) := Lib.hid (HBW1.out.trans (hb2.mono hs1'))
  clear hb2 HI1 HBW1 hd0 hd1 hs1'
  go_wp2
  go_loopw [4, 8] (fun _ i wr => QuoRel l w (Obj.cells #[Value.string (pk l), Value.bool (wideL l)] 24) i wr) (fun _ i _ => l.length - (intOf i).toNat)
  case atStart => exact ⟨0, Nat.zero_le _, rfl, HI2.out, HBW2.out⟩
  case round =>
    obtain ⟨k, hk, rfl, hI, hbel⟩ := hrel
    have hsz := hbel.size
    have hsz' : w.heap.size + 1 ≤ wr.heap.size := by simpa using hsz
    have hd0 : wr.cell? ⟨w.heap.size, 0, none⟩ = some (.string (pk l)) := by
      rw [hbel.cell (p := ⟨w.heap.size, 0, none⟩) (by show w.heap.size < _; omega), World.cell?_alloc_at _ _ _ _ rfl]; rfl
    have hd1 : wr.cell? ⟨w.heap.size, 1, none⟩ = some (.bool (wideL l)) := by
      rw [hbel.cell (p := ⟨w.heap.size, 1, none⟩) (by show w.heap.size < _; omega), World.cell?_alloc_at _ _ _ _ rfl]; rfl
    have hpre := quote_pre l k
    by_cases hlt : k < l.length
    · have hts := quote_snoc l k hlt
      have HQ := Lib.hid (fun W h1 h2 => quoteChar_any (w.heap.size + 1) (w.heap.size + 1) (34 :: (l.take k).flatMap quoteC) l[k] (hc l[k] (List.getElem_mem hlt)) W h1 (by omega) h2)
      have HT := Lib.hid hts
      clear hsz HI2 HBW2 hts hpre
      go_wp2_with fail
      refine (HCHAR.out k hlt _).mono ?_
      rintro e w3 ⟨rfl, hb3⟩
      have hIn := builder_below hI hb3
      have hbel3 : Below (w.heap.size + 1) (w.alloc (Obj.cells #[Value.string (pk l), Value.bool (wideL l)] 24)) w3 := hbel.trans (hb3.mono (by omega))
      have hs3 : w.heap.size + 1 ≤ w3.heap.size := Nat.le_trans hsz' hb3.size
      clear hI hbel hd0 hd1 hb3
      go_wp2_with fail
      refine (HQ.out _ hIn hs3).mono ?_
      unfold QC
      rintro e w4 ⟨rfl, hI4, hb4⟩
      have hbel4 := hbel3.trans hb4
      clear hIn hb4 hbel3
      go_wp2
      go_roundw
      case rel =>
        refine ⟨k + 1, by omega, by go_num, ?_, hbel4⟩
        rw [HT.out]
        exact hI4
      case measure => simp [intOf]; omega
    · obtain rfl : k = l.length := by omega
      rw [List.take_length] at hI
      have hbw : Below w.heap.size w wr := ((Below.refl _ _).alloc (Nat.le_refl _) _).trans (hbel.mono (Nat.le_succ _))
      have HL4 : (Lib.byteCells (34 :: l.flatMap quoteC)).length + 1 ≤ 140737488355328 := by
        rw [cells_len]
        rw [List.take_length] at hpre
        omega
      have HL4H := Lib.hid HL4
      clear hd0 hd1 hbel HI2 HBW2 hpre HL4
      go_wp2_with fail
      refine (writeByte_any (w.heap.size + 1) (w.heap.size + 1) _ 34 _ hI HL4H.out hsz').mono ?_
      rintro e w4 ⟨rfl, h4, hb4, _⟩
      have hs4 : w.heap.size + 1 ≤ w4.heap.size := Nat.le_trans hsz' hb4.size
      have hI4 : Lib.IsBuilderF 56 5 (w.heap.size + 1) (w.heap.size + 1) (Lib.byteCells (quoteL l)) w4 := by
        have e : Lib.byteCells (quoteL l) = Lib.byteCells (34 :: l.flatMap quoteC) ++ [.int .u8 34] := by
          unfold quoteL
          rw [← List.cons_append, cells_app]
          rfl
        rw [e]
        exact .inr h4
      clear h4 hI
      go_wp2_with fail
      refine (Tryd.Builder_String_any_k (w.heap.size + 1) (w.heap.size + 1) (quoteL l) w4 hI4 hs4).mono ?_
      rintro e w5 ⟨rfl, _, hb5, _⟩
      go_wp2
      go_ret
      exact ⟨rfl, hbw.trans ((hb4.trans hb5).mono (Nat.le_succ _))⟩
end Go.Proofs.YtjpnkffdpcfnjaaDoor
