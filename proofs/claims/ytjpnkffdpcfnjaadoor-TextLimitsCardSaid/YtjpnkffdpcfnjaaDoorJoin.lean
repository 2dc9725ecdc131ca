/-
  text.Join at strings that together have at most api.MaxString characters.
-/
import Derived.Test.YtjpnkffdpcfnjaaDoorPart
import Derived.Test.YtjpnkffdpcfnjaaDoorBStr
set_option linter.unusedVariables false
namespace Go.Proofs.YtjpnkffdpcfnjaaDoor
open Go.RowKit

/-- A slice value whose elements are the strings L. -/
def StrsAt (w : World) (v : Value) (L : List (List Nat)) : Prop :=
  ∃ a cap, v = .slice a L.length cap ∧ (L = [] ∨ ∃ b o, a = some ⟨b, o, none⟩ ∧ b < w.heap.size ∧ ∀ j (h : j < L.length), w.cell? ⟨b, o + j * 2, none⟩ = some (.string (pk L[j])) ∧ w.cell? ⟨b, o + j * 2 + 1, none⟩ = some (.bool (wideL L[j])))

theorem StrsAt.below {w w' : World} {v : Value} {L : List (List Nat)} (h : StrsAt w v L) (hb : Below w.heap.size w w') : StrsAt w' v L := by
  obtain ⟨a, cap, hv, h⟩ := h
  refine ⟨a, cap, hv, ?_⟩
  rcases h with h | ⟨b, o, ha, hlt, hc⟩
  · exact .inl h
  · exact .inr ⟨b, o, ha, Nat.lt_of_lt_of_le hlt hb.size, fun j hj => ⟨(hb.cell (p := ⟨b, o + j * 2, none⟩) hlt).trans (hc j hj).1, (hb.cell (p := ⟨b, o + j * 2 + 1, none⟩) hlt).trans (hc j hj).2⟩⟩

theorem flat_snoc (L : List (List Nat)) (k : Nat) (h : k < L.length) : (L.take (k + 1)).flatten = (L.take k).flatten ++ L[k] := by
  rw [List.take_succ_eq_append_getElem h, List.flatten_append]
  simp

theorem flat_le (L : List (List Nat)) (k : Nat) : (L.take k).flatten.length ≤ L.flatten.length := by
  have : L.flatten = (L.take k).flatten ++ (L.drop k).flatten := by rw [← List.flatten_append, List.take_append_drop]
  rw [this, List.length_append]
  omega

theorem wideL_append (l m : List Nat) : wideL (l ++ m) = (wideL l || wideL m) := by simp [wideL, List.any_append]

theorem packW_append (b : Bool) (l m : List Nat) : packW b (l ++ m) = packW b l ++ packW b m := by
  unfold packW
  cases b
  · simp only [Bool.false_eq_true, if_false, List.map_append]
  · simp only [if_true, List.flatMap_append]

def preN (L : List (List Nat)) (k : Nat) : Nat := (L.take k).flatten.length
def preW (L : List (List Nat)) (k : Nat) : Bool := wideL (L.take k).flatten

theorem preN_snoc (L : List (List Nat)) (k : Nat) (h : k < L.length) : preN L (k + 1) = preN L k + L[k].length := by unfold preN; rw [flat_snoc L k h, List.length_append]
theorem preW_snoc (L : List (List Nat)) (k : Nat) (h : k < L.length) : preW L (k + 1) = (preW L k || wideL L[k]) := by unfold preW; rw [flat_snoc L k h, wideL_append]
theorem preN_le (L : List (List Nat)) (k : Nat) : preN L k ≤ L.flatten.length := flat_le L k
theorem preN_all (L : List (List Nat)) : preN L L.length = L.flatten.length := by unfold preN; rw [List.take_length]
theorem preW_all (L : List (List Nat)) : preW L L.length = wideL L.flatten := by unfold preW; rw [List.take_length]

def J1 (L : List (List Nat)) (w : World) (o : Obj) (n wd i : Value) (wr : World) : Prop :=
  ∃ k : Nat, k ≤ L.length ∧ i = .int .i64 k ∧ n = .int .i64 (preN L k : Int) ∧ wd = .bool (preW L k) ∧ Below (w.heap.size + 1) (w.alloc o) wr

def J2 (b : Bool) (L : List (List Nat)) (W : World) (i : Value) (wr : World) : Prop :=
  ∃ k : Nat, k ≤ L.length ∧ i = .int .i64 k ∧ Lib.IsBuilderF 56 5 W.heap.size W.heap.size (Lib.byteCells (packW b (L.take k).flatten)) wr ∧ Below W.heap.size W wr

set_option maxHeartbeats 2000000 in
theorem join_ok (L : List (List Nat)) (hL : L.length ≤ 1000) (ht : L.flatten.length ≤ 65536) (v : Value) (w : World) (h : StrsAt w v L) (hne : L ≠ []) :
    Calls Tryd.prog 21 #[v] w fun e w' => e = .returned (.tuple #[strV L.flatten, .int .i64 0]) ∧ Below w.heap.size w w' := by
  have hlk : ∀ k (h : k < L.length), L[k].length ≤ 65536 := fun k h => by
    have h1 := flat_snoc L k h
    have h2 := flat_le L (k + 1)
    rw [h1, List.length_append] at h2
    omega
  have hlen := fun k (h : k < L.length) => len_any L[k] (by have := hlk k h; omega)
  have hwid := fun k (h : k < L.length) => widened_any L[k] (by have := hlk k h; omega)
  obtain ⟨a, cap, rfl, hin⟩ := h
  rcases hin with hnil | ⟨b, o, rfl, hbl, hc⟩
  · exact absurd hnil hne
  unfold strV at hlen hwid
  have HLEN := Lib.hid hlen
  have HWID := Lib.hid hwid
  have HC := Lib.hid hc
  have HLK := Lib.hid hlk
  clear hlen hwid hc hlk
  go_enter Tryd.func21, Tryd.ntmps21
  go_wp2
  go_loopw [4, 5, 7, 13] (fun n wd _ i wr => J1 L w (Obj.cells #[Value.string ⟨#[]⟩, Value.bool false] 24) n wd i wr) (fun _ _ _ i _ => L.length - (intOf i).toNat)
  case atStart => exact ⟨0, Nat.zero_le _, rfl, rfl, rfl, Below.refl _ _⟩
  case round =>
    obtain ⟨k, hk, rfl, rfl, rfl, hbel⟩ := hrel
    have hsz : w.heap.size + 1 ≤ wr.heap.size := by have := hbel.size; simpa using this
    by_cases hlt : k < L.length
    · have hx0 : wr.cell? ⟨b, o + k * 2, none⟩ = some (.string (pk L[k])) := by
        rw [hbel.cell (p := ⟨b, o + k * 2, none⟩) (by show b < _; omega), World.cell?_alloc_past _ _ _ hbl]; exact (HC.out k hlt).1
      have hx1 : wr.cell? ⟨b, o + k * 2 + 1, none⟩ = some (.bool (wideL L[k])) := by
        rw [hbel.cell (p := ⟨b, o + k * 2 + 1, none⟩) (by show b < _; omega), World.cell?_alloc_past _ _ _ hbl]; exact (HC.out k hlt).2
      have hps := preN_snoc L k hlt
      have hpl := preN_le L (k + 1)
      have hpw := preW_snoc L k hlt
      have hn : ¬ (65536 : Int) < (preN L k : Int) + (L[k].length : Int) := by omega
      have hLk := HLK.out k hlt
      have hHL := Lib.hid (HLEN.out k hlt)
      have hTk : preN L k ≤ 65536 := by omega
      generalize hlk : L[k] = lk at *
      generalize hwk : wideL lk = wk at *
      generalize pk lk = d at *
      have HPS := Lib.hid hps
      have HPW := Lib.hid hpw
      clear hps hpl hlk hwk hpw
      go_wp2_with fail
      refine (hHL.out _).mono ?_
      rintro e w1 ⟨rfl, hb1⟩
      have B1 : Below (w.heap.size + 1) (w.alloc (Obj.cells #[Value.string ⟨#[]⟩, Value.bool false] 24)) w1 := (hbel.alloc (by simpa using hsz) _).trans (hb1.mono (by simp; omega))
      have T1 := (two_alloc wr (.string d) (.bool wk) 24).below hb1
      obtain ⟨_, c0, c1⟩ := T1
      clear hb1 hx0 hx1 hbel
      cases hp : preW L k
      all_goals
        go_wp2
        go_roundw
        case rel => exact ⟨k + 1, by omega, by go_num, by rw [HPS.out]; go_num, by rw [HPW.out, hp]; simp, B1⟩
        case measure => simp [intOf]; omega
    · obtain rfl : k = L.length := by omega
      have HPW := Lib.hid (preW_all L)
      have HB := Lib.hid hbel
      clear hbel
      cases hw : wideL L.flatten
      · have hp5 : preW L L.length = false := by rw [HPW.out, hw]
        obtain ⟨wo, rfl⟩ : ∃ wo : World, wo = wr := ⟨_, rfl⟩
        have hfin : strV L.flatten = .agg #[.string ⟨(packW false L.flatten).toArray⟩, .bool false] := by simp [strV, pk, packB, packW, hw]
        have heach : ∀ k (h : k < L.length), wideL L[k] = false := fun k h => by
          have := List.any_eq_false.1 hw
          unfold wideL
          rw [List.any_eq_false]
          intro c hc
          exact this c (List.mem_flatten.2 ⟨L[k], List.getElem_mem h, hc⟩)
        have EACHN := Lib.hid heach
        clear heach
        have HFIN := Lib.hid hfin
        clear hw hfin
        rw [hp5]
        clear hp5
        go_wp2
        have hI0 : Lib.IsBuilderF 56 5 wo.heap.size wo.heap.size (Lib.byteCells (packW false (L.take 0).flatten)) (wo.alloc (.cells #[.pointer none, .slice none 0 0] 56)) := Lib.IsBuilderF.of (Lib.fresh_isBuilder 56 5 wo)
        have hB0 : Below wo.heap.size wo (wo.alloc (.cells #[.pointer none, .slice none 0 0] 56)) := (Below.refl _ _).alloc (Nat.le_refl _) _
        go_loopw [10, 32] (fun _ i wr => J2 false L wo i wr) (fun _ i _ => L.length - (intOf i).toNat)
        case atStart => exact ⟨0, Nat.zero_le _, rfl, hI0, hB0⟩
        case round =>
          obtain ⟨k, hk, rfl, hI, hbel⟩ := hrel
          have hszr := hbel.size
          by_cases hlt : k < L.length
          · have hx0 : wr.cell? ⟨b, o + k * 2, none⟩ = some (.string (pk L[k])) := by
              rw [hbel.cell (p := ⟨b, o + k * 2, none⟩) (by show b < _; omega), HB.out.cell (p := ⟨b, o + k * 2, none⟩) (by show b < _; omega), World.cell?_alloc_past _ _ _ hbl]; exact (HC.out k hlt).1
            have hx1 : wr.cell? ⟨b, o + k * 2 + 1, none⟩ = some (.bool (wideL L[k])) := by
              rw [hbel.cell (p := ⟨b, o + k * 2 + 1, none⟩) (by show b < _; omega), HB.out.cell (p := ⟨b, o + k * 2 + 1, none⟩) (by show b < _; omega), World.cell?_alloc_past _ _ _ hbl]; exact (HC.out k hlt).2
            have hLk := HLK.out k hlt
            have hpl : (packW false (L.take k).flatten).length ≤ 196608 := by
              have h1 := preN_le L k
              unfold preN at h1
              unfold packW
              simp only [Bool.false_eq_true, if_false, List.length_map]; omega
            have hcat : packW false (L.take (k + 1)).flatten = packW false (L.take k).flatten ++ packW false L[k] := by rw [flat_snoc L k hlt, packW_append]
            have HCAT := Lib.hid hcat
            clear hcat
            have hne := EACHN.out k hlt
            have hpk : pk L[k] = ⟨(packW false L[k]).toArray⟩ := by simp [pk, packB, packW, hne]
            have hcs : Lib.strCells (pk L[k]) = Lib.byteCells (packW false L[k]) := by rw [hpk]; exact strCells_of _
            have hsl : (pk L[k]).size ≤ 65536 := by rw [hpk, size_list]; unfold packW; simp; omega
            have HCS := Lib.hid hcs
            clear hpk hcs
            generalize hd : pk L[k] = d at *
            generalize hwk : wideL L[k] = wk at *
            clear hd hwk
            go_wp2_with fail
            refine (writeString_any wo.heap.size wo.heap.size _ d _ (hI.alloc _) (by rw [Lib.byteCells_length]; omega) (by simp; omega)).mono ?_
            rintro e w3 ⟨rfl, hI3, hb3, _⟩
            have hbel3 := (hbel.alloc hszr _).trans hb3
            clear hI hb3 hbel hx0 hx1
            go_wp2
            go_roundw
            case rel =>
              refine ⟨k + 1, by omega, by go_num, ?_, hbel3⟩
              rw [HCAT.out, Lib.byteCells_append, ← HCS.out]
              exact .inr hI3
            case measure => simp [intOf]; omega
          · obtain rfl : k = L.length := by omega
            rw [List.take_length] at hI
            have hrb := Tryd.Builder_String_any_k wo.heap.size wo.heap.size (packW false L.flatten) wr hI hszr
            generalize (⟨(packW false L.flatten).toArray⟩ : ByteArray) = t at hrb HFIN
            have HRB := Lib.hid hrb
            clear hrb
            go_wp2_with fail
            refine HRB.out.mono ?_
            rintro e w4 ⟨rfl, _, hb4, _⟩
            have hB4 : Below (w.heap.size + 1) (w.alloc (Obj.cells #[Value.string ⟨#[]⟩, Value.bool false] 24)) w4 := (HB.out.trans (hbel.mono hsz)).trans (hb4.mono hsz)
            have hd0 : w4.cell? ⟨w.heap.size, 0, none⟩ = some (.string ⟨#[]⟩) := by
              rw [hB4.cell (p := ⟨w.heap.size, 0, none⟩) (by show w.heap.size < _; omega), World.cell?_alloc_at _ _ _ _ rfl]; rfl
            have hd1 : w4.cell? ⟨w.heap.size, 1, none⟩ = some (.bool false) := by
              rw [hB4.cell (p := ⟨w.heap.size, 1, none⟩) (by show w.heap.size < _; omega), World.cell?_alloc_at _ _ _ _ rfl]; rfl
            have hf0 : w4.frozen? ⟨w.heap.size, 0, none⟩ = false := by
              rw [hB4.frozen (p := ⟨w.heap.size, 0, none⟩) (by show w.heap.size < _; omega)]; exact World.frozen?_alloc_at _ _ _ _ rfl
            have hf1 : w4.frozen? ⟨w.heap.size, 1, none⟩ = false := by
              rw [hB4.frozen (p := ⟨w.heap.size, 1, none⟩) (by show w.heap.size < _; omega)]; exact World.frozen?_alloc_at _ _ _ _ rfl
            have hs0 := cell_zero w4 w.heap.size (.string t) (.bool false) hd0
            have hs1 := cell_two w4 w.heap.size (.string t) (.bool false) hd1
            have hbw : Below w.heap.size w w4 := ((Below.refl _ _).alloc (Nat.le_refl _) _).trans (hB4.mono (Nat.le_succ _))
            clear hB4 hb4 hbel hI
            go_wp2
            refine bodyPost_ret (v := .tuple #[.agg #[.string t, .bool false], .int .i64 0]) (by simp [results, Tryd.results21, go_sem, hs0, hs1]) rfl ⟨by rw [HFIN.out], ?_⟩
            exact (hbw.setCell (p := ⟨w.heap.size, 0, none⟩) (Nat.le_refl _) _).setCell (p := ⟨w.heap.size, 1, none⟩) (Nat.le_refl _) _
      · have hp5 : preW L L.length = true := by rw [HPW.out, hw]
        obtain ⟨wo, rfl⟩ : ∃ wo : World, wo = wr := ⟨_, rfl⟩
        have hfin : strV L.flatten = .agg #[.string ⟨(packW true L.flatten).toArray⟩, .bool true] := by simp [strV, pk, packB, packW, hw]
        have HFIN := Lib.hid hfin
        clear hw hfin
        rw [hp5]
        clear hp5
        go_wp2
        have hI0 : Lib.IsBuilderF 56 5 wo.heap.size wo.heap.size (Lib.byteCells (packW true (L.take 0).flatten)) (wo.alloc (.cells #[.pointer none, .slice none 0 0] 56)) := Lib.IsBuilderF.of (Lib.fresh_isBuilder 56 5 wo)
        have hB0 : Below wo.heap.size wo (wo.alloc (.cells #[.pointer none, .slice none 0 0] 56)) := (Below.refl _ _).alloc (Nat.le_refl _) _
        go_loopw [10, 32] (fun _ i wr => J2 true L wo i wr) (fun _ i _ => L.length - (intOf i).toNat)
        case atStart => exact ⟨0, Nat.zero_le _, rfl, hI0, hB0⟩
        case round =>
          obtain ⟨k, hk, rfl, hI, hbel⟩ := hrel
          have hszr := hbel.size
          by_cases hlt : k < L.length
          · have hx0 : wr.cell? ⟨b, o + k * 2, none⟩ = some (.string (pk L[k])) := by
              rw [hbel.cell (p := ⟨b, o + k * 2, none⟩) (by show b < _; omega), HB.out.cell (p := ⟨b, o + k * 2, none⟩) (by show b < _; omega), World.cell?_alloc_past _ _ _ hbl]; exact (HC.out k hlt).1
            have hx1 : wr.cell? ⟨b, o + k * 2 + 1, none⟩ = some (.bool (wideL L[k])) := by
              rw [hbel.cell (p := ⟨b, o + k * 2 + 1, none⟩) (by show b < _; omega), HB.out.cell (p := ⟨b, o + k * 2 + 1, none⟩) (by show b < _; omega), World.cell?_alloc_past _ _ _ hbl]; exact (HC.out k hlt).2
            have hLk := HLK.out k hlt
            have hpl : (packW true (L.take k).flatten).length ≤ 196608 := by
              have h1 := preN_le L k
              unfold preN at h1
              unfold packW
              simp only [if_true, threes_length]; omega
            have hcat : packW true (L.take (k + 1)).flatten = packW true (L.take k).flatten ++ packW true L[k] := by rw [flat_snoc L k hlt, packW_append]
            have HCAT := Lib.hid hcat
            clear hcat
            have hwd := HWID.out k hlt
            have hcs : Lib.strCells ⟨(packW true L[k]).toArray⟩ = Lib.byteCells (packW true L[k]) := strCells_of _
            have hsl : (⟨(packW true L[k]).toArray⟩ : ByteArray).size ≤ 196608 := by rw [packT_size]; omega
            generalize (⟨(packW true L[k]).toArray⟩ : ByteArray) = t at hwd hcs hsl
            have HCS := Lib.hid hcs
            generalize pk L[k] = d at *
            generalize wideL L[k] = wk at *
            have HWD := Lib.hid hwd
            clear hwd hcs
            go_wp2_with fail
            refine (HWD.out _).mono ?_
            rintro e w2 ⟨rfl, hb2⟩
            have hI2 := builder_below (hI.alloc _) hb2
            have hbel2 := below_from (hbel.alloc hszr _) hb2 (Nat.le_refl _)
            have hs2 := hbel2.size
            clear hI hb2 hbel hx0 hx1
            go_wp2_with fail
            refine (writeString_any wo.heap.size wo.heap.size _ t _ hI2 (by rw [Lib.byteCells_length]; omega) hs2).mono ?_
            rintro e w3 ⟨rfl, hI3, hb3, _⟩
            have hbel3 := hbel2.trans hb3
            clear hI2 hb3 hbel2
            go_wp2
            go_roundw
            case rel =>
              refine ⟨k + 1, by omega, by go_num, ?_, hbel3⟩
              rw [HCAT.out, Lib.byteCells_append, ← HCS.out]
              exact .inr hI3
            case measure => simp [intOf]; omega
          · obtain rfl : k = L.length := by omega
            rw [List.take_length] at hI
            have hrb := Tryd.Builder_String_any_k wo.heap.size wo.heap.size (packW true L.flatten) wr hI hszr
            generalize (⟨(packW true L.flatten).toArray⟩ : ByteArray) = t at hrb HFIN
            have HRB := Lib.hid hrb
            clear hrb
            go_wp2_with fail
            refine HRB.out.mono ?_
            rintro e w4 ⟨rfl, _, hb4, _⟩
            have hB4 : Below (w.heap.size + 1) (w.alloc (Obj.cells #[Value.string ⟨#[]⟩, Value.bool false] 24)) w4 := (HB.out.trans (hbel.mono hsz)).trans (hb4.mono hsz)
            have hd0 : w4.cell? ⟨w.heap.size, 0, none⟩ = some (.string ⟨#[]⟩) := by
              rw [hB4.cell (p := ⟨w.heap.size, 0, none⟩) (by show w.heap.size < _; omega), World.cell?_alloc_at _ _ _ _ rfl]; rfl
            have hd1 : w4.cell? ⟨w.heap.size, 1, none⟩ = some (.bool false) := by
              rw [hB4.cell (p := ⟨w.heap.size, 1, none⟩) (by show w.heap.size < _; omega), World.cell?_alloc_at _ _ _ _ rfl]; rfl
            have hf0 : w4.frozen? ⟨w.heap.size, 0, none⟩ = false := by
              rw [hB4.frozen (p := ⟨w.heap.size, 0, none⟩) (by show w.heap.size < _; omega)]; exact World.frozen?_alloc_at _ _ _ _ rfl
            have hf1 : w4.frozen? ⟨w.heap.size, 1, none⟩ = false := by
              rw [hB4.frozen (p := ⟨w.heap.size, 1, none⟩) (by show w.heap.size < _; omega)]; exact World.frozen?_alloc_at _ _ _ _ rfl
            have hs0 := cell_zero w4 w.heap.size (.string t) (.bool true) hd0
            have hs1 := cell_two w4 w.heap.size (.string t) (.bool true) hd1
            have hbw : Below w.heap.size w w4 := ((Below.refl _ _).alloc (Nat.le_refl _) _).trans (hB4.mono (Nat.le_succ _))
            clear hB4 hb4 hbel hI
            go_wp2
            refine bodyPost_ret (v := .tuple #[.agg #[.string t, .bool true], .int .i64 0]) (by simp [results, Tryd.results21, go_sem, hs0, hs1]) rfl ⟨by rw [HFIN.out], ?_⟩
            exact (hbw.setCell (p := ⟨w.heap.size, 0, none⟩) (Nat.le_refl _) _).setCell (p := ⟨w.heap.size, 1, none⟩) (Nat.le_refl _) _
end Go.Proofs.YtjpnkffdpcfnjaaDoor
