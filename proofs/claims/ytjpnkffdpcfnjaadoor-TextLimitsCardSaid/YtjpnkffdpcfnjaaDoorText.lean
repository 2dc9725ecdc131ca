/-
  text.Str.Text: the UTF-8 encoding of the characters; text.Str.At.
-/
import Derived.Test.YtjpnkffdpcfnjaaDoorOf2
import Derived.Test.YtjpnkffdpcfnjaaDoorDec
import Derived.Test.YtjpnkffdpcfnjaaDoorBRune
set_option linter.unusedVariables false
namespace Go.Proofs.YtjpnkffdpcfnjaaDoor
open Go.RowKit

def textOf (l : List Nat) : List UInt8 := l.flatMap enc
def Chars (l : List Nat) : Prop := ∀ c ∈ l, c < 1114112 ∧ (c < 55296 ∨ 57343 < c)

theorem encodeRune_enc (c : Nat) (h : c < 1114112 ∧ (c < 55296 ∨ 57343 < c)) : Lib.runeCells (c : Int) = Lib.byteCells (enc c) := by
  unfold enc
  by_cases h1 : c < 128
  · rw [if_pos h1]
    simp [Lib.runeCells, Lib.encodeRuneZ_one (r := (c : Int)) (by omega) (by omega), Lib.byteCells]
    omega
  by_cases h2 : c < 2048
  · rw [if_neg h1, if_pos h2]
    simp [Lib.runeCells, Lib.encodeRuneZ_two (r := (c : Int)) (by omega) (by omega), Lib.byteCells]
    omega
  by_cases h3 : c < 65536
  · rw [if_neg h1, if_neg h2, if_pos h3]
    simp [Lib.runeCells, Lib.encodeRuneZ_three (r := (c : Int)) (by omega), Lib.byteCells]
    omega
  · rw [if_neg h1, if_neg h2, if_neg h3]
    simp [Lib.runeCells, Lib.encodeRuneZ_four (r := (c : Int)) (by omega) (by omega), Lib.byteCells]
    omega

theorem enc_len (c : Nat) : (enc c).length ≤ 4 := by
  unfold enc
  repeat' split
  all_goals simp

theorem textOf_snoc (l : List Nat) (k : Nat) (h : k < l.length) : textOf (l.take (k + 1)) = textOf (l.take k) ++ enc l[k] := by
  rw [List.take_succ_eq_append_getElem h]
  simp only [textOf, List.flatMap_append, List.flatMap_cons, List.flatMap_nil, List.append_nil]

theorem textOf_len (l : List Nat) : (textOf l).length ≤ 4 * l.length := by
  induction l with
  | nil => simp [textOf]
  | cons c l ih =>
    have := enc_len c
    simp only [textOf, List.flatMap_cons, List.length_append, List.length_cons] at *
    omega

theorem builder_below {w w' : World} {T e : TypeId} {B b : Nat} {bs : List Value} (h : Lib.IsBuilderF T e B b bs w) (hb : Below w.heap.size w w') : Lib.IsBuilderF T e B b bs w' := by
  have key : ∀ p, Lib.BuilderAtF T e B b p bs w → Lib.BuilderAtF T e B b p bs w' := by
    intro p h
    have hlt := h.lt
    obtain ⟨hB, v, hbk, hown, hne⟩ := h
    refine ⟨hB, v, (hb.block b hlt).trans hbk, ⟨hown.1, ?_⟩, hne⟩
    rcases hown.2 with hn | ⟨g, cap, cur, fz, hv, hg, hc, rest⟩
    · exact .inl hn
    · have := hown.lt g (by rw [hv]; rfl)
      exact .inr ⟨g, cap, cur, fz, hv, hg, (hb.block g this.2).trans hc, rest⟩
  rcases h with h | h
  · exact .inl (key _ h)
  · exact .inr (key _ h)

def TextRel (l : List Nat) (w : World) (o : Obj) (i : Value) (wr : World) : Prop :=
  ∃ k : Nat, k ≤ l.length ∧ i = .int .i64 k ∧ Lib.IsBuilderF 56 5 (w.heap.size + 1) (w.heap.size + 1) (Lib.byteCells (textOf (l.take k))) wr ∧ Below (w.heap.size + 1) (w.alloc o) wr

set_option maxHeartbeats 1000000 in
theorem text_any (l : List Nat) (hl : l.length ≤ 1000000000) (hc : Chars l) (w : World) :
    Calls Tryd.prog 23 #[strV l] w fun e w' => e = .returned (.string ⟨(textOf l).toArray⟩) ∧ Below w.heap.size w w' := by
  have hlen := len_any l hl
  have hchar := fun (i : Nat) (hi : i < l.length) => char_any l i hi hl (fun c h => by have := (hc c h).1; omega)
  unfold strV at hlen hchar ⊢
  have HLEN := Lib.hid hlen
  have HCHAR := Lib.hid hchar
  clear hlen hchar
  go_enter Tryd.func23, Tryd.ntmps23
  go_wp2_with fail
  refine (HLEN.out _).mono ?_
  rintro e w1 ⟨rfl, hb1⟩
  have hI1 := builder_below (((Lib.IsBuilderF.of (Lib.fresh_isBuilder 56 5 (w.alloc (Obj.cells #[Value.string (pk l), Value.bool (wideL l)] 24)))))) hb1
  have hI2 : Lib.IsBuilderF 56 5 (w.heap.size + 1) (w.heap.size + 1) (Lib.byteCells (textOf (l.take 0))) w1 := by
    have e : (w.alloc (Obj.cells #[Value.string (pk l), Value.bool (wideL l)] 24)).heap.size = w.heap.size + 1 := by simp
    rw [e] at hI1
    exact hI1
  have hbw1 : Below (w.heap.size + 1) (w.alloc (Obj.cells #[Value.string (pk l), Value.bool (wideL l)] 24)) w1 := ((Below.refl _ _).alloc (by simp) _).trans (hb1.mono (by simp))
  clear hI1 hb1
  go_wp2
  go_loopw [4, 7] (fun _ i wr => TextRel l w (Obj.cells #[Value.string (pk l), Value.bool (wideL l)] 24) i wr) (fun _ i _ => l.length - (intOf i).toNat)
  case atStart => exact ⟨0, Nat.zero_le _, rfl, hI2, hbw1⟩
  case round =>
    obtain ⟨k, hk, rfl, hI, hbel⟩ := hrel
    have hsz := hbel.size
    have hsz' : w.heap.size + 1 ≤ wr.heap.size := by simpa using hsz
    have hd0 : wr.cell? ⟨w.heap.size, 0, none⟩ = some (.string (pk l)) := by
      rw [hbel.cell (p := ⟨w.heap.size, 0, none⟩) (by show w.heap.size < _; omega), World.cell?_alloc_at _ _ _ _ rfl]; rfl
    have hd1 : wr.cell? ⟨w.heap.size, 1, none⟩ = some (.bool (wideL l)) := by
      rw [hbel.cell (p := ⟨w.heap.size, 1, none⟩) (by show w.heap.size < _; omega), World.cell?_alloc_at _ _ _ _ rfl]; rfl
    by_cases hlt : k < l.length
    · have hck := hc l[k] (List.getElem_mem hlt)
      have htl := textOf_len (l.take k)
      rw [List.length_take] at htl
      have hts := textOf_snoc l k hlt
      have HT := Lib.hid hts
      have HE := Lib.hid (encodeRune_enc l[k] hck)
      have HCK := Lib.hid hck
      clear hsz hI2 hbw1 hts hck
      go_wp2_with fail
      refine (HCHAR.out k hlt _).mono ?_
      rintro e w2 ⟨rfl, hb2⟩
      have hIn := builder_below hI hb2
      have hbel2 : Below (w.heap.size + 1) (w.alloc (Obj.cells #[Value.string (pk l), Value.bool (wideL l)] 24)) w2 := hbel.trans (hb2.mono (by omega))
      have hs2 := hb2.size
      have HL4 : (Lib.byteCells (textOf (l.take k))).length + 4 ≤ 140737488355328 := by rw [Lib.byteCells_length]; omega
      clear hI hbel hd0 hd1 htl
      go_wp2_with fail
      refine (writeRune_any (w.heap.size + 1) (w.heap.size + 1) _ _ (by have := HCK.out; omega) (by have := HCK.out; omega) w2 hIn HL4 (by omega)).mono ?_
      rintro e w3 ⟨rfl, hI3, hb3, _⟩
      have hbel3 := hbel2.trans hb3
      clear hIn hb3 hb2 HL4 hbel2
      go_wp2
      go_roundw
      case rel =>
        refine ⟨k + 1, by omega, by go_num, ?_, hbel3⟩
        rw [HT.out, Lib.byteCells_append, ← HE.out]
        exact .inr hI3
      case measure => simp [intOf]; omega
    · obtain rfl : k = l.length := by omega
      rw [List.take_length] at hI
      have hbw : Below w.heap.size w wr := ((Below.refl _ _).alloc (Nat.le_refl _) _).trans (hbel.mono (Nat.le_succ _))
      clear hd0 hd1 hbel hbw1 hI2
      go_wp2_with fail
      refine (Tryd.Builder_String_any_k (w.heap.size + 1) (w.heap.size + 1) (textOf l) wr hI (by omega)).mono ?_
      rintro e w4 ⟨rfl, _, hb4, _⟩
      go_wp2
      go_ret
      exact ⟨rfl, hbw.trans (hb4.mono (Nat.le_succ _))⟩

set_option maxHeartbeats 1000000 in
theorem at_ok (l : List Nat) (i : Nat) (hi : i < l.length) (hl : l.length ≤ 1000000000) (hc : Chars l) (w : World) :
    Calls Tryd.prog 24 #[strV l, .int .i64 i] w fun e w' => e = .returned (.tuple #[.int .i64 (l[i] : Int), .int .i64 0]) ∧ Below w.heap.size w w' := by
  have hlen := len_any l hl
  have hchar := char_any l i hi hl (fun c h => by have := (hc c h).1; omega)
  have hb := hc l[i] (List.getElem_mem hi)
  have hb2 : (l[i] : Int) < 1114112 := by omega
  have hb3 : 0 ≤ (l[i] : Int) := by omega
  clear hb
  generalize (l[i] : Int) = z at hchar hb2 hb3 ⊢
  unfold strV at hlen hchar ⊢
  have HLEN := Lib.hid hlen
  have HCHAR := Lib.hid hchar
  have hiI : (i : Int) < (l.length : Int) := by omega
  have hq : decide ((l.length : Int) ≤ (i : Int)) = false := by simp; omega
  clear hlen hchar
  go_enter Tryd.func24, Tryd.ntmps24
  go_wp2_with fail
  refine (HLEN.out _).mono ?_
  rintro e w1 ⟨rfl, hb1⟩
  have hd0 : w1.cell? ⟨w.heap.size, 0, none⟩ = some (.string (pk l)) := by
    rw [hb1.cell (p := ⟨w.heap.size, 0, none⟩) (by simp), World.cell?_alloc_at _ _ _ _ rfl]; rfl
  have hd1 : w1.cell? ⟨w.heap.size, 1, none⟩ = some (.bool (wideL l)) := by
    rw [hb1.cell (p := ⟨w.heap.size, 1, none⟩) (by simp), World.cell?_alloc_at _ _ _ _ rfl]; rfl
  have hbw : Below w.heap.size w w1 := ((Below.refl _ _).alloc (Nat.le_refl _) _).trans (hb1.mono (by simp))
  have hs1 := hbw.size
  clear hb1
  go_wp2_with fail
  refine (HCHAR.out _).mono ?_
  rintro e w2 ⟨rfl, hb2⟩
  go_wp2
  go_ret2
  exact ⟨rfl, hbw.trans (hb2.mono hs1)⟩

set_option maxHeartbeats 1000000 in
theorem at_no (l : List Nat) (i : Int) (hi : i < 0 ∨ (l.length : Int) ≤ i) (hl : l.length ≤ 1000000000) (w : World) :
    Calls Tryd.prog 24 #[strV l, .int .i64 i] w fun e w' => e = .returned (.tuple #[.int .i64 0, .int .i64 11]) ∧ Below w.heap.size w w' := by
  have hlen := len_any l hl
  unfold strV at hlen ⊢
  have HLEN := Lib.hid hlen
  clear hlen
  by_cases h0 : i < 0
  · clear hi
    go_enter Tryd.func24, Tryd.ntmps24
    go_wp2
    go_ret2
    exact ⟨rfl, (Below.refl _ _).alloc (Nat.le_refl _) _⟩
  · have hq : decide ((l.length : Int) ≤ i) = true := by simp; omega
    have hd : decide (i < 0) = false := by simpa using h0
    clear hi
    go_enter Tryd.func24, Tryd.ntmps24
    go_wp2_with fail
    refine (HLEN.out _).mono ?_
    rintro e w1 ⟨rfl, hb1⟩
    have hbw : Below w.heap.size w w1 := ((Below.refl _ _).alloc (Nat.le_refl _) _).trans (hb1.mono (by simp))
    go_wp2
    go_ret2
    exact ⟨rfl, hbw⟩
end Go.Proofs.YtjpnkffdpcfnjaaDoor
