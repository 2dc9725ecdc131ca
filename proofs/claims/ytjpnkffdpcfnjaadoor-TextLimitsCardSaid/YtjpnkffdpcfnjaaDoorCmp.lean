/-
  text.Str.widened, text.Compare.
-/
import Derived.Test.YtjpnkffdpcfnjaaDoorRef2
set_option linter.unusedVariables false
namespace Go.Proofs.YtjpnkffdpcfnjaaDoor
open Go.RowKit

def cmpL : List Nat → List Nat → Int
  | [], [] => 0
  | [], _ :: _ => -1
  | _ :: _, [] => 1
  | a :: l, b :: m => if a < b then -1 else if b < a then 1 else cmpL l m

theorem cmpL_self (l : List Nat) : cmpL l l = 0 := by
  induction l with
  | nil => rfl
  | cons a l ih => simp [cmpL, ih]

theorem u8lt (x y : Nat) : (UInt8.ofNat x < UInt8.ofNat y) ↔ x % 256 < y % 256 := by
  rw [UInt8.lt_iff_toNat_lt]
  simp

theorem cmpBytes_narrow (l m : List Nat) (hl : ∀ c ∈ l, c ≤ 255) (hm : ∀ c ∈ m, c ≤ 255) : Lib.compareBytes (l.map UInt8.ofNat) (m.map UInt8.ofNat) = cmpL l m := by
  induction l generalizing m with
  | nil => cases m <;> rfl
  | cons a l ih =>
    cases m with
    | nil => rfl
    | cons b m =>
      have ha := hl a (List.mem_cons_self ..)
      have hb := hm b (List.mem_cons_self ..)
      have := ih m (fun c h => hl c (List.mem_cons_of_mem _ h)) (fun c h => hm c (List.mem_cons_of_mem _ h))
      simp only [List.map_cons, Lib.compareBytes, cmpL, this, u8lt]
      rw [Nat.mod_eq_of_lt (by omega), Nat.mod_eq_of_lt (by omega)]

theorem cmpBytes_three (l m : List Nat) (hl : ∀ c ∈ l, c < 16777216) (hm : ∀ c ∈ m, c < 16777216) : Lib.compareBytes (l.flatMap three) (m.flatMap three) = cmpL l m := by
  induction l generalizing m with
  | nil => cases m <;> rfl
  | cons a l ih =>
    cases m with
    | nil => rfl
    | cons b m =>
      have ha := hl a (List.mem_cons_self ..)
      have hb := hm b (List.mem_cons_self ..)
      have := ih m (fun c h => hl c (List.mem_cons_of_mem _ h)) (fun c h => hm c (List.mem_cons_of_mem _ h))
      have e : ∀ (c : Nat) (k : List Nat), (c :: k).flatMap three = UInt8.ofNat (c / 65536) :: UInt8.ofNat (c / 256) :: UInt8.ofNat c :: k.flatMap three := fun c k => rfl
      rw [e, e]
      simp only [Lib.compareBytes, cmpL, this, u8lt]
      by_cases h1 : a < b
      · rw [if_pos h1]
        repeat' split
        all_goals first | rfl | omega
      · by_cases h2 : b < a
        · rw [if_neg h1, if_pos h2]
          repeat' split
          all_goals first | rfl | omega
        · obtain rfl : a = b := by omega
          simp

theorem packW_true_of_narrow (l : List Nat) : packW true l = l.flatMap three := rfl

def WRel (l : List Nat) (w : World) (o : Obj) (b i : Value) (wr : World) : Prop :=
  ∃ k : Nat, k ≤ l.length ∧ i = .int .i64 k ∧ wr.ownsRow (w.heap.size + 1) 5 1 b (packW true (l.take k)).length (Lib.byteCells (packW true (l.take k))) ∧ Below (w.heap.size + 1) (w.alloc o) wr

set_option maxHeartbeats 1000000 in
theorem widened_any (l : List Nat) (hl : l.length ≤ 1000000000) (w : World) :
    Calls Tryd.prog 35 #[strV l] w fun e w' => e = .returned (.string ⟨(packW true l).toArray⟩) ∧ Below w.heap.size w w' := by
  obtain ⟨i0, hi, hz0, hz1, hz2⟩ := info_parts infoByte
  have hs := pk_size l
  cases hw : wideL l
  · have hs' : (pk l).size = l.length := by rw [hs, hw]; rfl
    have hget : ∀ i (h : i < l.length) (h' : i < (pk l).size), ((pk l)[i]'h').toNat = l[i] := fun i h h' => pk_get l i hw h h'
    have hsmall : ∀ i (h : i < l.length), l[i] ≤ 255 := fun i h => by
      have := List.any_eq_false.1 hw l[i] (List.getElem_mem h)
      simpa using this
    unfold strV
    rw [hw]
    generalize pk l = d at *
    have HS := Lib.hid hs'
    have HG := Lib.hid hget
    have HM := Lib.hid hsmall
    have hdl : (d.size : Int) ≤ 1000000000 := by omega
    have hdk : ∀ k, k < l.length → k < d.size := fun k h => by omega
    have HDK := Lib.hid hdk
    clear hs hs' hget hw hdk hsmall
    go_enter Tryd.func35, Tryd.ntmps35
    go_wp2
    go_loopw [3, 4, 12] (fun b _ i wr => WRel l w (Obj.cells #[Value.string d, Value.bool false] 24) b i wr) (fun _ _ i _ => l.length - (intOf i).toNat)
    case atStart => exact ⟨0, Nat.zero_le _, rfl, World.ownsRow_nil _ _ _ _, Below.refl _ _⟩
    case round =>
      obtain ⟨k, hk, rfl, hown, hbel⟩ := hrel
      have hsz : w.heap.size + 1 ≤ wr.heap.size := by have := hbel.size; simpa using this
      have hd0 : wr.cell? ⟨w.heap.size, 0, none⟩ = some (.string d) := by
        rw [hbel.cell (p := ⟨w.heap.size, 0, none⟩) (by show w.heap.size < _; omega), World.cell?_alloc_at _ _ _ _ rfl]; rfl
      by_cases hlt : k < l.length
      · have hkd := HDK.out k hlt
        have hkI : (k : Int) < (d.size : Int) := by omega
        have hle : (packW true (l.take k)).length ≤ 3 * k := by unfold packW; simp only [if_true, threes_length]; simp; omega
        have hg := HG.out k hlt hkd
        have hcells : Lib.byteCells (three l[k]) = [.int .u8 0, .int .u8 0, .int .u8 (d[k].toNat : Int)] := by
          have h1 := HM.out k hlt
          have e1 : l[k] / 65536 = 0 := by omega
          have e2 : l[k] / 256 = 0 := by omega
          simp only [three, Lib.byteCells, e1, e2, hg]
          simp
          omega
        have HC := Lib.hid hcells
        clear hcells hg
        go_wp2_with (at_builtin; refine wpList_append_own _ rfl _ _ 40 rfl (w.heap.size + 1) 5 i0 (.int .u8 0) 1 1 Tryd.underlying40 hi hz0 hz1 hz2 rfl (by decide) _ _ _ rfl (hown.alloc _) ⟨wr.heap.size, 0, none⟩ 3 3 [.int .u8 0, .int .u8 0, .int .u8 (d[k].toNat : Int)] rfl rfl ?c1 ?c2 ?c3 ?c4 ?c5 ?_)
        case c1 =>
          intro j u hj
          match j, hj with
          | 0, hj => simp at hj; subst hj; simp [Addr.add]
          | 1, hj => simp at hj; subst hj; simp [Addr.add]
          | 2, hj => simp at hj; subst hj; simp [Addr.add]
          | (j + 3), hj => simp at hj
        case c2 => intro u hu; simp at hu; rcases hu with rfl | rfl <;> rfl
        case c3 => unfold maxLen; omega
        case c4 => omega
        case c5 => simp; omega
        intro v' w1 hown' hgrow _
        have hb1 := below_append hbel (by simp) hown hgrow
        clear hd0 hbel hown
        go_wp2
        go_roundw
        case rel =>
          refine ⟨k + 1, by omega, by go_num, ?_, hb1⟩
          rw [packW_snoc true l k hlt]
          simp only [if_true, Lib.byteCells_append, HC.out, List.length_append]
          exact hown'
        case measure => simp [intOf]; omega
      · obtain rfl : k = l.length := by omega
        rw [List.take_length] at hown
        have hcv := convert_row hown
        have hnd : ¬ ((l.length : Int) < (d.size : Int)) := by have := HS.out; omega
        have hbw : Below w.heap.size w wr := ((Below.refl _ _).alloc (Nat.le_refl _) _).trans (hbel.mono (Nat.le_succ _))
        clear hd0 hbel
        go_wp2
        go_ret
        exact ⟨rfl, hbw⟩
  · have e : (⟨(packW true l).toArray⟩ : ByteArray) = pk l := by simp [pk, packB, packW, hw]
    rw [e]
    unfold strV
    rw [hw]
    generalize pk l = d
    clear hs
    go_enter Tryd.func35, Tryd.ntmps35
    go_wp2
    go_ret
    exact ⟨rfl, (Below.refl _ _).alloc (Nat.le_refl _) _⟩
end Go.Proofs.YtjpnkffdpcfnjaaDoor
