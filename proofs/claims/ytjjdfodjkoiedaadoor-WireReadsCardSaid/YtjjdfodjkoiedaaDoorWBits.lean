/-
  wire.Writer: String, Bits; all of them at nil.
-/
import Derived.Test.YtjjdfodjkoiedaaDoorWWrite4
import Derived.Test.YtjjdfodjkoiedaaDoorWMath2
import Derived.Deep.OwnRows
import Derived.Deep.RegionWith
set_option linter.unusedVariables false
namespace Go.Proofs.YtjjdfodjkoiedaaDoor
open Go.RowKit

def strS (s : ByteArray) : List UInt8 := encNum (s.size : Int) ++ s.data.toList
def bitS (l : List Bool) : List UInt8 := encNum (l.length : Int) ++ bitsB l

theorem encNum_le (n : Int) : (encNum n).length ≤ 9 := by
  have := encNum_len n
  have h : szN n ≤ 9 := by unfold szN; repeat' split
                           all_goals omega
  omega

theorem Tab.step {w w' : World} {wb B : Nat} {v v' : Value} {bs : List UInt8} (h : Tab w) (hs : WStep w w' wb v v') (ha : WAt w wb B v bs) (hB : 0 < B) : Tab w' :=
  h.below (hs.toBelow ha) hB

set_option maxHeartbeats 1000000 in
set_option maxRecDepth 100000 in
theorem string_any (wb B : Nat) (v : Value) (bs : List UInt8) (s : ByteArray) (hl : bs.length ≤ 900000000) (hs : s.size ≤ 1048576) (w : World) (h : WAt w wb B v bs) (ht : Tab w) :
    Calls Tryd.prog 41 #[.pointer (some ⟨wb, 0, none⟩), .string s] w (WPost w wb B v bs (0, strS s)) := by
  have HN := Lib.hid (number_any wb B v bs (s.size : Int) (by omega) w h ht)
  have hsI : ¬ ((1048576 : Int) < (s.size : Int)) := by omega
  have hen := encNum_le (s.size : Int)
  have HR := Lib.hid (fun v1 w1 (h1 : WAt w1 wb B v1 (bs ++ encNum (s.size : Int))) => raw_any wb B v1 _ s (by rw [List.length_append]; omega) (by omega) w1 h1)
  clear hen h ht hl
  go_enter Tryd.func41, Tryd.ntmps41
  go_wp2_with fail
  refine HN.out.mono ?_
  rintro e w1 ⟨rfl, v1, h1, st1⟩
  have HC := Lib.hid (HR.out v1 w1 h1)
  clear HR h1
  go_wp2_with fail
  refine HC.out.mono ?_
  rintro e w2 ⟨rfl, v2, h2, st2⟩
  go_wp2
  go_ret
  exact ⟨rfl, v2, by unfold strS; rw [← List.append_assoc]; exact h2, st1.trans st2⟩

set_option maxRecDepth 100000 in
theorem or_bit (x r : Nat) (hr : r < 8) (hx : x < 256) (h : x % 2 ^ (8 - r) = 0) : bits .or .u8 (x : Int) (128 / 2 ^ r) = ((x + 2 ^ (7 - r) : Nat) : Int) := by
  have key : ∀ r : Fin 8, ∀ x : Fin 256, x.val % 2 ^ (8 - r.val) = 0 → bits .or .u8 (x.val : Int) (128 / 2 ^ r.val) = ((x.val + 2 ^ (7 - r.val) : Nat) : Int) := by decide +kernel
  exact key ⟨r, hr⟩ ⟨x, hx⟩ h

/-- A slice of bools whose block has the property P. -/
def BoolsAt (P : Nat → Prop) (w : World) (v : Value) (l : List Bool) : Prop :=
  ∃ a cap, v = .slice a l.length cap ∧ (l = [] ∨ ∃ b o, a = some ⟨b, o, none⟩ ∧ P b ∧ b < w.heap.size ∧ ∀ j (h : j < l.length), w.cell? ⟨b, o + j, none⟩ = some (.bool l[j]))

theorem bit_step (l : List Bool) (k q : Nat) (hq : q = k / 8) (h : l.getD k false = true) (j : Nat) :
    (if j = q then Value.int .u8 (bits .or .u8 (stB l k q : Int) (128 / 2 ^ ((k : Int) % 8).toNat)) else Value.int .u8 (stB l k j : Int)) = Value.int .u8 (stB l (k + 1) j : Int) := by
  subst hq
  rw [stB_on l k j h, show ((k : Int) % 8).toNat = k % 8 by omega]
  by_cases hj : j = k / 8
  · subst hj
    rw [if_pos rfl, if_pos rfl, or_bit _ _ (by omega) (stB_lt _ _ _) (by rw [stB_cur]; exact (byteP_mod l _ _ (by omega)).1)]
  · rw [if_neg hj, if_neg hj]

theorem news_bits {wr : World} {rb p : Nat} {l : List Bool} (hp : p = (l.length + 7) / 8) (h : wr.rowIs rb 5 p (fun j => .int .u8 (stB l l.length j : Int))) :
    ∀ j u, (u8s (bitsB l))[j]? = some u → wr.cell? ((⟨rb, 0, none⟩ : Addr).add j) = some u := by
  intro j u hu
  have hj : j < p := by
    have := (List.getElem?_eq_some_iff.1 hu).1
    rw [u8s_len, bitsB_len] at this
    omega
  have e : (⟨rb, 0, none⟩ : Addr).add j = ⟨rb, j, none⟩ := by unfold Addr.add; split <;> simp_all
  rw [e, h.cell hj]
  have hlt := stB_lt l l.length j
  subst hp
  simp only [u8s, bitsB, List.map_map, List.getElem?_map, List.getElem?_range hj, Option.map_some, Function.comp] at hu
  rw [← hu]
  simp
  omega

theorem u8s_one (l : List UInt8) : ∀ u ∈ u8s l, u.oneCell' = true := by
  intro u hu
  obtain ⟨_, _, rfl⟩ := List.mem_map.1 hu
  rfl

def BitRel (W : World) (rb p : Nat) (l : List Bool) (i : Value) (wr : World) : Prop :=
  ∃ k : Nat, k ≤ l.length ∧ i = .int .i64 k ∧ wr.rowIs rb 5 p (fun j => .int .u8 (stB l k j : Int)) ∧ Below W.heap.size W wr

set_option maxHeartbeats 1000000 in
set_option maxRecDepth 100000 in
theorem bits_any (wb B : Nat) (v : Value) (bs : List UInt8) (l : List Bool) (lv : Value) (hl : bs.length ≤ 900000000) (hs : l.length ≤ 65536) (w : World) (h : WAt w wb B v bs) (ht : Tab w) (hB : 0 < B)
    (hb : BoolsAt (fun b => b ≠ wb ∧ v.ownBlock ≠ some b) w lv l) :
    Calls Tryd.prog 30 #[.pointer (some ⟨wb, 0, none⟩), lv] w (WPost w wb B v bs (0, bitS l)) := by
  obtain ⟨i0, hi, hz0, hz1, hz2⟩ := info_parts infoU8
  obtain ⟨a, cap, rfl, hb⟩ := hb
  have HN := Lib.hid (number_any wb B v bs (l.length : Int) (by omega) w h ht)
  have hsI : ¬ ((65536 : Int) < (l.length : Int)) := by omega
  have hen := encNum_le (l.length : Int)
  obtain ⟨p, hp⟩ : ∃ p : Nat, p = (l.length + 7) / 8 := ⟨_, rfl⟩
  have hpk := fun w => packed_any (l.length : Int) (by omega) (by omega) w
  rw [show ((l.length : Int) + 7) / 8 = (p : Int) by omega] at hpk
  have HP := Lib.hid hpk
  have HPP := Lib.hid hp
  have hp2 : p ≤ 10000 := by omega
  have hmk := fun w => run_make_row' (P := Tryd.prog) 64 5 (.int .u8 0) 1 Tryd.underlying64 infoU8 rfl .i64 .i64 p (by omega) (by omega) w
  have HH := Lib.hid h
  clear h ht hpk hp
  go_enter Tryd.func30, Tryd.ntmps30
  go_wp2_with fail
  refine HN.out.mono ?_
  rintro e w1 ⟨rfl, v1, h1, st1⟩
  go_wp2_with fail
  refine (HP.out _).mono ?_
  rintro e w1' ⟨rfl, rfl⟩
  have HCB : Hid (l = [] ∨ ∃ b o, a = some ⟨b, o, none⟩ ∧ b < w1.heap.size ∧ ∀ j (h : j < l.length), w1.cell? ⟨b, o + j, none⟩ = some (.bool l[j])) := by
    rcases hb with hb | ⟨b, o, ha, ⟨hb1, hb2⟩, hlt, hc⟩
    · exact .inl hb
    · exact .inr ⟨b, o, ha, Nat.lt_of_lt_of_le hlt st1.size, fun j hj => (World.cell?_of_block (w := w) (a := ⟨b, o + j, none⟩) (st1.block b hlt hb1 (fun e => hb2 e.symm))).trans (hc j hj)⟩
  have hrow := (World.rowIs_made w1 (.int .u8 0) p 5).congr (g := fun j => .int .u8 (stB l 0 j : Int)) (fun j _ => by rw [stB_zero]; rfl)
  have HROW := Lib.hid hrow
  clear hrow hb
  go_wp2
  go_loopw [25] (fun i wr => BitRel w1 w1.heap.size p l i wr) (fun i _ => l.length - (intOf i).toNat)
  case atStart => exact ⟨0, Nat.zero_le _, rfl, HROW.out, (Below.refl _ _).alloc (Nat.le_refl _) _⟩
  case round =>
    obtain ⟨k, hk, rfl, hrw, hbel⟩ := hrel
    clear hmk
    by_cases hlt : k < l.length
    · have hltI : (k : Int) < (l.length : Int) := by omega
      rcases HCB.out with hnil | ⟨b, o, rfl, hbl, hc⟩
      · rw [hnil] at hlt; exact absurd hlt (Nat.not_lt_zero _)
      have hx := (hbel.cell (p := ⟨b, o + k, none⟩) hbl).trans (hc k hlt)
      have hgd : l.getD k false = l[k] := by rw [List.getD_eq_getElem?_getD, List.getElem?_eq_getElem hlt]; rfl
      clear hc
      cases hlk : l[k]
      · rw [hlk] at hx hgd
        have HGD := Lib.hid hgd
        clear hgd hlk
        go_wp2
        go_roundw
        case rel => exact ⟨k + 1, by omega, by go_num, hrw.congr (fun j _ => by rw [stB_off _ _ _ HGD.out]), hbel⟩
        case measure => simp [intOf]; omega
      · rw [hlk] at hx hgd
        have HGD := Lib.hid hgd
        obtain ⟨q, hqe⟩ : ∃ q : Nat, q = k / 8 := ⟨_, rfl⟩
        have hq : q < p := by have := HPP.out; omega
        have hcell := hrw.cell hq
        have hfr := hrw.frozen q
        have hq0 : (0 : Int) ≤ (q : Int) := by omega
        have hq1 : (q : Int) < (p : Int) := by omega
        have hdv : (k : Int) / 8 = (q : Int) := by omega
        have hdv2 : (k : Int).tdiv 8 = (q : Int) := by rw [Int.tdiv_eq_ediv_of_nonneg (by omega)]; omega
        have hdv3 : IntKind.i64.wrap (q : Int) = (q : Int) := IntWalk.i64_in _ (by omega)
        have HQ := Lib.hid hqe
        clear hqe
        have hpl := fun w => place_any (k : Int) (by omega) (by omega) w
        have HPL := Lib.hid hpl
        clear hgd hlk hpl
        go_wp2_with fail
        go_region_with (go_at_call 63; refine (HPL.out _).mono ?_; rintro e w' ⟨rfl, rfl⟩)
        all_goals
          have R := (hrw.set q (.int .u8 (bits .or .u8 (stB l k q : Int) (128 / 2 ^ ((k : Int) % 8).toNat)))).congr (fun j _ => bit_step l k q HQ.out HGD.out j)
          have hb2 := hbel.setCell (p := ⟨w1.heap.size, q, none⟩) (Nat.le_refl _) (.int .u8 (bits .or .u8 (stB l k q : Int) (128 / 2 ^ ((k : Int) % 8).toNat)))
          have HR := Lib.hid R
          have HB2 := Lib.hid hb2
          clear R hb2 hrw hbel hcell hfr hx hdv hdv2 hdv3
          go_wp2
          go_roundw
          case rel => exact ⟨k + 1, by omega, by go_num, HR.out, HB2.out.drew⟩
          case measure => simp [intOf]; omega
    · obtain rfl : k = l.length := by omega
      have ha := h1.below hbel
      have c0 := ha.cell
      have hba := ha.base
      have hown := ha.own
      have hlen : (bs ++ encNum (l.length : Int)).length ≤ 1000000000 := by rw [List.length_append]; omega
      have hbl : (u8s (bitsB l)).length = p * 1 := by rw [u8s_len, bitsB_len, HPP.out]; omega
      have HNB := Lib.hid (news_bits HPP.out hrw)
      have HST := Lib.hid (st1.below hbel)
      have HBL := Lib.hid hbl
      have hbp : (bitsB l).length = p := by rw [bitsB_len]; exact HPP.out.symm
      have HBP := Lib.hid hbp
      have HBS : Hid (bitS l = encNum (l.length : Int) ++ bitsB l) := rfl
      clear hbl hrw HROW HN h1 st1 hbp
      generalize hbk : bs ++ encNum (l.length : Int) = bk at *
      have HBK := Lib.hid hbk
      clear hbk
      go_wp2_with (at_builtin; refine wpList_append_own_at _ rfl _ _ 64 rfl B 5 i0 (.int .u8 0) 1 1 Tryd.underlying64 hi hz0 hz1 hz2 rfl (by decide) v1 _ _ rfl hown ⟨w1.heap.size, 0, none⟩ p p (u8s (bitsB l)) rfl HBL.out HNB.out (u8s_one _) ?c3 ?c4 hba ?_)
      case c3 => unfold maxLen; omega
      case c4 => omega
      intro v' w2 hown' hgrow _ hat
      have cw := ha.cell_grown (Below.refl _ _) hgrow
      have fw := ha.free_grown (Below.refl _ _) hgrow
      have R := ha.land (new := bitsB l) (Below.refl _ _) (by rw [HBP.out]; exact hown') hgrow hat (Nat.le_refl _)
      obtain ⟨ao, n', cap', rfl⟩ : ∃ ao n' cap, v' = .slice ao n' cap := by
        rcases hown'.2 with ⟨hv, _⟩ | ⟨g, cap, cur, hv, _⟩
        · exact ⟨_, _, _, hv⟩
        · exact ⟨_, _, _, hv⟩
      have HR := Lib.hid R
      clear R hown' hgrow hat hown ha hbel
      go_wp2
      go_ret
      exact ⟨rfl, _, by rw [HBS.out, ← List.append_assoc, HBK.out]; exact HR.out.1, HST.out.trans HR.out.2⟩
end Go.Proofs.YtjjdfodjkoiedaaDoor
