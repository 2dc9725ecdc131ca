/-
  The reference's Quote: the literal of any characters.
-/
import Derived.Test.YtjpnkffdpcfnjaaDoorRefQuo
set_option linter.unusedVariables false
namespace Go.Proofs.YtjpnkffdpcfnjaaDoor
open Go.RowKit

theorem cat_step {ob x : ByteArray} {pre q : List UInt8} (hob : ob = ⟨(34 :: pre).toArray⟩) (hx : x = ⟨q.toArray⟩) : Value.string (ob ++ x) = .string ⟨(34 :: (pre ++ q)).toArray⟩ := by
  rw [hob, hx, cat_lists, List.cons_append]

set_option maxHeartbeats 4000000 in
theorem refQuote_any (l : List Nat) (hl : l.length ≤ 100000) (hc : Chars l) (v : Value) (w : World) (h : IntsAt w v l) :
    Calls Tryd.prog 10 #[v] w fun e w' => e = .returned (.string ⟨(quoteL l).toArray⟩) ∧ Below w.heap.size w w' := by
  obtain ⟨a, cap, rfl, h⟩ := h
  rcases h with rfl | ⟨b, off, rfl, hblt, hcell⟩
  · go_enter Tryd.func10, Tryd.ntmps10
    go_wp2
    refine wp_loop_rounds 1 ?_
    rw [rounds_succ]
    go_wp2
    go_ret
    exact ⟨by rfl, Below.refl _ _⟩
  · have HC := Lib.hid hc
    have HCELL := Lib.hid hcell
    clear hc hcell
    go_enter Tryd.func10, Tryd.ntmps10
    go_wp2
    go_loopw [3, 4, 5] (fun o i _ wr => RQRel l w o i wr) (fun _ i _ _ => l.length - (intOf i).toNat)
    case atStart => exact ⟨0, Nat.zero_le _, rfl, rfl, Below.refl _ _⟩
    case round =>
      obtain ⟨k, hk, rfl, rfl, hbel⟩ := hrel
      have hpre := quote_pre' l k
      obtain ⟨ob, hob⟩ : ∃ ob : ByteArray, ob = ⟨(34 :: (l.take k).flatMap quoteC).toArray⟩ := ⟨_, rfl⟩
      have hos : ob.size ≤ 600001 := by
        rw [hob]
        show (List.toArray _).size ≤ _
        rw [List.size_toArray]
        omega
      rw [← hob]
      have HOB := Lib.hid hob
      clear hob hpre
      by_cases hlt : k < l.length
      · have hx := (hbel.cell (p := ⟨b, off + k, none⟩) hblt).trans (HCELL.out k hlt)
        have HT := Lib.hid (quote_snoc l k hlt)
        have hck := HC.out l[k] (List.getElem_mem hlt)
        have HENC := Lib.hid (encode_any l[k] hck.1)
        have hel := enc_len l[k]
        generalize l[k] = c at hx HT hck HENC hel
        have hes : (⟨(enc c).toArray⟩ : ByteArray).size ≤ 4 := by show (List.toArray _).size ≤ _; rw [List.size_toArray]; exact hel
        obtain ⟨eb, heb⟩ : ∃ eb : ByteArray, eb = ⟨(enc c).toArray⟩ := ⟨_, rfl⟩
        rw [← heb] at HENC hes
        have HEB := Lib.hid heb
        clear heb hel
        have hs2 : ¬ 9223372036854775807 < ob.size + 2 := by omega
        have hs6 : ¬ 9223372036854775807 < ob.size + 6 := by omega
        have hse : ¬ 9223372036854775807 < ob.size + eb.size := by omega
        have hs1 : ¬ 9223372036854775807 < 1 + eb.size := by omega
        have hse1 : ¬ 9223372036854775807 < ob.size + (1 + eb.size) := by omega
        by_cases e10 : c = 10
        · have HQC : Hid (quoteC c = [92, 110]) := Lib.hid (by rw [e10]; rfl)
          have hz : ((c : Int) == 10) = true := by rw [e10]; rfl
          generalize (c : Int) = z at *
          clear e10 hck hes hs6 hse hs1 hse1 hos
          go_wp2
          go_roundw
          case rel =>
            refine ⟨k + 1, by omega, by go_num, ?_, hbel⟩
            rw [HT.out, HQC.out]
            exact cat_step HOB.out (rfl)
          case measure => simp [intOf]; omega
        have hz10 : ((c : Int) == 10) = false := by simp; omega
        by_cases e9 : c = 9
        · have HQC : Hid (quoteC c = [92, 116]) := Lib.hid (by rw [e9]; rfl)
          have hz : ((c : Int) == 9) = true := by rw [e9]; rfl
          have hz10 : ((c : Int) == 10) = false := by rw [e9]; rfl
          generalize (c : Int) = z at *
          clear e9 hck hes hs6 hse hs1 hse1 hos
          go_wp2
          go_roundw
          case rel =>
            refine ⟨k + 1, by omega, by go_num, ?_, hbel⟩
            rw [HT.out, HQC.out]
            exact cat_step HOB.out (rfl)
          case measure => simp [intOf]; omega
        have hz9 : ((c : Int) == 9) = false := by simp; omega
        by_cases e13 : c = 13
        · have HQC : Hid (quoteC c = [92, 114]) := Lib.hid (by rw [e13]; rfl)
          have hz : ((c : Int) == 13) = true := by rw [e13]; rfl
          have hz10 : ((c : Int) == 10) = false := by rw [e13]; rfl
          have hz9 : ((c : Int) == 9) = false := by rw [e13]; rfl
          generalize (c : Int) = z at *
          clear e13 hck hes hs6 hse hs1 hse1 hos
          go_wp2
          go_roundw
          case rel =>
            refine ⟨k + 1, by omega, by go_num, ?_, hbel⟩
            rw [HT.out, HQC.out]
            exact cat_step HOB.out (rfl)
          case measure => simp [intOf]; omega
        have hz13 : ((c : Int) == 13) = false := by simp; omega
        by_cases e0 : c = 0
        · have HQC : Hid (quoteC c = [92, 48]) := Lib.hid (by rw [e0]; rfl)
          have hz : ((c : Int) == 0) = true := by rw [e0]; rfl
          have hz10 : ((c : Int) == 10) = false := by rw [e0]; rfl
          have hz9 : ((c : Int) == 9) = false := by rw [e0]; rfl
          have hz13 : ((c : Int) == 13) = false := by rw [e0]; rfl
          generalize (c : Int) = z at *
          clear e0 hck hes hs6 hse hs1 hse1 hos
          go_wp2
          go_roundw
          case rel =>
            refine ⟨k + 1, by omega, by go_num, ?_, hbel⟩
            rw [HT.out, HQC.out]
            exact cat_step HOB.out (rfl)
          case measure => simp [intOf]; omega
        have hz0 : ((c : Int) == 0) = false := by simp; omega
        by_cases e34 : c = 34
        · have HQC : Hid (quoteC c = [92, 34]) := Lib.hid (by rw [e34]; rfl)
          have hE1 : Hid (eb = ⟨[34].toArray⟩) := Lib.hid (by rw [HEB.out, e34]; rfl)
          have hq34 : ((c : Int) == 34) = true := by rw [e34]; rfl
          generalize (c : Int) = z at *
          clear e34 hck hes hs6 hse hs2 hos
          go_wp2_with fail
          refine (HENC.out _).mono ?_
          rintro e w1 ⟨rfl, hb1⟩
          have hbel1 := below_from hbel hb1 (Nat.le_refl _)
          clear hb1 hx hbel
          go_wp2
          go_roundw
          case rel =>
            refine ⟨k + 1, by omega, by go_num, ?_, hbel1⟩
            rw [HT.out, HQC.out]
            exact cat_step HOB.out (by rw [hE1.out]; rfl)
          case measure => simp [intOf]; omega
        have hz34 : ((c : Int) == 34) = false := by simp; omega
        by_cases e92 : c = 92
        · have HQC : Hid (quoteC c = [92, 92]) := Lib.hid (by rw [e92]; rfl)
          have hE1 : Hid (eb = ⟨[92].toArray⟩) := Lib.hid (by rw [HEB.out, e92]; rfl)
          have hq34 : ((c : Int) == 34) = false := by rw [e92]; rfl
          have hq92 : ((c : Int) == 92) = true := by rw [e92]; rfl
          generalize (c : Int) = z at *
          clear e92 hck hes hs6 hse hs2 hos
          go_wp2_with fail
          refine (HENC.out _).mono ?_
          rintro e w1 ⟨rfl, hb1⟩
          have hbel1 := below_from hbel hb1 (Nat.le_refl _)
          clear hb1 hx hbel
          go_wp2
          go_roundw
          case rel =>
            refine ⟨k + 1, by omega, by go_num, ?_, hbel1⟩
            rw [HT.out, HQC.out]
            exact cat_step HOB.out (by rw [hE1.out]; rfl)
          case measure => simp [intOf]; omega
        have hz92 : ((c : Int) == 92) = false := by simp; omega
        by_cases e7 : c < 32 ∨ c = 127
        · have HQC : Hid (quoteC c = [92, 117, 48, 48, hexd (c / 16), hexd (c % 16)]) := Lib.hid (by unfold quoteC; rw [if_neg e10, if_neg e9, if_neg e13, if_neg e0, if_neg e34, if_neg e92, if_pos e7])
          obtain ⟨p, hp⟩ : ∃ p, p = c / 16 := ⟨_, rfl⟩
          obtain ⟨r, hr⟩ : ∃ r, r = c % 16 := ⟨_, rfl⟩
          rw [← hp, ← hr] at HQC
          have hpI : (c : Int) / 16 = (p : Int) := by omega
          have hrI : (c : Int) % 16 = (r : Int) := by omega
          have hd1 : (⟨#[48, 49, 50, 51, 52, 53, 54, 55, 56, 57, 97, 98, 99, 100, 101, 102]⟩ : ByteArray).extract p (p + 1) = ⟨[hexd p].toArray⟩ := hexd_sub ⟨p, by omega⟩
          have hd2 : (⟨#[48, 49, 50, 51, 52, 53, 54, 55, 56, 57, 97, 98, 99, 100, 101, 102]⟩ : ByteArray).extract r (r + 1) = ⟨[hexd r].toArray⟩ := hexd_sub ⟨r, by omega⟩
          obtain ⟨p1, hp1⟩ : ∃ p1, p1 = p + 1 := ⟨_, rfl⟩
          obtain ⟨r1, hr1⟩ : ∃ r1, r1 = r + 1 := ⟨_, rfl⟩
          rw [← hp1] at hd1
          rw [← hr1] at hd2
          have hw1 : IntKind.i64.wrap ((p : Int) + 1) = (p1 : Int) := by rw [IntWalk.i64_in _ (by omega)]; omega
          have hw2 : IntKind.i64.wrap ((r : Int) + 1) = (r1 : Int) := by rw [IntWalk.i64_in _ (by omega)]; omega
          have hb1 : (p : Int) ≤ (p1 : Int) := by omega
          have hb2 : (p1 : Int) ≤ 16 := by omega
          have hb3 : (r : Int) ≤ (r1 : Int) := by omega
          have hb4 : (r1 : Int) ≤ 16 := by omega
          have hz7 : (c : Int) < 32 ∨ (c : Int) = 127 := by omega
          have hc0 : 0 ≤ (c : Int) := by omega
          generalize (c : Int) = z at *
          clear e7 e10 e9 e13 e0 e34 e92 hck hes hse hs2 hos hs1 hse1 HENC hp hr hp1 hr1
          by_cases h32 : z < 32
          all_goals
            have hz127 : ¬ z < 32 → ((z : Int) == 127) = true := fun h => by rw [show z = 127 by omega]; rfl
            try (have h127 := hz127 h32)
            clear hz127 hz7
            go_wp2_with fail
            go_region
            go_wp2
            go_roundw
            case rel =>
              refine ⟨k + 1, by omega, by go_num, ?_, hbel.drew⟩
              rw [HT.out, HQC.out]
              exact cat_step HOB.out (by first | rfl | (apply ByteArray.ext; simp))
            case measure => simp [intOf]; omega
        · have HQC : Hid (quoteC c = enc c) := Lib.hid (by unfold quoteC; rw [if_neg e10, if_neg e9, if_neg e13, if_neg e0, if_neg e34, if_neg e92, if_neg e7])
          have hz32 : ¬ (c : Int) < 32 := by omega
          have hz127 : ((c : Int) == 127) = false := by simp; omega
          generalize (c : Int) = z at *
          clear e7 e10 e9 e13 e0 e34 e92 hck hes hs6 hs2 hos hs1 hse1
          go_wp2_with fail
          refine (HENC.out _).mono ?_
          rintro e w1 ⟨rfl, hb1⟩
          have hbel1 := below_from hbel hb1 (Nat.le_refl _)
          clear hb1 hx hbel
          go_wp2
          go_roundw
          case rel =>
            refine ⟨k + 1, by omega, by go_num, ?_, hbel1⟩
            rw [HT.out, HQC.out]
            exact cat_step HOB.out (HEB.out)
          case measure => simp [intOf]; omega
      · obtain rfl : k = l.length := by omega
        have HO2 := HOB.out
        rw [List.take_length] at HO2
        have HO3 := Lib.hid HO2
        have hs1 : ¬ 9223372036854775807 < ob.size + 1 := by omega
        clear HO2 HOB hos
        go_wp2
        go_ret
        refine ⟨congrArg (fun x => Ending.returned x) ?_, hbel⟩
        exact cat_step HO3.out rfl
end Go.Proofs.YtjpnkffdpcfnjaaDoor
