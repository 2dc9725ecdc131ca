/-
  The reference's writers: String, Bits; refer.
-/
import Derived.Test.YtjjdfodjkoiedaaDoorRefW2
import Derived.Test.YtjjdfodjkoiedaaDoorWr
set_option linter.unusedVariables false
namespace Go.Proofs.YtjjdfodjkoiedaaDoor
open Go.RowKit

theorem cat_str (a : List UInt8) (s : ByteArray) : (⟨a.toArray⟩ : ByteArray) ++ s = ⟨(a ++ s.data.toList).toArray⟩ := by
  apply ByteArray.ext
  simp

set_option maxHeartbeats 1000000 in
theorem refString_any (s : ByteArray) (hs : s.size ≤ 1048576) (w : World) :
    Calls Tryd.prog 38 #[.string s] w (RfPost w (0, strS s)) := by
  have hsI : ¬ ((1048576 : Int) < (s.size : Int)) := by omega
  have HN := Lib.hid (refNumber_any (s.size : Int) (by unfold I64; omega) w)
  have HC := Lib.hid (cat_str (encNum (s.size : Int)) s)
  have hen := encNum_le (s.size : Int)
  have hsz : ¬ (9223372036854775807 < (encNum (s.size : Int)).length + s.size) := by omega
  clear hen
  go_enter Tryd.func38, Tryd.ntmps38
  go_wp2_with fail
  refine HN.out.mono ?_
  rintro e w1 ⟨rfl, hb⟩
  go_wp2
  go_ret2
  exact ⟨by rw [HC.out]; rfl, hb⟩

theorem row_below {w w' : World} {b : Nat} {t : TypeId} {n : Nat} {f : Nat → Value} (h : w.rowIs b t n f) (hb : Below w.heap.size w w') : w'.rowIs b t n f := by
  obtain ⟨c, hc, r⟩ := h
  exact ⟨c, (hb.block b (lt_of_block hc)).trans hc, r⟩
theorem row_drew {w : World} {b : Nat} {t : TypeId} {n : Nat} {f : Nat → Value} (h : w.rowIs b t n f) : w.drew.rowIs b t n f := h
theorem conv_bits {wr : World} {rb p : Nat} {l : List Bool} (hp : p = (l.length + 7) / 8) (h : wr.rowIs rb 5 p (fun j => .int .u8 (stB l l.length j : Int))) :
    (convert 64 9 (.slice (some ⟨rb, 0, none⟩) p p)).run Tryd.prog wr = .ok (.string ⟨(bitsB l).toArray⟩) wr := by
  have hn := news_bits hp h
  obtain rfl : p = (bitsB l).length := by rw [bitsB_len]; exact hp
  exact run_convert_bytes_back wr _ _ _ ⟨rb, 0, none⟩ _ (bitsB l) Tryd.underlying64 Tryd.underlying5 Tryd.underlying9 (fun j hj => hn j _ (by simp [u8s, hj]))

set_option maxHeartbeats 2000000 in
set_option maxRecDepth 100000 in
theorem refBits_any (l : List Bool) (lv : Value) (hs : l.length ≤ 65536) (w : World) (hb : BoolsAt (fun _ => True) w lv l) :
    Calls Tryd.prog 39 #[lv] w (RfPost w (0, bitS l)) := by
  obtain ⟨i0, hi, hz0, hz1, hz2⟩ := info_parts infoU8
  obtain ⟨a, cap, rfl, hb⟩ := hb
  have hsI : ¬ ((65536 : Int) < (l.length : Int)) := by omega
  obtain ⟨p, hp⟩ : ∃ p : Nat, p = (l.length + 7) / 8 := ⟨_, rfl⟩
  have HPP := Lib.hid hp
  have hp2 : p ≤ 10000 := by omega
  have hpd : ((l.length : Int) + 7) / 8 = (p : Int) := by omega
  have hpd2 : ((l.length : Int) + 7).tdiv 8 = (p : Int) := by rw [Int.tdiv_eq_ediv_of_nonneg (by omega)]; omega
  have hmk := fun w => run_make_row' (P := Tryd.prog) 64 5 (.int .u8 0) 1 Tryd.underlying64 infoU8 rfl .i64 .i64 p (by omega) (by omega) w
  have HN := Lib.hid (fun w => refNumber_any (l.length : Int) (by unfold I64; omega) w)
  have HCB : Hid (l = [] ∨ ∃ b o, a = some ⟨b, o, none⟩ ∧ b < w.heap.size ∧ ∀ j (h : j < l.length), w.cell? ⟨b, o + j, none⟩ = some (.bool l[j])) := by
    rcases hb with hb | ⟨b, o, ha, _, hlt, hc⟩
    · exact .inl hb
    · exact .inr ⟨b, o, ha, hlt, hc⟩
  have hrow := (World.rowIs_made w (.int .u8 0) p 5).congr (g := fun j => .int .u8 (stB l 0 j : Int)) (fun j _ => by rw [stB_zero]; rfl)
  have HROW := Lib.hid hrow
  clear hrow hb hp
  go_enter Tryd.func39, Tryd.ntmps39
  go_wp2
  go_loopw [5] (fun i wr => BitRel w w.heap.size p l i wr) (fun i _ => l.length - (intOf i).toNat)
  case atStart => exact ⟨0, Nat.zero_le _, rfl, HROW.out, (Below.refl _ _).alloc (Nat.le_refl _) _⟩
  case round =>
    obtain ⟨k, hk, rfl, hrw, hbel⟩ := hrel
    clear hmk
    by_cases hlt : k < l.length
    · have hltI : (k : Int) < (l.length : Int) := by omega
      rcases HCB.out with hnil | ⟨b, o, rfl, hbl, hc⟩
      · rw [hnil] at hlt; exact absurd hlt (Nat.not_lt_zero _)
      have hx := (hbel.cell (p := ⟨b, o + k, none⟩) hbl).trans (hc k hlt)
      have hgd : l.getD k false = l[k] := by rw [List.getD_eq_getElem?_getD, List.getElem?_eq_getElem hlt]; rfl
      clear hc
      cases hlk : l[k]
      · rw [hlk] at hx hgd
        have HGD := Lib.hid hgd
        clear hgd hlk
        go_wp2
        go_roundw
        case rel => exact ⟨k + 1, by omega, by go_num, hrw.congr (fun j _ => by rw [stB_off _ _ _ HGD.out]), hbel⟩
        case measure => simp [intOf]; omega
      · rw [hlk] at hx hgd
        have HGD := Lib.hid hgd
        obtain ⟨q, hqe⟩ : ∃ q : Nat, q = k / 8 := ⟨_, rfl⟩
        have hq : q < p := by have := HPP.out; omega
        have hcell := hrw.cell hq
        have hfr := hrw.frozen q
        have hq0 : (0 : Int) ≤ (q : Int) := by omega
        have hq1 : (q : Int) < (p : Int) := by omega
        have hdv : (k : Int) / 8 = (q : Int) := by omega
        have hdv2 : (k : Int).tdiv 8 = (q : Int) := by rw [Int.tdiv_eq_ediv_of_nonneg (by omega)]; omega
        have hdv3 : IntKind.i64.wrap (q : Int) = (q : Int) := IntWalk.i64_in _ (by omega)
        have HQ := Lib.hid hqe
        clear hqe
        clear hgd hlk
        go_wp2_with fail
        go_region
        all_goals
          have R := (hrw.set q (.int .u8 (bits .or .u8 (stB l k q : Int) (128 / 2 ^ ((k : Int) % 8).toNat)))).congr (fun j _ => bit_step l k q HQ.out HGD.out j)
          have hb2 := hbel.setCell (p := ⟨w.heap.size, q, none⟩) (Nat.le_refl _) (.int .u8 (bits .or .u8 (stB l k q : Int) (128 / 2 ^ ((k : Int) % 8).toNat)))
          have HR := Lib.hid R
          have HB2 := Lib.hid hb2
          clear R hb2 hrw hbel hcell hfr hx hdv hdv2 hdv3
          go_wp2
          go_roundw
          case rel => exact ⟨k + 1, by omega, by go_num, HR.out, HB2.out.drew⟩
          case measure => simp [intOf]; omega
    · obtain rfl : k = l.length := by omega
      have hbp : (bitsB l).length = p := by rw [bitsB_len]; exact HPP.out.symm
      have hcv := conv_bits HPP.out (row_drew hrw)
      have HRW := Lib.hid hrw
      have HBEL := Lib.hid hbel
      have hen := encNum_le (l.length : Int)
      have hsz : ¬ (9223372036854775807 < (encNum (l.length : Int)).length + (bitsB l).length) := by omega
      have HC := Lib.hid (cat_str (encNum (l.length : Int)) ⟨(bitsB l).toArray⟩)
      clear hen hbp hrw hbel
      go_wp2_with fail
      go_region_with (go_at_call 37; refine (HN.out _).mono ?_; rintro e w' ⟨rfl, hb'⟩; have hcv' := conv_bits HPP.out (row_below (row_drew HRW.out) hb'))
      all_goals
        have HF := Lib.hid (HBEL.out.drew.trans (hb'.mono HBEL.out.drew.size))
        clear hcv hcv' hb'
        go_wp2
        go_ret2
        exact ⟨by rw [HC.out]; rfl, HF.out⟩

theorem rf_box {w W w' : World} {r : Int × List UInt8} {e : Ending} (hW : Below w.heap.size w W) (h : RfPost W r e w') : e = .returned (.tuple #[.string ⟨r.2.toArray⟩, .int .i64 r.1]) ∧ Below w.heap.size w w' :=
  ⟨h.1, hW.trans (h.2.mono hW.size)⟩

set_option maxHeartbeats 1000000 in
set_option maxRecDepth 100000 in
theorem rf_little (z n : Int) (s : ByteArray) (la : Option Addr) (ll lc : Nat) (l : List Bool) (hn : I64 n) (hs : s.size ≤ 1048576) (hb : l.length ≤ 65536) (w : World) (hbl : BoolsAt (fun _ => True) w (.slice la ll lc) l) :
    Calls Tryd.prog 15 #[.agg #[.int .i64 0, .int .i64 z, .int .i64 n, .string s, .slice la ll lc]] w (RfPost w (litS n z)) := by
  have hbw : Below w.heap.size w (w.alloc (.cells #[.int .i64 0, .int .i64 z, .int .i64 n, .string s, .slice la ll lc] 31)) := below_al (Below.refl _ _)
  have HC := Lib.hid ((refLittle_any n z hn _ : Calls Tryd.prog _ _ (w.alloc (.cells #[.int .i64 0, .int .i64 z, .int .i64 n, .string s, .slice la ll lc] 31)) _).mono fun e w' hp => rf_box hbw hp)
  have HR : Hid ((RfPost w (litS n z)) = fun e w' => e = .returned (.tuple #[.string ⟨(litS n z : Int × List UInt8).2.toArray⟩, .int .i64 (litS n z : Int × List UInt8).1]) ∧ Below w.heap.size w w') := rfl
  clear hbw hbl hn hs hb
  generalize (litS n z : Int × List UInt8) = r at *
  obtain ⟨r1, r2⟩ := r
  rw [HR.out]
  go_enter Tryd.func15, Tryd.ntmps15
  go_wp2_with fail
  refine HC.out.mono ?_
  rintro e w1 ⟨rfl, hp⟩
  go_wp2
  go_ret2
  exact ⟨rfl, hp⟩

set_option maxHeartbeats 1000000 in
set_option maxRecDepth 100000 in
theorem rf_signed (z n : Int) (s : ByteArray) (la : Option Addr) (ll lc : Nat) (l : List Bool) (hn : I64 n) (hs : s.size ≤ 1048576) (hb : l.length ≤ 65536) (w : World) (hbl : BoolsAt (fun _ => True) w (.slice la ll lc) l) :
    Calls Tryd.prog 15 #[.agg #[.int .i64 1, .int .i64 z, .int .i64 n, .string s, .slice la ll lc]] w (RfPost w (sigS n z)) := by
  have hbw : Below w.heap.size w (w.alloc (.cells #[.int .i64 1, .int .i64 z, .int .i64 n, .string s, .slice la ll lc] 31)) := below_al (Below.refl _ _)
  have HC := Lib.hid ((refSigned_any n z hn _ : Calls Tryd.prog _ _ (w.alloc (.cells #[.int .i64 1, .int .i64 z, .int .i64 n, .string s, .slice la ll lc] 31)) _).mono fun e w' hp => rf_box hbw hp)
  have HR : Hid ((RfPost w (sigS n z)) = fun e w' => e = .returned (.tuple #[.string ⟨(sigS n z : Int × List UInt8).2.toArray⟩, .int .i64 (sigS n z : Int × List UInt8).1]) ∧ Below w.heap.size w w') := rfl
  clear hbw hbl hn hs hb
  generalize (sigS n z : Int × List UInt8) = r at *
  obtain ⟨r1, r2⟩ := r
  rw [HR.out]
  go_enter Tryd.func15, Tryd.ntmps15
  go_wp2_with fail
  refine HC.out.mono ?_
  rintro e w1 ⟨rfl, hp⟩
  go_wp2
  go_ret2
  exact ⟨rfl, hp⟩

set_option maxHeartbeats 1000000 in
set_option maxRecDepth 100000 in
theorem rf_string (z n : Int) (s : ByteArray) (la : Option Addr) (ll lc : Nat) (l : List Bool) (hn : I64 n) (hs : s.size ≤ 1048576) (hb : l.length ≤ 65536) (w : World) (hbl : BoolsAt (fun _ => True) w (.slice la ll lc) l) :
    Calls Tryd.prog 15 #[.agg #[.int .i64 3, .int .i64 z, .int .i64 n, .string s, .slice la ll lc]] w (RfPost w ((0, strS s))) := by
  have hbw : Below w.heap.size w (w.alloc (.cells #[.int .i64 3, .int .i64 z, .int .i64 n, .string s, .slice la ll lc] 31)) := below_al (Below.refl _ _)
  have HC := Lib.hid ((refString_any s hs _ : Calls Tryd.prog _ _ (w.alloc (.cells #[.int .i64 3, .int .i64 z, .int .i64 n, .string s, .slice la ll lc] 31)) _).mono fun e w' hp => rf_box hbw hp)
  have HR : Hid ((RfPost w ((0, strS s))) = fun e w' => e = .returned (.tuple #[.string ⟨((0, strS s) : Int × List UInt8).2.toArray⟩, .int .i64 ((0, strS s) : Int × List UInt8).1]) ∧ Below w.heap.size w w') := rfl
  clear hbw hbl hn hs hb
  generalize ((0, strS s) : Int × List UInt8) = r at *
  obtain ⟨r1, r2⟩ := r
  rw [HR.out]
  go_enter Tryd.func15, Tryd.ntmps15
  go_wp2_with fail
  refine HC.out.mono ?_
  rintro e w1 ⟨rfl, hp⟩
  go_wp2
  go_ret2
  exact ⟨rfl, hp⟩

set_option maxHeartbeats 1000000 in
set_option maxRecDepth 100000 in
theorem rf_bits (z n : Int) (s : ByteArray) (la : Option Addr) (ll lc : Nat) (l : List Bool) (hn : I64 n) (hs : s.size ≤ 1048576) (hb : l.length ≤ 65536) (w : World) (hbl : BoolsAt (fun _ => True) w (.slice la ll lc) l) :
    Calls Tryd.prog 15 #[.agg #[.int .i64 4, .int .i64 z, .int .i64 n, .string s, .slice la ll lc]] w (RfPost w ((0, bitS l))) := by
  have hbw : Below w.heap.size w (w.alloc (.cells #[.int .i64 4, .int .i64 z, .int .i64 n, .string s, .slice la ll lc] 31)) := below_al (Below.refl _ _)
  have HC := Lib.hid ((refBits_any l _ hb _ (hbl.below hbw) : Calls Tryd.prog _ _ (w.alloc (.cells #[.int .i64 4, .int .i64 z, .int .i64 n, .string s, .slice la ll lc] 31)) _).mono fun e w' hp => rf_box hbw hp)
  have HR : Hid ((RfPost w ((0, bitS l))) = fun e w' => e = .returned (.tuple #[.string ⟨((0, bitS l) : Int × List UInt8).2.toArray⟩, .int .i64 ((0, bitS l) : Int × List UInt8).1]) ∧ Below w.heap.size w w') := rfl
  clear hbw hbl hn hs hb
  generalize ((0, bitS l) : Int × List UInt8) = r at *
  obtain ⟨r1, r2⟩ := r
  rw [HR.out]
  go_enter Tryd.func15, Tryd.ntmps15
  go_wp2_with fail
  refine HC.out.mono ?_
  rintro e w1 ⟨rfl, hp⟩
  go_wp2
  go_ret2
  exact ⟨rfl, hp⟩

set_option maxHeartbeats 1000000 in
set_option maxRecDepth 100000 in
theorem rf_number (z n : Int) (s : ByteArray) (la : Option Addr) (ll lc : Nat) (hn : I64 n) (w : World) :
    Calls Tryd.prog 15 #[.agg #[.int .i64 2, .int .i64 z, .int .i64 n, .string s, .slice la ll lc]] w (RfPost w (0, encNum n)) := by
  have hbw : Below w.heap.size w (w.alloc (.cells #[.int .i64 2, .int .i64 z, .int .i64 n, .string s, .slice la ll lc] 31)) := below_al (Below.refl _ _)
  have HC := Lib.hid ((refNumber_any n hn (w.alloc (.cells #[.int .i64 2, .int .i64 z, .int .i64 n, .string s, .slice la ll lc] 31))).mono (R' := fun e w' => e = .returned (.string ⟨(encNum n).toArray⟩) ∧ Below w.heap.size w w') fun e w' hp => ⟨hp.1, hbw.trans (hp.2.mono hbw.size)⟩)
  clear hbw hn
  go_enter Tryd.func15, Tryd.ntmps15
  go_wp2_with fail
  refine HC.out.mono ?_
  rintro e w1 ⟨rfl, hp⟩
  go_wp2
  go_ret2
  exact ⟨rfl, hp⟩

set_option maxHeartbeats 1000000 in
set_option maxRecDepth 100000 in
theorem rf_count (z n : Int) (s : ByteArray) (la : Option Addr) (ll lc : Nat) (hn : I64 n) (w : World) :
    Calls Tryd.prog 15 #[.agg #[.int .i64 6, .int .i64 z, .int .i64 n, .string s, .slice la ll lc]] w (RfPost w (0, encNum n)) := by
  have hbw : Below w.heap.size w (w.alloc (.cells #[.int .i64 6, .int .i64 z, .int .i64 n, .string s, .slice la ll lc] 31)) := below_al (Below.refl _ _)
  have HC := Lib.hid ((refNumber_any n hn (w.alloc (.cells #[.int .i64 6, .int .i64 z, .int .i64 n, .string s, .slice la ll lc] 31))).mono (R' := fun e w' => e = .returned (.string ⟨(encNum n).toArray⟩) ∧ Below w.heap.size w w') fun e w' hp => ⟨hp.1, hbw.trans (hp.2.mono hbw.size)⟩)
  clear hbw hn
  go_enter Tryd.func15, Tryd.ntmps15
  go_wp2_with fail
  refine HC.out.mono ?_
  rintro e w1 ⟨rfl, hp⟩
  go_wp2
  go_ret2
  exact ⟨rfl, hp⟩

set_option maxHeartbeats 1000000 in
set_option maxRecDepth 100000 in
theorem rf_raw (k z n : Int) (s : ByteArray) (la : Option Addr) (ll lc : Nat) (w : World) (hk0 : k ≠ 0) (hk1 : k ≠ 1) (hk2 : k ≠ 2) (hk3 : k ≠ 3) (hk4 : k ≠ 4) (hk6 : k ≠ 6) :
    Calls Tryd.prog 15 #[.agg #[.int .i64 k, .int .i64 z, .int .i64 n, .string s, .slice la ll lc]] w (RfPost w (0, s.data.toList)) := by
  have q0 : (k == 0) = false := by rw [beq_eq_false_iff_ne]; exact hk0
  have q1 : (k == 1) = false := by rw [beq_eq_false_iff_ne]; exact hk1
  have q2 : (k == 2) = false := by rw [beq_eq_false_iff_ne]; exact hk2
  have q3 : (k == 3) = false := by rw [beq_eq_false_iff_ne]; exact hk3
  have q4 : (k == 4) = false := by rw [beq_eq_false_iff_ne]; exact hk4
  have q6 : (k == 6) = false := by rw [beq_eq_false_iff_ne]; exact hk6
  clear hk0 hk1 hk2 hk3 hk4 hk6
  go_enter Tryd.func15, Tryd.ntmps15
  go_wp2
  go_ret2
  exact ⟨rfl, below_al (Below.refl _ _)⟩

theorem refer_any (x : It) (l : List Bool) (hn : I64 x.n) (hs : x.s.size ≤ 1048576) (hb : l.length ≤ 65536) (w : World) (hbl : BoolsAt (fun _ => True) w (.slice x.la x.ll x.lc) l) :
    Calls Tryd.prog 15 #[x.val] w (RfPost w (wrS x l)) := by
  obtain ⟨k, z, n, s, la, ll, lc⟩ := x
  unfold It.val wrS
  simp only at *
  by_cases h0 : k = 0
  · subst h0; rw [if_pos rfl]; exact rf_little z n s la ll lc l hn hs hb w hbl
  rw [if_neg h0]
  by_cases h1 : k = 1
  · subst h1; rw [if_pos rfl]; exact rf_signed z n s la ll lc l hn hs hb w hbl
  rw [if_neg h1]
  by_cases h2 : k = 2
  · subst h2; rw [if_pos (by simp)]; exact rf_number z n s la ll lc hn w
  by_cases h6 : k = 6
  · subst h6; rw [if_pos (by simp)]; exact rf_count z n s la ll lc hn w
  rw [if_neg (by simp [h2, h6])]
  by_cases h3 : k = 3
  · subst h3; rw [if_pos rfl]; exact rf_string z n s la ll lc l hn hs hb w hbl
  rw [if_neg h3]
  by_cases h4 : k = 4
  · subst h4; rw [if_pos rfl]; exact rf_bits z n s la ll lc l hn hs hb w hbl
  rw [if_neg h4]
  exact rf_raw k z n s la ll lc w h0 h1 h2 h3 h4 h6
end Go.Proofs.YtjjdfodjkoiedaaDoor
