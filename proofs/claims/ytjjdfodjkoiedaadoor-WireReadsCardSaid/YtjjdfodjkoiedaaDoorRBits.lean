/-
  wire: the closure of Reader.Bits.
-/
import Derived.Test.YtjjdfodjkoiedaaDoorRead2
import Derived.Test.YtjjdfodjkoiedaaDoorWBits
set_option linter.unusedVariables false
namespace Go.Proofs.YtjjdfodjkoiedaaDoor
open Go.RowKit

def bitB (c : Int) (r : Nat) : Bool := decide (c / 2 ^ (7 - r) % 2 = 1)
def bitL (s : ByteArray) (from_ n : Nat) : List Bool := (List.range n).map fun i => bitB (bt s (from_ + i / 8)) (i % 8)
def bitR (s : ByteArray) (most : Int) : List Bool × Int × Int :=
  if (cntR s (min most 65536)).2.2 = 0 then
    (if (s.size : Int) < (cntR s (min most 65536)).2.1 + ((cntR s (min most 65536)).1 + 7) / 8 then ([], 0, 16)
     else if 0 < (cntR s (min most 65536)).1 % 8 ∧ (bt s ((cntR s (min most 65536)).2.1 + ((cntR s (min most 65536)).1 + 7) / 8 - 1).toNat * 2 ^ ((cntR s (min most 65536)).1 % 8).toNat) % 256 ≠ 0 then ([], 0, 2)
     else (bitL s (cntR s (min most 65536)).2.1.toNat (cntR s (min most 65536)).1.toNat, (cntR s (min most 65536)).2.1 + ((cntR s (min most 65536)).1 + 7) / 8, 0))
  else ([], 0, (cntR s (min most 65536)).2.2)

set_option maxRecDepth 100000 in
theorem and_bit (c r : Nat) (hc : c < 256) (hr : r < 8) : (bits .and .u8 (c : Int) (128 / 2 ^ r) != 0) = bitB c r := by
  have key : ∀ r : Fin 8, ∀ c : Fin 256, (bits .and .u8 (c.val : Int) (128 / 2 ^ r.val) != 0) = bitB c.val r.val := by decide +kernel
  exact key ⟨r, hr⟩ ⟨c, hc⟩

theorem infoBool : (Tryd.prog.info? 4).map (fun i => (i.zero, i.size, i.bytes)) = some (some (.bool false), 1, 1) := by kernel_rfl

theorem cntR_err (s : ByteArray) (most : Int) : (cntR s most).2.2 ≠ 0 → (cntR s most).1 = 0 ∧ (cntR s most).2.1 = 0 := by
  unfold cntR
  repeat' split
  all_goals simp
  intro h; contradiction

/-- What Bits$1 leaves. -/
def BPost (w : World) (l : List Bool) (n x : Int) (e : Ending) (w' : World) : Prop :=
  ∃ v, e = .returned (.tuple #[v, .int .i64 n, .int .i64 x]) ∧ Below w.heap.size w w' ∧ BoolsAt (fun b => w.heap.size ≤ b) w' v l ∧ (x ≠ 0 → v = .slice none 0 0)

theorem bpost_nil {w w' : World} {n x : Int} (hb : Below w.heap.size w w') : BPost w [] n x (.returned (.tuple #[.slice none 0 0, .int .i64 n, .int .i64 x])) w' :=
  ⟨_, rfl, hb, ⟨none, 0, rfl, .inl rfl⟩, fun _ => rfl⟩

theorem rbit_step (s : ByteArray) (n k j i : Nat) (hj : j < s.size) (e : j = n + k / 8) :
    (if i = k then Value.bool (bits .and .u8 (s[j].toNat : Int) (128 / 2 ^ ((k : Int) % 8).toNat) != 0) else Value.bool (if i < k then bitB (bt s (n + i / 8)) (i % 8) else false)) = Value.bool (if i < k + 1 then bitB (bt s (n + i / 8)) (i % 8) else false) := by
  have hb := s[j].toNat_lt
  rw [show ((k : Int) % 8).toNat = k % 8 by omega, and_bit _ _ hb (by omega), ← bt_in s j hj]
  subst e
  by_cases h : i = k
  · subst h
    rw [if_pos rfl, if_pos (by omega)]
  · rw [if_neg h]
    by_cases h2 : i < k
    · rw [if_pos h2, if_pos (by omega)]
    · rw [if_neg h2, if_neg (by omega)]

theorem bools_made {w wr : World} {s : ByteArray} {n v rb : Nat} (h : wr.rowIs rb 4 v (fun j => .bool (if j < v then bitB (bt s (n + j / 8)) (j % 8) else false))) (hrb : w.heap.size ≤ rb) :
    BoolsAt (fun b => w.heap.size ≤ b) wr (.slice (some ⟨rb, 0, none⟩) v v) (bitL s n v) := by
  have hlen : (bitL s n v).length = v := by simp [bitL]
  refine ⟨some ⟨rb, 0, none⟩, v, by rw [hlen], .inr ⟨rb, 0, rfl, hrb, h.lt, fun j hj => ?_⟩⟩
  rw [hlen] at hj
  rw [Nat.zero_add, h.cell hj, if_pos hj]
  simp [bitL]

def RBitRel (w : World) (s : ByteArray) (from_ n : Nat) (rb : Nat) (i : Value) (wr : World) : Prop :=
  ∃ k : Nat, k ≤ n ∧ i = .int .i64 k ∧ wr.rowIs rb 4 n (fun j => .bool (if j < k then bitB (bt s (from_ + j / 8)) (j % 8) else false)) ∧ Below w.heap.size w wr

set_option maxHeartbeats 2000000 in
set_option maxRecDepth 100000 in
theorem bits_core (s : ByteArray) (most m : Int) (v n : Nat) (hl : s.size ≤ 1000000000) (cb : Nat) (w : World) (hc : w.cell? ⟨cb, 0, none⟩ = some (.int .i64 most))
    (hcs : (most ≤ 65536 ∧ m = most) ∨ (65536 < most ∧ m = 65536)) (hv : v ≤ 65536) (hn9 : n ≤ 9) (hns : n ≤ s.size)
    (hfit : n + (v + 7) / 8 ≤ s.size) (htl : ¬ (0 < v % 8 ∧ (bt s (n + (v + 7) / 8 - 1) * 2 ^ (v % 8)) % 256 ≠ 0))
    (HN : Hid (Calls Tryd.prog 77 #[.string s, .int .i64 m] w fun e w' => e = R3 ((v : Int), (n : Int), 0) ∧ Below w.heap.size w w')) :
    Calls Tryd.prog 79 #[.string s, .pointer (some ⟨cb, 0, none⟩)] w (BPost w (bitL s n v) ((n : Int) + ((v : Int) + 7) / 8) 0) := by
  unfold R3 at HN
  obtain ⟨p, hp⟩ : ∃ p : Nat, p = (v + 7) / 8 := ⟨_, rfl⟩
  rw [← hp] at hfit htl
  have hpk := fun w => packed_any (v : Int) (by omega) (by omega) w
  rw [show ((v : Int) + 7) / 8 = (p : Int) by omega] at hpk ⊢
  have HP := Lib.hid hpk
  have hmk := fun w => run_make_row' (P := Tryd.prog) 29 4 (.bool false) 1 Tryd.underlying29 infoBool rfl .i64 .i64 v (by omega) (by omega) w
  have HMK := Lib.hid hmk
  have HPP := Lib.hid hp
  have HTL := Lib.hid htl
  have hfitI : ¬ (s.size : Int) < (n : Int) + (p : Int) := by omega
  have hp2 : p ≤ 10000 := by omega
  have HBT := Lib.hid (fun k h => bt_in s k h)
  clear hmk htl hp hpk
  rcases hcs with ⟨hm, rfl⟩ | ⟨hm, rfl⟩
  all_goals
    go_enter Tryd.func79, Tryd.ntmps79
    go_wp2_with fail
    refine HN.out.mono ?_
    rintro e w1 ⟨rfl, hb1⟩
    go_wp2_with fail
    refine (HP.out _).mono ?_
    rintro e w1' ⟨rfl, rfl⟩
    go_upto_region 7 with fail
    go_cut [33] (fun t wr => t = .bool false ∧ wr = w1)
    case first =>
      by_cases h8 : v % 8 = 0
      · have h8I : (v : Int) % 8 = 0 := by omega
        go_wp2_with fail
        go_meet
        exact ⟨rfl, rfl⟩
      · have h8I : (0 : Int) < (v : Int) % 8 := by omega
        obtain ⟨j, hj⟩ : ∃ j : Nat, j = n + p - 1 := ⟨_, rfl⟩
        have hx1 : j < s.size := by have := HPP.out; omega
        have hx2 : (n : Int) + (p : Int) - 1 = (j : Int) := by have := HPP.out; omega
        have hbt := HBT.out j hx1
        have HSH : Hid (((s[j].toNat : Int) * 2 ^ (v % 8) % 256 != 0) = false) := by
          show _ = _
          rw [bne_eq_false_iff_eq, ← hbt, hj]
          have := HTL.out
          omega
        clear hbt hj
        go_wp2_with fail
        go_meet
        exact ⟨congrArg Value.bool HSH.out, rfl⟩
    case rest =>
      obtain ⟨rfl, rfl⟩ := hcut
      have hrow := (World.rowIs_made wc (.bool false) v 4).congr (g := fun j => .bool (if j < 0 then bitB (bt s (n + j / 8)) (j % 8) else false)) (fun j _ => by simp)
      have HROW := Lib.hid hrow
      have hmk := HMK.out
      clear hrow
      go_wp2
      go_loopw [51] (fun i wr => RBitRel w s n v wc.heap.size i wr) (fun i _ => v - (intOf i).toNat)
      case atStart => exact ⟨0, Nat.zero_le _, rfl, HROW.out, below_al hb1⟩
      case round =>
        obtain ⟨k, hk, rfl, hrw, hbel⟩ := hrel
        clear hmk
        by_cases hlt : k < v
        · have hltI : (k : Int) < (v : Int) := by omega
          obtain ⟨q, hqe⟩ : ∃ q : Nat, q = k / 8 := ⟨_, rfl⟩
          have hq : q < p := by have := HPP.out; omega
          obtain ⟨j, hj⟩ : ∃ j : Nat, j = n + q := ⟨_, rfl⟩
          have hjs : j < s.size := by omega
          have hj0 : (0 : Int) ≤ (j : Int) := by omega
          have hj1 : (j : Int) < (s.size : Int) := by omega
          have hnq : (n : Int) + (q : Int) = (j : Int) := by omega
          have hjw : IntKind.i64.wrap (j : Int) = (j : Int) := IntWalk.i64_in _ (by omega)
          have hdv : (k : Int) / 8 = (q : Int) := by omega
          have hdv2 : (k : Int).tdiv 8 = (q : Int) := by rw [Int.tdiv_eq_ediv_of_nonneg (by omega)]; omega
          have hdv3 : IntKind.i64.wrap (q : Int) = (q : Int) := IntWalk.i64_in _ (by omega)
          have hcell := hrw.cell hlt
          have hfr := hrw.frozen k
          have HQ := Lib.hid hqe
          have HJ := Lib.hid hj
          have hpl := fun w => place_any (k : Int) (by omega) (by omega) w
          have HPL := Lib.hid hpl
          clear hqe hpl hj hq
          go_wp2_with fail
          go_region_with (go_at_call 63; refine (HPL.out _).mono ?_; rintro e w' ⟨rfl, rfl⟩)
          all_goals
            have R := (hrw.set k (.bool (bits .and .u8 (s[j].toNat : Int) (128 / 2 ^ ((k : Int) % 8).toNat) != 0))).congr (g := fun i => .bool (if i < k + 1 then bitB (bt s (n + i / 8)) (i % 8) else false)) (fun i _ => rbit_step s n k j i hjs (by rw [HJ.out, HQ.out]))
            have hb2 := hbel.setCell (p := ⟨wc.heap.size, k, none⟩) hb1.size (.bool (bits .and .u8 (s[j].toNat : Int) (128 / 2 ^ ((k : Int) % 8).toNat) != 0))
            have HR := Lib.hid R
            have HB2 := Lib.hid hb2
            clear R hb2 hrw hbel hcell hfr hdv hdv2 hdv3 hnq hjw
            go_wp2
            go_roundw
            case rel => exact ⟨k + 1, by omega, by go_num, HR.out, HB2.out.drew⟩
            case measure => simp [intOf]; omega
        · obtain rfl : k = v := by omega
          go_wp2
          go_ret3
          exact ⟨_, rfl, hbel, bools_made hrw hb1.size, fun h => absurd rfl h⟩

set_option maxHeartbeats 2000000 in
set_option maxRecDepth 100000 in
theorem bits_err (s : ByteArray) (most m x : Int) (hl : s.size ≤ 1000000000) (cb : Nat) (w : World) (hc : w.cell? ⟨cb, 0, none⟩ = some (.int .i64 most))
    (hcs : (most ≤ 65536 ∧ m = most) ∨ (65536 < most ∧ m = 65536)) (hx : x ≠ 0)
    (HN : Hid (Calls Tryd.prog 77 #[.string s, .int .i64 m] w fun e w' => e = R3 (0, 0, x) ∧ Below w.heap.size w w')) :
    Calls Tryd.prog 79 #[.string s, .pointer (some ⟨cb, 0, none⟩)] w (BPost w [] 0 x) := by
  unfold R3 at HN
  have HP := Lib.hid (fun w => packed_any 0 (by omega) (by omega) w)
  have hxb : (x != 0) = true := by rw [bne_iff_ne]; exact hx
  rcases hcs with ⟨hm, rfl⟩ | ⟨hm, rfl⟩
  all_goals
    go_enter Tryd.func79, Tryd.ntmps79
    go_wp2_with fail
    refine HN.out.mono ?_
    rintro e w1 ⟨rfl, hb1⟩
    go_wp2_with fail
    refine (HP.out _).mono ?_
    rintro e w1' ⟨rfl, rfl⟩
    go_wp2
    go_ret3
    exact bpost_nil hb1

set_option maxHeartbeats 2000000 in
set_option maxRecDepth 100000 in
theorem bits_short (s : ByteArray) (most m : Int) (v n : Nat) (hl : s.size ≤ 1000000000) (cb : Nat) (w : World) (hc : w.cell? ⟨cb, 0, none⟩ = some (.int .i64 most))
    (hcs : (most ≤ 65536 ∧ m = most) ∨ (65536 < most ∧ m = 65536)) (hv : v ≤ 65536) (hn9 : n ≤ 9)
    (hfit : (s.size : Int) < (n : Int) + ((v : Int) + 7) / 8)
    (HN : Hid (Calls Tryd.prog 77 #[.string s, .int .i64 m] w fun e w' => e = R3 ((v : Int), (n : Int), 0) ∧ Below w.heap.size w w')) :
    Calls Tryd.prog 79 #[.string s, .pointer (some ⟨cb, 0, none⟩)] w (BPost w [] 0 16) := by
  unfold R3 at HN
  have hpk := fun w => packed_any (v : Int) (by omega) (by omega) w
  have hp0 : (0 : Int) ≤ ((v : Int) + 7) / 8 := by omega
  have hp1 : ((v : Int) + 7) / 8 ≤ 10000 := by omega
  generalize ((v : Int) + 7) / 8 = p at *
  have HP := Lib.hid hpk
  clear hpk
  rcases hcs with ⟨hm, rfl⟩ | ⟨hm, rfl⟩
  all_goals
    go_enter Tryd.func79, Tryd.ntmps79
    go_wp2_with fail
    refine HN.out.mono ?_
    rintro e w1 ⟨rfl, hb1⟩
    go_wp2_with fail
    refine (HP.out _).mono ?_
    rintro e w1' ⟨rfl, rfl⟩
    go_wp2
    go_ret3
    exact bpost_nil hb1

set_option maxHeartbeats 2000000 in
set_option maxRecDepth 100000 in
theorem bits_tail (s : ByteArray) (most m : Int) (v n : Nat) (hl : s.size ≤ 1000000000) (cb : Nat) (w : World) (hc : w.cell? ⟨cb, 0, none⟩ = some (.int .i64 most))
    (hcs : (most ≤ 65536 ∧ m = most) ∨ (65536 < most ∧ m = 65536)) (hv : v ≤ 65536) (hn9 : n ≤ 9)
    (hfit : n + (v + 7) / 8 ≤ s.size) (htl : 0 < v % 8 ∧ (bt s (n + (v + 7) / 8 - 1) * 2 ^ (v % 8)) % 256 ≠ 0)
    (HN : Hid (Calls Tryd.prog 77 #[.string s, .int .i64 m] w fun e w' => e = R3 ((v : Int), (n : Int), 0) ∧ Below w.heap.size w w')) :
    Calls Tryd.prog 79 #[.string s, .pointer (some ⟨cb, 0, none⟩)] w (BPost w [] 0 2) := by
  unfold R3 at HN
  obtain ⟨h8, htl⟩ := htl
  obtain ⟨p, hp⟩ : ∃ p : Nat, p = (v + 7) / 8 := ⟨_, rfl⟩
  rw [← hp] at hfit htl
  have hpk := fun w => packed_any (v : Int) (by omega) (by omega) w
  rw [show ((v : Int) + 7) / 8 = (p : Int) by omega] at hpk
  have HP := Lib.hid hpk
  have hfitI : ¬ (s.size : Int) < (n : Int) + (p : Int) := by omega
  have hp2 : p ≤ 10000 := by omega
  have h8I : (0 : Int) < (v : Int) % 8 := by omega
  obtain ⟨j, hj⟩ : ∃ j : Nat, j = n + p - 1 := ⟨_, rfl⟩
  have hx1 : j < s.size := by omega
  have hx2 : (n : Int) + (p : Int) - 1 = (j : Int) := by omega
  have hsh : (IntKind.u8.wrap ((s[j].toNat : Int) * 2 ^ (v % 8)) != 0) = true := by
    rw [bne_iff_ne, IntKind.wrap_u8, ← bt_in s j hx1, hj]
    exact htl
  have hsh2 : ((s[j].toNat : Int) * 2 ^ (v % 8) % 256 != 0) = true := by rw [← IntKind.wrap_u8]; exact hsh
  clear hpk htl hj hp
  rcases hcs with ⟨hm, rfl⟩ | ⟨hm, rfl⟩
  all_goals
    go_enter Tryd.func79, Tryd.ntmps79
    go_wp2_with fail
    refine HN.out.mono ?_
    rintro e w1 ⟨rfl, hb1⟩
    go_wp2_with fail
    refine (HP.out _).mono ?_
    rintro e w1' ⟨rfl, rfl⟩
    go_wp2
    go_ret3
    exact bpost_nil hb1

theorem bits_clo (s : ByteArray) (most : Int) (hl : s.size ≤ 1000000000) (cb : Nat) (w : World) (ht : Tab w) (hc : w.cell? ⟨cb, 0, none⟩ = some (.int .i64 most)) :
    Calls Tryd.prog 79 #[.string s, .pointer (some ⟨cb, 0, none⟩)] w (BPost w (bitR s most).1 (bitR s most).2.1 (bitR s most).2.2) := by
  have hn := count_read s (min most 65536) hl w ht
  have hbd := cntR_bd s (min most 65536)
  have her := cntR_err s (min most 65536)
  unfold bitR
  have hcs : (most ≤ 65536 ∧ min most 65536 = most) ∨ (65536 < most ∧ min most 65536 = 65536) := by omega
  have hm5 : min most 65536 ≤ 65536 := by omega
  generalize min most 65536 = m at *
  generalize cntR s m = r at *
  obtain ⟨v, n, x⟩ := r
  simp only at *
  by_cases hx : x = 0
  · subst hx
    obtain ⟨h0, h1, h2, h3, h4⟩ := hbd rfl
    obtain ⟨v, rfl⟩ := Int.eq_ofNat_of_zero_le h0
    obtain ⟨n, rfl⟩ := Int.eq_ofNat_of_zero_le h2
    rw [if_pos rfl]
    by_cases hf : (s.size : Int) < (n : Int) + ((v : Int) + 7) / 8
    · rw [if_pos hf]
      exact bits_short s most m v n hl cb w hc hcs (by omega) (by omega) hf hn
    rw [if_neg hf]
    have e1 : ((n : Int) + ((v : Int) + 7) / 8 - 1).toNat = n + (v + 7) / 8 - 1 := by omega
    have e2 : ((v : Int) % 8).toNat = v % 8 := by omega
    have e3 : (0 < (v : Int) % 8) ↔ 0 < v % 8 := by omega
    rw [e1, e2]
    simp only [e3]
    by_cases ht : 0 < v % 8 ∧ (bt s (n + (v + 7) / 8 - 1) * 2 ^ (v % 8)) % 256 ≠ 0
    · rw [if_pos ht]
      exact bits_tail s most m v n hl cb w hc hcs (by omega) (by omega) (by omega) ht hn
    · rw [if_neg ht, Int.toNat_natCast, Int.toNat_natCast]
      exact bits_core s most m v n hl cb w hc hcs (by omega) (by omega) (by omega) (by omega) ht hn
  · rw [if_neg hx]
    obtain ⟨rfl, rfl⟩ := her hx
    exact bits_err s most m x hl cb w hc hcs hx hn
end Go.Proofs.YtjjdfodjkoiedaaDoor
