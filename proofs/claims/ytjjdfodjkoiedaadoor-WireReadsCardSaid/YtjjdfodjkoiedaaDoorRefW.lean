/-
  The reference's writers: Sized, bytes, Size, Little, Signed.
-/
import Derived.Test.YtjjdfodjkoiedaaDoorWBits
import Derived.Test.YtjjdfodjkoiedaaDoorWMath3
set_option linter.unusedVariables false
namespace Go.Proofs.YtjjdfodjkoiedaaDoor
open Go.RowKit

set_option maxHeartbeats 400000 in
theorem sized_any (n : Int) (w : World) :
    Calls Tryd.prog 70 #[.int .i64 n] w fun e w' => e = .returned (.bool (isSz n)) ∧ w = w' := by
  have hfin : ∀ b : Bool, (b = true ↔ (n = 1 ∨ n = 2 ∨ n = 4 ∨ n = 8)) → b = isSz n := by
    intro b hb
    unfold isSz
    cases b
    · symm; rw [decide_eq_false_iff_not]; intro h; have := hb.2 h; cases this
    · symm; rw [decide_eq_true_eq]; exact hb.1 rfl
  have HF := Lib.hid hfin
  clear hfin
  go_enter Tryd.func70, Tryd.ntmps70
  go_wp2
  all_goals
    go_ret
    first
      | exact ⟨ret_bool (HF.out true (by simp; omega)), rfl⟩
      | exact ⟨ret_bool (HF.out (n == 1 || n == 2 || n == 4 || n == 8) (by simp [or_assoc])), rfl⟩
theorem sized_is (n : Int) (r : Bool) (h : isSz n = r) (w : World) :
    Calls Tryd.prog 70 #[.int .i64 n] w fun e w' => e = .returned (.bool r) ∧ w = w' := by subst h; exact sized_any n w

theorem own_conv {w : World} {B n : Nat} {v : Value} {bs : List UInt8} (h : w.ownsRow B 5 1 v n (u8s bs)) : (convert 64 9 v).run Tryd.prog w = .ok (.string ⟨bs.toArray⟩) w := by
  have hl := h.1
  rw [u8s_len, Nat.mul_one] at hl
  rcases h.2 with ⟨rfl, h0⟩ | ⟨g, cap, cur, rfl, _⟩
  · obtain rfl : bs = [] := List.eq_nil_of_length_eq_zero (by omega)
    exact Lib.run_convert_nil_bytes w _ _ _ 0 Tryd.underlying64 Tryd.underlying5 Tryd.underlying9
  · rw [← hl]
    exact run_convert_bytes_back w _ _ _ ⟨g, 0, none⟩ cap bs Tryd.underlying64 Tryd.underlying5 Tryd.underlying9 (fun j hj => by
      refine h.cells (g := g) rfl j _ ?_
      simp [u8s, hj])

theorem encLE_mod (n : Int) (k : Nat) (hk : k ≤ 8) : encLE (n % 18446744073709551616) k = encLE n k := by
  induction k with
  | zero => rfl
  | succ k ih =>
    rw [encLE, encLE, ih (by omega)]
    congr 2
    refine byteI_congr ?_
    rcases (by omega : k = 0 ∨ k = 1 ∨ k = 2 ∨ k = 3 ∨ k = 4 ∨ k = 5 ∨ k = 6 ∨ k = 7) with rfl | rfl | rfl | rfl | rfl | rfl | rfl | rfl
    all_goals omega

theorem div_step (u : Int) (k : Nat) : u / 2 ^ (8 * k) / 256 = u / 2 ^ (8 * (k + 1)) := by
  have hp : (0 : Int) ≤ 2 ^ (8 * k) := Int.le_of_lt (Int.pow_pos (by omega))
  rw [Int.ediv_ediv_of_nonneg hp]
  congr 1
  rw [show 8 * (k + 1) = 8 * k + 8 by omega, Int.pow_add]
  rfl

def ByRel (w : World) (u : Int) (size : Nat) (t b i : Value) (wr : World) : Prop :=
  ∃ k : Nat, k ≤ size ∧ i = .int .i64 k ∧ t = .int .u64 (u / 2 ^ (8 * k)) ∧ wr.ownsRow w.heap.size 5 1 b k (u8s (encLE u k)) ∧ Below w.heap.size w wr

set_option maxHeartbeats 1000000 in
set_option maxRecDepth 100000 in
theorem bytes_any (u : Int) (h0 : 0 ≤ u) (h1 : u < 18446744073709551616) (size : Nat) (hs : size ≤ 8) (w : World) :
    Calls Tryd.prog 71 #[.int .u64 u, .int .i64 (size : Int)] w fun e w' => e = .returned (.string ⟨(encLE u size).toArray⟩) ∧ Below w.heap.size w w' := by
  obtain ⟨i0, hi, hz0, hz1, hz2⟩ := info_parts infoU8
  have HI : Hid (0 ≤ u ∧ u < 18446744073709551616) := ⟨h0, h1⟩
  clear h0 h1
  go_enter Tryd.func71, Tryd.ntmps71
  go_wp2
  go_loopw [0, 5, 6] (fun t b i wr => ByRel w u size t b i wr) (fun _ _ i _ => size - (intOf i).toNat)
  case atStart =>
    refine ⟨0, Nat.zero_le _, rfl, by simp, ?_, (Below.refl _ _).alloc (Nat.le_refl _) _⟩
    exact World.ownsRow_made w #[] 0 (Nat.le_refl _) (by decide) rfl
  case round =>
    obtain ⟨k, hk, rfl, rfl, hown, hbel⟩ := hrel
    by_cases hlt : k < size
    · have hltI : (k : Int) < (size : Int) := by omega
      have hx : Hid (IntKind.u8.wrap (u / 2 ^ (8 * k)) = ((byteI (u / 2 ^ (8 * k))).toNat : Int)) := by
        show _ = _
        rw [IntKind.wrap_u8, byteI_nat]
      have hdv : Hid (u / 2 ^ (8 * k) / 256 = u / 2 ^ (8 * (k + 1))) := div_step u k
      have hba := hbel.size
      have hlk : (u8s (encLE u k)).length = k := by rw [u8s_len, encLE_len]
      have hen : Hid (u8s (encLE u (k + 1)) = u8s (encLE u k) ++ [.int .u8 ((byteI (u / 2 ^ (8 * k))).toNat : Int)]) := by
        show _ = _
        rw [encLE, u8s_append]; rfl
      generalize u / 2 ^ (8 * k) = q at *
      go_wp2_with (at_builtin; refine wpList_append_own _ rfl _ _ 64 rfl w.heap.size 5 i0 (.int .u8 0) 1 1 Tryd.underlying64 hi hz0 hz1 hz2 rfl (by decide) _ _ _ rfl (hown.alloc _) ⟨wr.heap.size, 0, none⟩ 1 1 [.int .u8 (IntKind.u8.wrap q)] rfl rfl ?c1 ?c2 ?c3 ?c4 ?c5 ?_)
      case c1 => exact news_one _ _ _
      case c2 => exact one_one _ _
      case c3 => unfold maxLen; omega
      case c4 => omega
      case c5 => simp; omega
      intro v' w2 hown' hgrow _
      have HO := Lib.hid hown'
      have HB := Lib.hid (((hbel.alloc hba _).grown hgrow (by simp; omega) (fun g hg => (hown.lt g hg).1)))
      clear hown' hgrow hown hbel hlk
      go_wp2
      go_roundw
      case rel => exact ⟨k + 1, by omega, by go_num, by rw [hdv.out], by rw [hen.out, ← hx.out]; exact HO.out, HB.out⟩
      case measure => simp [intOf]; omega
    · obtain rfl : k = size := by omega
      have hcv := own_conv hown
      clear hown
      go_wp2
      go_ret
      exact ⟨rfl, hbel⟩

/-- An answer of the reference: the bytes and the error. -/
def RfPost (w : World) (r : Int × List UInt8) (e : Ending) (w' : World) : Prop := e = .returned (.tuple #[.string ⟨r.2.toArray⟩, .int .i64 r.1]) ∧ Below w.heap.size w w'

theorem wrapU_bd (n : Int) : 0 ≤ IntKind.u64.wrap n ∧ IntKind.u64.wrap n < 18446744073709551616 := by rw [IntKind.wrap_u64]; omega
theorem bytes_of (n : Int) (size : Nat) (hs : size ≤ 8) (w : World) :
    Calls Tryd.prog 71 #[.int .u64 (IntKind.u64.wrap n), .int .i64 (size : Int)] w fun e w' => e = .returned (.string ⟨(encLE n size).toArray⟩) ∧ Below w.heap.size w w' := by
  have h := bytes_any (IntKind.u64.wrap n) (wrapU_bd n).1 (wrapU_bd n).2 size hs w
  rw [IntKind.wrap_u64, encLE_mod n size hs, ← IntKind.wrap_u64] at h
  exact h

set_option maxHeartbeats 4000000 in
set_option maxRecDepth 100000 in
theorem refLittle_any (n size : Int) (hn : I64 n) (w : World) :
    Calls Tryd.prog 35 #[.int .i64 n, .int .i64 size] w (RfPost w (litS n size)) := by
  unfold litS
  cases hz : isSz size
  · have HZ := Lib.hid (sized_is size false hz)
    simp only [Bool.false_eq_true, if_false]
    clear hz hn
    go_enter Tryd.func35, Tryd.ntmps35
    go_wp2_with fail
    refine (HZ.out _).mono ?_
    rintro e w1 ⟨rfl, rfl⟩
    go_wp2
    go_ret2
    exact ⟨rfl, Below.refl _ _⟩
  · have HZ := Lib.hid (sized_is size true hz)
    obtain ⟨s, rfl, hs⟩ := isSz_cases hz
    simp only [if_true, Int.toNat_natCast]
    unfold I64 at hn
    clear hz
    rcases hs with rfl | rfl | rfl | rfl
    · have e8 : (2 : Int) ^ (8 * 1) = 256 := by rfl
      rw [e8]
      by_cases hr : 0 ≤ n ∧ n < 256
      · rw [if_pos hr]
        obtain ⟨hr0, hr1⟩ := hr
        have HB := Lib.hid (fun w => bytes_any n hr0 (by omega) 1 (by omega) w)
        clear e8
        go_enter Tryd.func35, Tryd.ntmps35
        go_wp2_with fail
        refine (HZ.out _).mono ?_
        rintro e w1 ⟨rfl, rfl⟩
        go_wp2_with fail
        refine (HB.out _).mono ?_
        rintro e w1 ⟨rfl, hb⟩
        go_wp2
        go_ret2
        exact ⟨rfl, hb⟩
      · rw [if_neg hr]
        have hr' : n < 0 ∨ (0 ≤ n ∧ 256 ≤ n) := by omega
        clear e8 hr
        rcases hr' with hr | ⟨hr2, hr⟩
        · skip
          go_enter Tryd.func35, Tryd.ntmps35
          go_wp2_with fail
          refine (HZ.out _).mono ?_
          rintro e w1 ⟨rfl, rfl⟩
          go_wp2
          all_goals first
            | (exfalso; omega)
            | (go_ret2; exact ⟨rfl, Below.refl _ _⟩)
        · skip
          go_enter Tryd.func35, Tryd.ntmps35
          go_wp2_with fail
          refine (HZ.out _).mono ?_
          rintro e w1 ⟨rfl, rfl⟩
          go_wp2
          all_goals first
            | (exfalso; omega)
            | (go_ret2; exact ⟨rfl, Below.refl _ _⟩)
    · have e8 : (2 : Int) ^ (8 * 2) = 65536 := by rfl
      rw [e8]
      by_cases hr : 0 ≤ n ∧ n < 65536
      · rw [if_pos hr]
        obtain ⟨hr0, hr1⟩ := hr
        have HB := Lib.hid (fun w => bytes_any n hr0 (by omega) 2 (by omega) w)
        clear e8
        go_enter Tryd.func35, Tryd.ntmps35
        go_wp2_with fail
        refine (HZ.out _).mono ?_
        rintro e w1 ⟨rfl, rfl⟩
        go_wp2_with fail
        refine (HB.out _).mono ?_
        rintro e w1 ⟨rfl, hb⟩
        go_wp2
        go_ret2
        exact ⟨rfl, hb⟩
      · rw [if_neg hr]
        have hr' : n < 0 ∨ (0 ≤ n ∧ 65536 ≤ n) := by omega
        clear e8 hr
        rcases hr' with hr | ⟨hr2, hr⟩
        · skip
          go_enter Tryd.func35, Tryd.ntmps35
          go_wp2_with fail
          refine (HZ.out _).mono ?_
          rintro e w1 ⟨rfl, rfl⟩
          go_wp2
          all_goals first
            | (exfalso; omega)
            | (go_ret2; exact ⟨rfl, Below.refl _ _⟩)
        · skip
          go_enter Tryd.func35, Tryd.ntmps35
          go_wp2_with fail
          refine (HZ.out _).mono ?_
          rintro e w1 ⟨rfl, rfl⟩
          go_wp2
          all_goals first
            | (exfalso; omega)
            | (go_ret2; exact ⟨rfl, Below.refl _ _⟩)
    · have e8 : (2 : Int) ^ (8 * 4) = 4294967296 := by rfl
      rw [e8]
      by_cases hr : 0 ≤ n ∧ n < 4294967296
      · rw [if_pos hr]
        obtain ⟨hr0, hr1⟩ := hr
        have HB := Lib.hid (fun w => bytes_any n hr0 (by omega) 4 (by omega) w)
        clear e8
        go_enter Tryd.func35, Tryd.ntmps35
        go_wp2_with fail
        refine (HZ.out _).mono ?_
        rintro e w1 ⟨rfl, rfl⟩
        go_wp2_with fail
        refine (HB.out _).mono ?_
        rintro e w1 ⟨rfl, hb⟩
        go_wp2
        go_ret2
        exact ⟨rfl, hb⟩
      · rw [if_neg hr]
        have hr' : n < 0 ∨ (0 ≤ n ∧ 4294967296 ≤ n) := by omega
        clear e8 hr
        rcases hr' with hr | ⟨hr2, hr⟩
        · skip
          go_enter Tryd.func35, Tryd.ntmps35
          go_wp2_with fail
          refine (HZ.out _).mono ?_
          rintro e w1 ⟨rfl, rfl⟩
          go_wp2
          all_goals first
            | (exfalso; omega)
            | (go_ret2; exact ⟨rfl, Below.refl _ _⟩)
        · skip
          go_enter Tryd.func35, Tryd.ntmps35
          go_wp2_with fail
          refine (HZ.out _).mono ?_
          rintro e w1 ⟨rfl, rfl⟩
          go_wp2
          all_goals first
            | (exfalso; omega)
            | (go_ret2; exact ⟨rfl, Below.refl _ _⟩)
    · have e8 : (2 : Int) ^ (8 * 8) = 18446744073709551616 := by rfl
      rw [e8]
      by_cases hr : 0 ≤ n ∧ n < 18446744073709551616
      · rw [if_pos hr]
        obtain ⟨hr0, hr1⟩ := hr
        have HB := Lib.hid (fun w => bytes_any n hr0 (by omega) 8 (by omega) w)
        clear e8
        go_enter Tryd.func35, Tryd.ntmps35
        go_wp2_with fail
        refine (HZ.out _).mono ?_
        rintro e w1 ⟨rfl, rfl⟩
        go_wp2_with fail
        refine (HB.out _).mono ?_
        rintro e w1 ⟨rfl, hb⟩
        go_wp2
        go_ret2
        exact ⟨rfl, hb⟩
      · rw [if_neg hr]
        have hr' : n < 0 ∨ (0 ≤ n ∧ 18446744073709551616 ≤ n) := by omega
        clear e8 hr
        rcases hr' with hr | ⟨hr2, hr⟩
        · skip
          go_enter Tryd.func35, Tryd.ntmps35
          go_wp2_with fail
          refine (HZ.out _).mono ?_
          rintro e w1 ⟨rfl, rfl⟩
          go_wp2
          all_goals first
            | (exfalso; omega)
            | (go_ret2; exact ⟨rfl, Below.refl _ _⟩)
        · exfalso; omega

set_option maxHeartbeats 4000000 in
set_option maxRecDepth 100000 in
theorem refSigned_any (n size : Int) (hn : I64 n) (w : World) :
    Calls Tryd.prog 36 #[.int .i64 n, .int .i64 size] w (RfPost w (sigS n size)) := by
  unfold sigS
  cases hz : isSz size
  · have HZ := Lib.hid (sized_is size false hz)
    simp only [Bool.false_eq_true, if_false]
    clear hz hn
    go_enter Tryd.func36, Tryd.ntmps36
    go_wp2_with fail
    refine (HZ.out _).mono ?_
    rintro e w1 ⟨rfl, rfl⟩
    go_wp2
    go_ret2
    exact ⟨rfl, Below.refl _ _⟩
  · have HZ := Lib.hid (sized_is size true hz)
    obtain ⟨s, rfl, hs⟩ := isSz_cases hz
    simp only [if_true, Int.toNat_natCast]
    unfold I64 at hn
    have hsg := sgn_id n (8 * s) (by omega)
    clear hz
    rcases hs with rfl | rfl | rfl | rfl
    · have e8 : (2 : Int) ^ (8 * 1 - 1) = 128 := by rfl
      rw [e8] at hsg
      by_cases hr : -128 ≤ n ∧ n < 128
      · rw [if_pos (hsg.2 (by omega))]
        obtain ⟨hr0, hr1⟩ := hr
        clear e8 hsg
        rcases (by omega : 0 ≤ n ∨ n < 0) with h0 | h0
        · have HB := Lib.hid (fun w => bytes_any n h0 (by omega) 1 (by omega) w)
          go_enter Tryd.func36, Tryd.ntmps36
          go_wp2_with fail
          refine (HZ.out _).mono ?_
          rintro e w1 ⟨rfl, rfl⟩
          go_wp2_with fail
          refine (HB.out _).mono ?_
          rintro e w1 ⟨rfl, hb⟩
          go_wp2
          go_ret2
          exact ⟨rfl, hb⟩
        · have HB := Lib.hid (fun w => bytes_of n 1 (by omega) w)
          go_enter Tryd.func36, Tryd.ntmps36
          go_wp2_with fail
          refine (HZ.out _).mono ?_
          rintro e w1 ⟨rfl, rfl⟩
          go_wp2_with fail
          refine (HB.out _).mono ?_
          rintro e w1 ⟨rfl, hb⟩
          go_wp2
          go_ret2
          exact ⟨rfl, hb⟩
      · rw [if_neg (fun h => hr (by have := hsg.1 h; omega))]
        have hr' : n < -128 ∨ 128 ≤ n := by omega
        clear e8 hr hsg
        rcases hr' with hr | hr
        · skip
          go_enter Tryd.func36, Tryd.ntmps36
          go_wp2_with fail
          refine (HZ.out _).mono ?_
          rintro e w1 ⟨rfl, rfl⟩
          go_wp2
          all_goals first
            | (exfalso; omega)
            | (go_ret2; exact ⟨rfl, Below.refl _ _⟩)
        · skip
          go_enter Tryd.func36, Tryd.ntmps36
          go_wp2_with fail
          refine (HZ.out _).mono ?_
          rintro e w1 ⟨rfl, rfl⟩
          go_wp2
          all_goals first
            | (exfalso; omega)
            | (go_ret2; exact ⟨rfl, Below.refl _ _⟩)
    · have e8 : (2 : Int) ^ (8 * 2 - 1) = 32768 := by rfl
      rw [e8] at hsg
      by_cases hr : -32768 ≤ n ∧ n < 32768
      · rw [if_pos (hsg.2 (by omega))]
        obtain ⟨hr0, hr1⟩ := hr
        clear e8 hsg
        rcases (by omega : 0 ≤ n ∨ n < 0) with h0 | h0
        · have HB := Lib.hid (fun w => bytes_any n h0 (by omega) 2 (by omega) w)
          go_enter Tryd.func36, Tryd.ntmps36
          go_wp2_with fail
          refine (HZ.out _).mono ?_
          rintro e w1 ⟨rfl, rfl⟩
          go_wp2_with fail
          refine (HB.out _).mono ?_
          rintro e w1 ⟨rfl, hb⟩
          go_wp2
          go_ret2
          exact ⟨rfl, hb⟩
        · have HB := Lib.hid (fun w => bytes_of n 2 (by omega) w)
          go_enter Tryd.func36, Tryd.ntmps36
          go_wp2_with fail
          refine (HZ.out _).mono ?_
          rintro e w1 ⟨rfl, rfl⟩
          go_wp2_with fail
          refine (HB.out _).mono ?_
          rintro e w1 ⟨rfl, hb⟩
          go_wp2
          go_ret2
          exact ⟨rfl, hb⟩
      · rw [if_neg (fun h => hr (by have := hsg.1 h; omega))]
        have hr' : n < -32768 ∨ 32768 ≤ n := by omega
        clear e8 hr hsg
        rcases hr' with hr | hr
        · skip
          go_enter Tryd.func36, Tryd.ntmps36
          go_wp2_with fail
          refine (HZ.out _).mono ?_
          rintro e w1 ⟨rfl, rfl⟩
          go_wp2
          all_goals first
            | (exfalso; omega)
            | (go_ret2; exact ⟨rfl, Below.refl _ _⟩)
        · skip
          go_enter Tryd.func36, Tryd.ntmps36
          go_wp2_with fail
          refine (HZ.out _).mono ?_
          rintro e w1 ⟨rfl, rfl⟩
          go_wp2
          all_goals first
            | (exfalso; omega)
            | (go_ret2; exact ⟨rfl, Below.refl _ _⟩)
    · have e8 : (2 : Int) ^ (8 * 4 - 1) = 2147483648 := by rfl
      rw [e8] at hsg
      by_cases hr : -2147483648 ≤ n ∧ n < 2147483648
      · rw [if_pos (hsg.2 (by omega))]
        obtain ⟨hr0, hr1⟩ := hr
        clear e8 hsg
        rcases (by omega : 0 ≤ n ∨ n < 0) with h0 | h0
        · have HB := Lib.hid (fun w => bytes_any n h0 (by omega) 4 (by omega) w)
          go_enter Tryd.func36, Tryd.ntmps36
          go_wp2_with fail
          refine (HZ.out _).mono ?_
          rintro e w1 ⟨rfl, rfl⟩
          go_wp2_with fail
          refine (HB.out _).mono ?_
          rintro e w1 ⟨rfl, hb⟩
          go_wp2
          go_ret2
          exact ⟨rfl, hb⟩
        · have HB := Lib.hid (fun w => bytes_of n 4 (by omega) w)
          go_enter Tryd.func36, Tryd.ntmps36
          go_wp2_with fail
          refine (HZ.out _).mono ?_
          rintro e w1 ⟨rfl, rfl⟩
          go_wp2_with fail
          refine (HB.out _).mono ?_
          rintro e w1 ⟨rfl, hb⟩
          go_wp2
          go_ret2
          exact ⟨rfl, hb⟩
      · rw [if_neg (fun h => hr (by have := hsg.1 h; omega))]
        have hr' : n < -2147483648 ∨ 2147483648 ≤ n := by omega
        clear e8 hr hsg
        rcases hr' with hr | hr
        · skip
          go_enter Tryd.func36, Tryd.ntmps36
          go_wp2_with fail
          refine (HZ.out _).mono ?_
          rintro e w1 ⟨rfl, rfl⟩
          go_wp2
          all_goals first
            | (exfalso; omega)
            | (go_ret2; exact ⟨rfl, Below.refl _ _⟩)
        · skip
          go_enter Tryd.func36, Tryd.ntmps36
          go_wp2_with fail
          refine (HZ.out _).mono ?_
          rintro e w1 ⟨rfl, rfl⟩
          go_wp2
          all_goals first
            | (exfalso; omega)
            | (go_ret2; exact ⟨rfl, Below.refl _ _⟩)
    · have e8 : (2 : Int) ^ (8 * 8 - 1) = 9223372036854775808 := by rfl
      rw [e8] at hsg
      by_cases hr : -9223372036854775808 ≤ n ∧ n < 9223372036854775808
      · rw [if_pos (hsg.2 (by omega))]
        obtain ⟨hr0, hr1⟩ := hr
        clear e8 hsg
        rcases (by omega : 0 ≤ n ∨ n < 0) with h0 | h0
        · have HB := Lib.hid (fun w => bytes_any n h0 (by omega) 8 (by omega) w)
          go_enter Tryd.func36, Tryd.ntmps36
          go_wp2_with fail
          refine (HZ.out _).mono ?_
          rintro e w1 ⟨rfl, rfl⟩
          go_wp2_with fail
          refine (HB.out _).mono ?_
          rintro e w1 ⟨rfl, hb⟩
          go_wp2
          go_ret2
          exact ⟨rfl, hb⟩
        · have HB := Lib.hid (fun w => bytes_of n 8 (by omega) w)
          go_enter Tryd.func36, Tryd.ntmps36
          go_wp2_with fail
          refine (HZ.out _).mono ?_
          rintro e w1 ⟨rfl, rfl⟩
          go_wp2_with fail
          refine (HB.out _).mono ?_
          rintro e w1 ⟨rfl, hb⟩
          go_wp2
          go_ret2
          exact ⟨rfl, hb⟩
      · exfalso; omega
end Go.Proofs.YtjjdfodjkoiedaaDoor
