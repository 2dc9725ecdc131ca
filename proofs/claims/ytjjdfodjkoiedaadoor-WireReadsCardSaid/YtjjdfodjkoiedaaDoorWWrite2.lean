/-
  wire.Writer: Little, Signed.
-/
import Derived.Test.YtjjdfodjkoiedaaDoorWWrite
set_option linter.unusedVariables false
namespace Go.Proofs.YtjjdfodjkoiedaaDoor
open Go.RowKit

theorem isSize_is (n : Int) (r : Bool) (h : isSz n = r) (w : World) :
    Calls Tryd.prog 64 #[.int .i64 n] w fun e w' => e = .returned (.bool r) ∧ w = w' := by subst h; exact isSize_any n w

/-- A writer's answer: the error, and what it holds behind the call. -/
def WPost (w : World) (wb B : Nat) (v : Value) (bs : List UInt8) (r : Int × List UInt8) (e : Ending) (w' : World) : Prop :=
  e = .returned (.int .i64 r.1) ∧ ∃ v', WAt w' wb B v' (bs ++ r.2) ∧ WStep w w' wb v v'

theorem wpost_same {w : World} {wb B : Nat} {v : Value} {bs : List UInt8} {r : Int} (h : WAt w wb B v bs) : WPost w wb B v bs (r, []) (.returned (.int .i64 r)) w :=
  ⟨rfl, v, by simpa using h, WStep.refl _ _ _⟩

set_option maxHeartbeats 1000000 in
set_option maxRecDepth 100000 in
theorem little_any (wb B : Nat) (v : Value) (bs : List UInt8) (n size : Int) (hl : bs.length ≤ 1000000000) (w : World) (h : WAt w wb B v bs) :
    Calls Tryd.prog 40 #[.pointer (some ⟨wb, 0, none⟩), .int .i64 n, .int .i64 size] w (WPost w wb B v bs (litS n size)) := by
  unfold litS
  cases hz : isSz size
  · have HZ := Lib.hid (isSize_is size false hz)
    have HF := Lib.hid (wpost_same (r := 1) h)
    simp only [Bool.false_eq_true, if_false]
    clear hz h
    go_enter Tryd.func40, Tryd.ntmps40
    go_wp2_with fail
    refine (HZ.out _).mono ?_
    rintro e w1 ⟨rfl, rfl⟩
    go_wp2
    go_ret
    exact HF.out
  · have HZ := Lib.hid (isSize_is size true hz)
    obtain ⟨s, rfl, hs⟩ := isSz_cases hz
    have hs8 : s ≤ 8 := by omega
    simp only [if_true, Int.toNat_natCast]
    have hd := div_zero_iff n (8 * s)
    have e8 : (8 * (s : Int)).toNat = 8 * s := by omega
    have HL := Lib.hid (low_any wb B v bs n s hs8 hl w h)
    have HF := Lib.hid (wpost_same (r := 11) h)
    by_cases hr : 0 ≤ n ∧ n < 2 ^ (8 * s)
    · rw [if_pos hr]
      have hq : (n / 2 ^ (8 * s) != 0) = false := by rw [bne_eq_false_iff_eq]; exact hd.2 hr
      clear hz h hs hd e8 hr
      go_enter Tryd.func40, Tryd.ntmps40
      go_wp2_with fail
      refine (HZ.out _).mono ?_
      rintro e w1 ⟨rfl, rfl⟩
      go_wp2_with fail
      refine HL.out.mono ?_
      rintro e w1 ⟨rfl, hp⟩
      go_wp2
      go_ret
      exact ⟨rfl, hp⟩
    · rw [if_neg hr]
      have hq : (n / 2 ^ (8 * s) != 0) = true := by rw [bne_iff_ne]; exact fun e => hr (hd.1 e)
      clear hz h hs hd e8 hr
      go_enter Tryd.func40, Tryd.ntmps40
      go_wp2_with fail
      refine (HZ.out _).mono ?_
      rintro e w1 ⟨rfl, rfl⟩
      go_wp2
      go_ret
      exact HF.out

set_option maxHeartbeats 1000000 in
set_option maxRecDepth 100000 in
theorem signedW_any (wb B : Nat) (v : Value) (bs : List UInt8) (n size : Int) (hl : bs.length ≤ 1000000000) (w : World) (h : WAt w wb B v bs) :
    Calls Tryd.prog 31 #[.pointer (some ⟨wb, 0, none⟩), .int .i64 n, .int .i64 size] w (WPost w wb B v bs (sigS n size)) := by
  unfold sigS
  cases hz : isSz size
  · have HZ := Lib.hid (isSize_is size false hz)
    have HF := Lib.hid (wpost_same (r := 1) h)
    simp only [Bool.false_eq_true, if_false]
    clear hz h
    go_enter Tryd.func31, Tryd.ntmps31
    go_wp2_with fail
    refine (HZ.out _).mono ?_
    rintro e w1 ⟨rfl, rfl⟩
    go_wp2
    go_ret
    exact HF.out
  · have HZ := Lib.hid (isSize_is size true hz)
    obtain ⟨s, rfl, hs⟩ := isSz_cases hz
    have hs8 : s ≤ 8 := by omega
    have hs1 : 1 ≤ s := by omega
    simp only [if_true, Int.toNat_natCast]
    have e8 : (8 * (s : Int)).toNat = 8 * s := by omega
    have hf := fun r h => fits_is n (8 * (s : Int)) r (by omega) (by omega) h
    rw [e8] at hf
    unfold fitsB at hf
    have HL := Lib.hid (low_any wb B v bs n s hs8 hl w h)
    have HF := Lib.hid (wpost_same (r := 11) h)
    by_cases hr : sgn n (8 * s) = n
    · rw [if_pos hr]
      have HB := Lib.hid (hf true (decide_eq_true hr))
      clear hz h hs hf e8 hr
      go_enter Tryd.func31, Tryd.ntmps31
      go_wp2_with fail
      refine (HZ.out _).mono ?_
      rintro e w1 ⟨rfl, rfl⟩
      go_wp2_with fail
      refine (HB.out _).mono ?_
      rintro e w1 ⟨rfl, rfl⟩
      go_wp2_with fail
      refine HL.out.mono ?_
      rintro e w1 ⟨rfl, hp⟩
      go_wp2
      go_ret
      exact ⟨rfl, hp⟩
    · rw [if_neg hr]
      have HB := Lib.hid (hf false (decide_eq_false hr))
      clear hz h hs hf e8 hr
      go_enter Tryd.func31, Tryd.ntmps31
      go_wp2_with fail
      refine (HZ.out _).mono ?_
      rintro e w1 ⟨rfl, rfl⟩
      go_wp2_with fail
      refine (HB.out _).mono ?_
      rintro e w1 ⟨rfl, rfl⟩
      go_wp2
      go_ret
      exact HF.out
end Go.Proofs.YtjjdfodjkoiedaaDoor
