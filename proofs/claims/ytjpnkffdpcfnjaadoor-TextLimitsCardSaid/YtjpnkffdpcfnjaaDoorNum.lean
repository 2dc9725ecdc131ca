/-
  Escapes with digits: text.numberedChar by a plain function.
-/
import Derived.Test.YtjpnkffdpcfnjaaDoorEsc
set_option linter.unusedVariables false
namespace Go.Proofs.YtjpnkffdpcfnjaaDoor
open Go.RowKit

/-- What is read behind the letter of an escape with digits: the character, the place behind it or of the error, the error. -/
def numG (s : ByteArray) (letter : Nat) : Nat → Nat → Int → Int × Nat × Int
  | 0, a, c => if okc c then (c, a, 0) else (0, letter, 11)
  | k + 1, a, c => if s.size ≤ a then (0, s.size, 16) else if hexv (byteAt s a) < 0 then (0, a, 9) else numG s letter k (a + 1) (16 * c + hexv (byteAt s a))

theorem wraps_i64' (n : Int) (h₀ : 0 ≤ n) (h₁ : n < 2 ^ 63) : IntKind.i64.wrap n = n := IntWalk.i64_in n (by omega)
theorem or_hex (c d : Int) (c0 : 0 ≤ c) (c1 : c < 16777216) (d0 : 0 ≤ d) (d1 : d < 16) : bits .or .i64 (c * 16) d = 16 * c + d := by
  rw [show c * 16 = 16 * c by omega]
  exact bits_join .i64 63 (by decide) wraps_i64' 4 (16 * c) d (by omega) (by show _ % (16 : Int) = 0; omega) (by show _ < (9223372036854775808 : Int); omega) d0 (by show _ < (16 : Int); omega) (by show _ < (9223372036854775808 : Int); omega)

def NumRel (s : ByteArray) (letter digits : Nat) (R : Int × Nat × Int) (c i : Value) : Prop :=
  ∃ (k a : Nat) (z : Int), i = .int .i64 (a : Int) ∧ c = .int .i64 z ∧ a + k = letter + 1 + digits ∧ numG s letter k a z = R ∧ 0 ≤ z ∧ z * 16 ^ k + 16 ^ k ≤ 16777216 ∧ a ≤ s.size ∧ k ≤ 6

theorem num_bound {z d : Int} {k : Nat} (hz : 0 ≤ z) (hd0 : 0 ≤ d) (hd : d < 16) (h : z * 16 ^ (k + 1) + 16 ^ (k + 1) ≤ 16777216) : (16 * z + d) * 16 ^ k + 16 ^ k ≤ 16777216 := by
  have hp : (0 : Int) < 16 ^ k := Int.pow_pos (by omega)
  have e : (16 : Int) ^ (k + 1) = 16 ^ k * 16 := Int.pow_succ _ _
  rw [e] at h
  have : (16 * z + d) * 16 ^ k + 16 ^ k = (16 * z + (d + 1)) * 16 ^ k := by rw [Int.add_mul, Int.add_mul, Int.add_mul]; omega
  rw [this]
  have h2 : z * (16 ^ k * 16) + 16 ^ k * 16 = (16 * z + 16) * 16 ^ k := by
    rw [Int.add_mul, Int.mul_comm (16 : Int) z, Int.mul_assoc, Int.mul_comm (16 ^ k) 16]
  rw [h2] at h
  exact Int.le_trans (Int.mul_le_mul_of_nonneg_right (by omega) (Int.le_of_lt hp)) h

theorem num_le {z : Int} {k : Nat} (hz : 0 ≤ z) (h : z * 16 ^ k + 16 ^ k ≤ 16777216) : z < 16777216 := by
  have hp : (1 : Int) ≤ 16 ^ k := Int.pow_pos (n := (16 : Int)) (by omega)
  have : z * 1 ≤ z * 16 ^ k := Int.mul_le_mul_of_nonneg_left hp hz
  omega

set_option maxHeartbeats 1000000 in
theorem numbered_any (s : ByteArray) (hs : s.size ≤ 1000000000) (letter digits : Nat) (hl : letter < s.size) (hd : digits ≤ 6) (w : World) :
    Calls Tryd.prog 66 #[.string s, .int .i64 letter, .int .i64 digits] w fun e w' => e = .returned (.tuple #[.int .i32 (numG s letter digits (letter + 1) 0).1, .int .i64 ((numG s letter digits (letter + 1) 0).2.1 : Int), .int .i64 (numG s letter digits (letter + 1) 0).2.2]) ∧ w = w' := by
  obtain ⟨R, hR⟩ : ∃ R, R = numG s letter digits (letter + 1) 0 := ⟨_, rfl⟩
  rw [← hR]
  have h0 : NumRel s letter digits R (.int .i64 0) (.int .i64 ((letter : Int) + 1)) := ⟨digits, letter + 1, 0, rfl, rfl, rfl, hR.symm, by omega, by
    rcases (by omega : digits = 0 ∨ digits = 1 ∨ digits = 2 ∨ digits = 3 ∨ digits = 4 ∨ digits = 5 ∨ digits = 6) with rfl | rfl | rfl | rfl | rfl | rfl | rfl <;> decide, by omega, hd⟩
  have H0 := Lib.hid h0
  have hw1 : IntKind.i64.wrap ((letter : Int) + 1) = (letter : Int) + 1 := IntWalk.i64_in _ (by omega)
  have hw2 : IntKind.i64.wrap ((letter : Int) + 1 + (digits : Int)) = (letter : Int) + 1 + (digits : Int) := IntWalk.i64_in _ (by omega)
  clear h0 hR
  have hsI : (s.size : Int) ≤ 1000000000 := by omega
  go_enter Tryd.func66, Tryd.ntmps66
  go_wp2
  clear hw1 hw2
  go_loop [9, 11, 12] (fun c i _ => NumRel s letter digits R c i) (fun _ i _ => letter + 1 + digits - (intOf i).toNat)
  case atStart => exact H0.out
  case round =>
    obtain ⟨k, a, z, rfl, rfl, hak, hG, hz0, hzk, has, hk6⟩ := hrel
    have hzm := num_le hz0 hzk
    have HZK := Lib.hid hzk
    have HZM := Lib.hid hzm
    have HG := Lib.hid hG
    have HK6 := Lib.hid hk6
    clear hzk hzm hG hk6
    cases k with
    | zero =>
      have hend : (letter : Int) + 1 + (digits : Int) = (a : Int) := by omega
      have hG := HG.out
      unfold numG at hG
      cases hok : okc z
      · rw [hok, if_neg (by decide)] at hG
        have HNO := Lib.hid (isChar_no z hok)
        clear hok
        subst hG
        go_wp2_with fail
        refine (HNO.out _).mono ?_
        rintro e w1 ⟨rfl, rfl⟩
        go_wp2
        go_ret3
        exact ⟨rfl, rfl⟩
      · rw [hok, if_pos rfl] at hG
        have HYES := Lib.hid (isChar_yes z hok)
        have hcv : IntKind.i32.wrap z = z := by unfold okc at hok; have := of_decide_eq_true hok; rw [IntKind.wrap_i32]; omega
        clear hok
        subst hG
        go_wp2_with fail
        refine (HYES.out _).mono ?_
        rintro e w1 ⟨rfl, rfl⟩
        go_wp2
        go_ret3
        exact ⟨rfl, rfl⟩
    | succ k =>
      have hlt : (a : Int) < (letter : Int) + 1 + (digits : Int) := by omega
      by_cases hsz : s.size ≤ a
      · have hG := HG.out
        unfold numG at hG
        rw [if_pos hsz] at hG
        obtain rfl : a = s.size := by omega
        subst hG
        clear hsz
        go_wp2
        go_ret3
        exact ⟨rfl, rfl⟩
      · have hG := HG.out
        unfold numG at hG
        rw [if_neg hsz] at hG
        have hai : a < s.size := by omega
        have hne : ((a : Int) == (s.size : Int)) = false := by simp; omega
        have hb := byteAt_eq s a hai
        have hbl := byteAt_lt s a
        have hdv := digitValue_any (s[a].toNat : Int) (by omega) (by omega)
        rw [hb, Int.toNat_natCast] at hdv
        have hr := hexv_range (byteAt s a)
        have hw1 : IntKind.i64.wrap ((a : Int) + 1) = (a : Int) + 1 := IntWalk.i64_in _ (by omega)
        generalize hexv (byteAt s a) = d at *
        have HDV := Lib.hid hdv
        by_cases hneg : d < 0
        · rw [if_pos hneg] at hG
          subst hG
          clear hdv hsz hbl hr
          go_wp2_with fail
          try rw [hb]
          refine (HDV.out _).mono ?_
          rintro e w1 ⟨rfl, rfl⟩
          go_wp2
          go_ret3
          exact ⟨rfl, rfl⟩
        · rw [if_neg hneg] at hG
          have HG2 := Lib.hid hG
          have hsh : IntKind.i64.wrap (z * 16) = z * 16 := IntWalk.i64_in _ (by have := HZM.out; omega)
          have hor := or_hex z d hz0 HZM.out (by omega) hr.2
          have HB2 := Lib.hid (num_bound hz0 (by omega) hr.2 HZK.out)
          have HR := Lib.hid hr
          clear hdv hsz hbl hr hG
          go_wp2_with fail
          try rw [hb]
          refine (HDV.out _).mono ?_
          rintro e w1 ⟨rfl, rfl⟩
          go_wp2
          go_round
          case rel =>
            refine ⟨k, a + 1, 16 * z + d, by go_num, rfl, by omega, HG2.out, by have := HR.out; omega, HB2.out, by omega, by have := HK6.out; omega⟩
          case measure => simp [intOf]; omega
end Go.Proofs.YtjpnkffdpcfnjaaDoor
