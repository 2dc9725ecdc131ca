/-
  digest.Crc, Extend; acheronref03.Crc.
-/
import Derived.Test.YthhaofdnbemogaaDoorByte
import Derived.Test.YthhaofdnbemogaaDoorCrc
set_option linter.unusedVariables false
namespace Go.Proofs.YthhaofdnbemogaaDoor
open Go.RowKit

theorem wraps_u32 (n : Int) (h₀ : 0 ≤ n) (h₁ : n < 2 ^ 32) : IntKind.u32.wrap n = n := by
  have h32 : (2 : Int) ^ 32 = 4294967296 := by rfl
  rw [IntKind.wrap_u32]; omega
theorem and32i (x : Int) (h0 : 0 ≤ x) (h : x < 4294967296) : bits .and .u32 x 1 = x % 2 :=
  bits_mask .u32 32 (by decide) wraps_u32 1 (by decide) x h0 (by show _ < (4294967296 : Int); omega)
theorem bits32 (op : BinOp) (x y : Int) : 0 ≤ bits op .u32 x y ∧ bits op .u32 x y < 4294967296 := by
  unfold bits
  rw [IntKind.wrap_u32]
  omega
theorem crcX_bd (c : Int) (l : List UInt8) : 0 ≤ crcX c l ∧ crcX c l < 4294967296 := by
  unfold crcX notW
  exact bits32 _ _ _
theorem crcBit_bd (c : Int) (h : 0 ≤ c ∧ c < 4294967296) : 0 ≤ crcBit c ∧ crcBit c < 4294967296 := by
  unfold crcBit
  split
  · exact bits32 _ _ _
  · omega
theorem crcBits_bd (c : Int) (h : 0 ≤ c ∧ c < 4294967296) (k : Nat) : 0 ≤ crcBits c k ∧ crcBits c k < 4294967296 := by
  induction k with
  | zero => exact h
  | succ k ih => exact crcBit_bd _ ih

theorem crc_any (s : ByteArray) (hs : s.size ≤ 1000000000) (w : World) : Calls Tryd.prog 28 #[.string s] w fun e w' => e = .returned (.int .i64 (crcX 0 s.data.toList)) ∧ w = w' := by
  have HE := Lib.hid (extended_any 0 s hs w)
  have hb := crcX_bd 0 s.data.toList
  generalize crcX 0 s.data.toList = x at *
  go_enter Tryd.func28, Tryd.ntmps28
  go_wp2_with fail
  refine HE.out.mono ?_
  rintro e w1 ⟨rfl, rfl⟩
  go_wp2_with fail
  go_ret
  exact ⟨rfl, rfl⟩

theorem extend_no (c : Int) (h : c < 0 ∨ 4294967295 < c) (s : ByteArray) (w : World) : Calls Tryd.prog 27 #[.int .i64 c, .string s] w fun e w' => e = .returned (.tuple #[.int .i64 0, .int .i64 11]) ∧ w = w' := by
  rcases h with h | h
  · go_enter Tryd.func27, Tryd.ntmps27
    go_wp2
    go_ret2
    exact ⟨rfl, rfl⟩
  · have h0 : ¬ c < 0 := by omega
    go_enter Tryd.func27, Tryd.ntmps27
    go_wp2
    go_ret2
    exact ⟨rfl, rfl⟩
theorem extend_yes (c : Int) (h0 : 0 ≤ c) (h1 : c < 4294967296) (s : ByteArray) (hs : s.size ≤ 1000000000) (w : World) : Calls Tryd.prog 27 #[.int .i64 c, .string s] w fun e w' => e = .returned (.tuple #[.int .i64 (crcX c s.data.toList), .int .i64 0]) ∧ w = w' := by
  have HE := Lib.hid (extended_any c s hs w)
  have hb := crcX_bd c s.data.toList
  generalize crcX c s.data.toList = x at *
  have i0 : ¬ c < 0 := by omega
  have i1 : ¬ 4294967295 < c := by omega
  have hw : IntKind.u32.wrap c = c := by rw [IntKind.wrap_u32]; omega
  have hw2 : c % 4294967296 = c := by omega
  go_enter Tryd.func27, Tryd.ntmps27
  go_wp2_with fail
  refine HE.out.mono ?_
  rintro e w1 ⟨rfl, rfl⟩
  go_wp2_with fail
  go_ret2
  exact ⟨rfl, rfl⟩


set_option maxHeartbeats 2000000 in
set_option maxRecDepth 100000 in
theorem refCrc_any (s : ByteArray) (hs : s.size ≤ 1000000000) (w : World) :
    Calls Tryd.prog 29 #[.string s] w fun e w' => e = .returned (.int .i64 (crcX 0 s.data.toList)) ∧ w = w' := by
  have hn : notW 0 = 4294967295 := by decide
  have HN := Lib.hid hn
  clear hn
  go_enter Tryd.func29, Tryd.ntmps29
  go_wp2
  go_loop [3, 4, 5] (fun c i _ => CrcRel s (notW 0) c i w w) (fun _ i _ => s.size - (intOf i).toNat)
  case atStart => exact ⟨0, Nat.zero_le _, rfl, by rw [crcK, HN.out], rfl⟩
  case round =>
    obtain ⟨k, hk, rfl, rfl, _⟩ := hrel
    by_cases hlt : k < s.size
    · have hltI : (k : Int) < (s.size : Int) := by omega
      have hb := byt_at s k hlt
      have hst : Hid (crcK (notW 0) s.data.toList (k + 1) = crcBits (bits .xor .u32 (crcK (notW 0) s.data.toList k) (byt s.data.toList k)) 8) := rfl
      generalize crcK (notW 0) s.data.toList k = x at *
      go_wp2_with fail
      obtain ⟨y, hy⟩ : ∃ y, y = bits .xor .u32 x (byt s.data.toList k) := ⟨_, rfl⟩
      have hyb : 0 ≤ y ∧ y < 4294967296 := by rw [hy]; exact bits32 _ _ _
      rw [← hy] at hst ⊢
      have HY := Lib.hid hy
      have HYB := Lib.hid hyb
      clear hy hb hyb
      go_loop [3, 5] (fun c' i => BitRelC y c' i) (fun _ i => 8 - (intOf i).toNat)
      case atStart => exact ⟨0, Nat.zero_le _, rfl, rfl⟩
      case round =>
        obtain ⟨j, hj, rfl, rfl⟩ := hrel
        by_cases hjl : j < 8
        · have hjI : (j : Int) < 8 := by omega
          have hzb := crcBits_bd y HYB.out j
          have hbs : Hid (crcBits y (j + 1) = crcBit (crcBits y j)) := rfl
          generalize crcBits y j = z at *
          have hz0 := hzb.1
          have hz1 := hzb.2
          have ha := and32i z hz0 hz1
          clear hzb
          by_cases hbit : z % 2 = 1
          · have hcb : Hid (crcBit z = bits .xor .u32 (z / 2) 3988292384) := Lib.hid (if_pos (by rw [ha]; exact hbit))
            have hm2 : z.tmod 2 = 1 := by rw [Int.tmod_eq_emod_of_nonneg hz0]; exact hbit
            clear ha
            go_wp2_with fail
            go_round
            case rel => exact ⟨j + 1, by omega, by go_num, by rw [hbs.out, hcb.out]⟩
            case measure => simp [intOf]; omega
          · have hm : z % 2 = 0 := by omega
            have hcb : Hid (crcBit z = z / 2) := Lib.hid (if_neg (by rw [ha]; exact hbit))
            have hm2 : z.tmod 2 = 0 := by rw [Int.tmod_eq_emod_of_nonneg hz0]; exact hm
            clear ha hbit
            go_wp2_with fail
            go_round
            case rel => exact ⟨j + 1, by omega, by go_num, by rw [hbs.out, hcb.out]⟩
            case measure => simp [intOf]; omega
        · obtain rfl : j = 8 := by omega
          go_wp2
          go_round
          case rel => exact ⟨k + 1, by omega, by go_num, by rw [hst.out], rfl⟩
          case measure => simp [intOf]; omega
    · obtain rfl : k = s.size := by omega
      have e : Hid (crcX 0 s.data.toList = notW (crcK (notW 0) s.data.toList s.size)) := Lib.hid (by unfold crcX; simp)
      have hbd := bits32 .xor IntKind.u32.max (crcK (notW 0) s.data.toList s.size)
      have E := e
      clear e
      obtain ⟨q, hq⟩ : ∃ q, bits .xor .u32 IntKind.u32.max (crcK (notW 0) s.data.toList s.size) = q := ⟨_, rfl⟩
      have HQ := Lib.hid hq
      rw [hq] at hbd
      have q0 := hbd.1
      have q1 := hbd.2
      clear hbd
      go_wp2
      go_ret
      exact ⟨ret_int (by rw [E.out]; show wrap64 q = bits .xor .u32 IntKind.u32.max (crcK (notW 0) s.data.toList s.size); rw [HQ.out]; unfold wrap64; omega), rfl⟩
end Go.Proofs.YthhaofdnbemogaaDoor
