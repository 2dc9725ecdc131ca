/-
  digest.extended, Crc, Extend.
-/
import Derived.Test.YthhaofdnbemogaaDoorByte
set_option linter.unusedVariables false
namespace Go.Proofs.YthhaofdnbemogaaDoor
open Go.RowKit

theorem ret_int {k : IntKind} {a b : Int} (h : a = b) : Ending.returned (.int k a) = .returned (.int k b) := by rw [h]
theorem ret_bool {a b : Bool} (h : a = b) : Ending.returned (.bool a) = .returned (.bool b) := by rw [h]
def crcBit (c : Int) : Int := if bits .and .u32 c 1 = 1 then bits .xor .u32 (c / 2) 3988292384 else c / 2
def crcBits (c : Int) : Nat → Int
  | 0 => c
  | k + 1 => crcBit (crcBits c k)
def crcK (c : Int) (l : List UInt8) : Nat → Int
  | 0 => c
  | k + 1 => crcBits (bits .xor .u32 (crcK c l k) (byt l k)) 8
def notW (c : Int) : Int := bits .xor .u32 IntKind.u32.max c
def crcX (c : Int) (l : List UInt8) : Int := notW (crcK (notW c) l l.length)

def CrcRel (s : ByteArray) (c0 : Int) (c i : Value) (w w' : World) : Prop :=
  ∃ k : Nat, k ≤ s.size ∧ i = .int .i64 (k : Int) ∧ c = .int .u32 (crcK c0 s.data.toList k) ∧ w = w'
def BitRelC (c0 : Int) (c i : Value) : Prop := ∃ j : Nat, j ≤ 8 ∧ i = .int .i64 (j : Int) ∧ c = .int .u32 (crcBits c0 j)

set_option maxHeartbeats 2000000 in
set_option maxRecDepth 100000 in
theorem extended_any (c : Int) (s : ByteArray) (hs : s.size ≤ 1000000000) (w : World) :
    Calls Tryd.prog 60 #[.int .u32 c, .string s] w fun e w' => e = .returned (.int .u32 (crcX c s.data.toList)) ∧ w = w' := by
  go_enter Tryd.func60, Tryd.ntmps60
  go_wp2
  go_loop [0, 5, 6, 11] (fun c' _ _ i => CrcRel s (notW c) c' i w w) (fun _ _ _ i => s.size - (intOf i).toNat)
  case atStart => exact ⟨0, Nat.zero_le _, rfl, rfl, rfl⟩
  case round =>
    obtain ⟨k, hk, rfl, rfl, _⟩ := hrel
    by_cases hlt : k < s.size
    · have hltI : (k : Int) < (s.size : Int) := by omega
      have hb := byt_at s k hlt
      have hst : Hid (crcK (notW c) s.data.toList (k + 1) = crcBits (bits .xor .u32 (crcK (notW c) s.data.toList k) (byt s.data.toList k)) 8) := rfl
      generalize crcK (notW c) s.data.toList k = x at *
      go_wp2_with fail
      obtain ⟨y, hy⟩ : ∃ y, y = bits .xor .u32 x (byt s.data.toList k) := ⟨_, rfl⟩
      rw [← hy] at hst ⊢
      have HY := Lib.hid hy
      clear hy hb
      go_loop [0, 6, 20] (fun c' _ i => BitRelC y c' i) (fun _ _ i => 8 - (intOf i).toNat)
      case atStart => exact ⟨0, Nat.zero_le _, rfl, rfl⟩
      case round =>
        obtain ⟨j, hj, rfl, rfl⟩ := hrel
        by_cases hjl : j < 8
        · have hjI : (j : Int) < 8 := by omega
          have hbs : Hid (crcBits y (j + 1) = crcBit (crcBits y j)) := rfl
          generalize crcBits y j = z at *
          by_cases hbit : bits .and .u32 z 1 = 1
          · have hcb : Hid (crcBit z = bits .xor .u32 (z / 2) 3988292384) := Lib.hid (if_pos hbit)
            go_wp2_with fail
            go_round
            case rel => exact ⟨j + 1, by omega, by go_num, by rw [hbs.out, hcb.out]⟩
            case measure => simp [intOf]; omega
          · have hcb : Hid (crcBit z = z / 2) := Lib.hid (if_neg hbit)
            have hbn : (bits .and .u32 z 1 == 1) = false := by simpa using hbit
            go_wp2_with fail
            go_round
            case rel => exact ⟨j + 1, by omega, by go_num, by rw [hbs.out, hcb.out]⟩
            case measure => simp [intOf]; omega
        · obtain rfl : j = 8 := by omega
          go_wp2
          go_round
          case rel => exact ⟨k + 1, by omega, by go_num, by rw [hst.out], rfl⟩
          case measure => simp [intOf]; omega
    · obtain rfl : k = s.size := by omega
      have e : Hid (crcX c s.data.toList = notW (crcK (notW c) s.data.toList s.size)) := Lib.hid (by unfold crcX; simp)
      go_wp2
      go_ret
      exact ⟨ret_int (e.out.symm), rfl⟩
end Go.Proofs.YthhaofdnbemogaaDoor
