/-
  digest.Hex.
-/
import Derived.Test.YthhaofdnbemogaaDoorByte
set_option linter.unusedVariables false
namespace Go.Proofs.YthhaofdnbemogaaDoor
open Go.RowKit

def hexT : List UInt8 := [48, 49, 50, 51, 52, 53, 54, 55, 56, 57, 97, 98, 99, 100, 101, 102]
def hexC (n : Nat) : UInt8 := hexT.getD n 0
def hexL (l : List UInt8) : List UInt8 := (l.map fun b => [hexC (b.toNat / 16), hexC (b.toNat % 16)]).flatten
theorem hexL_len (l : List UInt8) : (hexL l).length = 2 * l.length := by
  induction l with
  | nil => rfl
  | cons a l ih => simp only [hexL, List.map_cons, List.flatten_cons, List.length_append, List.length_cons, List.length_nil] at *; omega
theorem hexL_snoc (l : List UInt8) (b : UInt8) : hexL (l ++ [b]) = hexL l ++ [hexC (b.toNat / 16), hexC (b.toNat % 16)] := by simp [hexL]

def HexRel (w : World) (s : ByteArray) (v i : Value) (wr : World) : Prop :=
  ∃ k : Nat, k ≤ s.size ∧ i = .int .i64 (k : Int) ∧ wr.ownsRow w.heap.size 5 1 v (2 * k) (u8s (hexL (s.data.toList.take k))) ∧ Below w.heap.size w wr

theorem hex_index (d : Nat) (hd : d < 16) (w : World) : (Instr.index 9 (.string ⟨#[48, 49, 50, 51, 52, 53, 54, 55, 56, 57, 97, 98, 99, 100, 101, 102]⟩) (.int .u8 (d : Int))).run Tryd.prog w = .ok (.int .u8 ((hexC d).toNat : Int)) w := by
  rcases (by omega : d = 0 ∨ d = 1 ∨ d = 2 ∨ d = 3 ∨ d = 4 ∨ d = 5 ∨ d = 6 ∨ d = 7 ∨ d = 8 ∨ d = 9 ∨ d = 10 ∨ d = 11 ∨ d = 12 ∨ d = 13 ∨ d = 14 ∨ d = 15) with rfl | rfl | rfl | rfl | rfl | rfl | rfl | rfl | rfl | rfl | rfl | rfl | rfl | rfl | rfl | rfl <;> kernel_rfl

set_option maxHeartbeats 4000000 in
set_option maxRecDepth 100000 in
theorem hex_any (s : ByteArray) (hs : s.size ≤ 1000000000) (w : World) :
    Calls Tryd.prog 18 #[.string s] w fun e w' => e = .returned (.string (strL (hexL s.data.toList))) ∧ Below w.heap.size w w' := by
  obtain ⟨i0, hi, hz0, hz1, hz2⟩ := info_parts infoU8
  have hmk : ∀ w : World, (Instr.makeSlice 47 (.int .i64 0) (.int .i64 (2 * (s.size : Int)))).run Tryd.prog w = .ok (.slice (some ⟨w.heap.size, 0, none⟩) 0 (2 * s.size)) (w.alloc (.cells (madeCells #[.int .u8 0] (2 * s.size)) 5)) := fun w => by
    have h := run_make (P := Tryd.prog) w 47 5 i0 (.int .u8 0) Tryd.underlying47 hi hz0 .i64 .i64 0 (2 * (s.size : Int)) (by omega) (by omega) (by rw [hz2]; omega) (by omega)
    rw [h, hz1, show (2 * (s.size : Int)).toNat = 2 * s.size by omega, Nat.mul_one]
    rfl
  have HM := Lib.hid (World.ownsRow_made w (madeCells #[.int .u8 0] (2 * s.size)) (2 * s.size) (e := 5) (size := 1) (Nat.le_refl _) (by unfold maxLen; omega) (by rw [size_madeCells]; omega))
  go_enter Tryd.func18, Tryd.ntmps18
  go_wp2
  clear hmk
  go_loopw [3, 4, 11] (fun v _ i wr => HexRel w s v i wr) (fun _ _ i _ => s.size - (intOf i).toNat)
  case atStart => exact ⟨0, Nat.zero_le _, rfl, HM.out, (Below.refl _ _).alloc (Nat.le_refl _) _⟩
  case round =>
    obtain ⟨k, hk, rfl, hown, hbel⟩ := hrel
    by_cases hlt : k < s.size
    · have hltI : (k : Int) < (s.size : Int) := by omega
      obtain ⟨b, hb⟩ : ∃ b, b = s[k] := ⟨_, rfl⟩
      have hb256 := b.toNat_lt
      obtain ⟨d1, hd1⟩ : ∃ d : Nat, d = b.toNat / 16 := ⟨_, rfl⟩
      obtain ⟨d2, hd2⟩ : ∃ d : Nat, d = b.toNat % 16 := ⟨_, rfl⟩
      have e1 : (s[k].toNat : Int) / 16 = (d1 : Int) := by rw [← hb]; omega
      have e2 : bits .and .u8 (s[k].toNat : Int) 15 = (d2 : Int) := by
        rw [← hb]
        exact (bits_mask .u8 8 (by decide) wraps_u8 4 (by decide) (b.toNat : Int) (by omega) (by show _ < (256 : Int); omega)).trans (by show _ % (16 : Int) = _; omega)
      have x1 := fun w => hex_index d1 (by omega) w
      have x2 := fun w => hex_index d2 (by omega) w
      have hen : Hid (u8s (hexL (s.data.toList.take (k + 1))) = u8s (hexL (s.data.toList.take k)) ++ [.int .u8 ((hexC d1).toNat : Int), .int .u8 ((hexC d2).toNat : Int)]) := by
        show _ = _
        rw [List.take_succ_eq_append_getElem (by simpa using hlt), hexL_snoc, u8s_append]
        have : s.data.toList[k]'(by simpa using hlt) = b := by rw [hb]; rfl
        rw [this, hd1, hd2]; rfl
      have hba := hbel.size
      have hxl : (u8s (hexL (s.data.toList.take k))).length = 2 * k := by rw [u8s_len, hexL_len, List.length_take]; simp; omega
      have HB := Lib.hid hb
      have HD1 := Lib.hid hd1
      have HD2 := Lib.hid hd2
      clear hb hd1 hd2
      go_wp2_with fail
      go_region_law (refine step_append_lies _ rfl (.tmp 14) (.tmp 25) 47 rfl w.heap.size 5 i0 (.int .u8 0) 1 1 Tryd.underlying47 hi hz0 hz1 hz2 rfl (by decide) _ _ _ rfl (own_drew (hown.alloc _)) ⟨wr.heap.size, 0, none⟩ 2 2 [.int .u8 ((hexC d1).toNat : Int), .int .u8 ((hexC d2).toNat : Int)] rfl rfl (by exact news_at _ [_, _] _) (by exact u8s_one [hexC d1, hexC d2]) (by decide) (by unfold maxLen; omega) (by omega) (by simp; omega) _ rfl ?_; intro g cap w1 hown1 hgrow hat hlt1)
      all_goals
        have HO := Lib.hid hown1
        have HG := Lib.hid ((((hbel.alloc hba _).drew).grown hgrow (by simp; omega) (fun g hg => (hown.lt g hg).1)))
        have HBL := Lib.hid hba
        clear hown1 hgrow hat hlt1 hbel hxl hown hba
        go_wp2_with fail
        go_roundw
        case rel => exact ⟨k + 1, by omega, by go_num, by rw [hen.out]; exact HO.out, HG.out⟩
        case measure => simp [intOf]; omega
    · obtain rfl : k = s.size := by omega
      rw [List.take_of_length_le (by simp)] at hown
      have hcv := own_conv hown
      clear hown
      go_wp2
      go_ret
      exact ⟨rfl, hbel⟩
end Go.Proofs.YthhaofdnbemogaaDoor
