/-
  acheronref03: Hex, digit, Unhex.
-/
import Derived.Test.YtoddihpknafnpaaDoorUnhex
set_option linter.unusedVariables false
namespace Go.Proofs.YtoddihpknafnpaaDoor
open Go.RowKit

theorem digit_any (c : UInt8) (w : World) : Calls Tryd.prog 55 #[.int .u8 (c.toNat : Int)] w fun e w' => e = .returned (.int .i64 (digV c)) ∧ w = w' := by
  have hb := c.toNat_lt
  have e : Hid (∀ n : Nat, n = c.toNat → digV c = if 48 ≤ n ∧ n ≤ 57 then (n : Int) - 48 else if 97 ≤ n ∧ n ≤ 102 then (n : Int) - 87 else -1) := Lib.hid (fun n hn => by rw [hn]; rfl)
  generalize c.toNat = n at *
  have E := Lib.hid (e.out n rfl)
  clear e
  by_cases h1 : 48 ≤ n
  · by_cases h2 : n ≤ 57
    · have hd : Hid (digV c = (n : Int) - 48) := Lib.hid (by rw [E.out, if_pos ⟨h1, h2⟩])
      have i1 : (48 : Int) ≤ (n : Int) := by omega
      have i2 : (n : Int) ≤ 57 := by omega
      go_enter Tryd.func55, Tryd.ntmps55
      go_wp2
      go_ret
      exact ⟨ret_int (by rw [hd.out]), rfl⟩
    · by_cases h3 : 97 ≤ n
      · by_cases h4 : n ≤ 102
        · have hd : Hid (digV c = (n : Int) - 87) := Lib.hid (by rw [E.out, if_neg (by omega), if_pos ⟨h3, h4⟩])
          have i1 : (48 : Int) ≤ (n : Int) := by omega
          have i2 : ¬ (n : Int) ≤ 57 := by omega
          have i3 : (97 : Int) ≤ (n : Int) := by omega
          have i4 : (n : Int) ≤ 102 := by omega
          go_enter Tryd.func55, Tryd.ntmps55
          go_wp2
          go_ret
          exact ⟨ret_int (by rw [hd.out]; omega), rfl⟩
        · have hd : Hid (digV c = -1) := Lib.hid (by rw [E.out, if_neg (by omega), if_neg (by omega)])
          have i1 : (48 : Int) ≤ (n : Int) := by omega
          have i2 : ¬ (n : Int) ≤ 57 := by omega
          have i3 : (97 : Int) ≤ (n : Int) := by omega
          have i4 : ¬ (n : Int) ≤ 102 := by omega
          go_enter Tryd.func55, Tryd.ntmps55
          go_wp2
          go_ret
          exact ⟨ret_int (by rw [hd.out]), rfl⟩
      · have hd : Hid (digV c = -1) := Lib.hid (by rw [E.out, if_neg (by omega), if_neg (by omega)])
        have i1 : (48 : Int) ≤ (n : Int) := by omega
        have i2 : ¬ (n : Int) ≤ 57 := by omega
        have i3 : ¬ (97 : Int) ≤ (n : Int) := by omega
        go_enter Tryd.func55, Tryd.ntmps55
        go_wp2
        go_ret
        exact ⟨ret_int (by rw [hd.out]), rfl⟩
  · have hd : Hid (digV c = -1) := Lib.hid (by rw [E.out, if_neg (by omega), if_neg (by omega)])
    have i1 : ¬ (48 : Int) ≤ (n : Int) := by omega
    have i3 : ¬ (97 : Int) ≤ (n : Int) := by omega
    go_enter Tryd.func55, Tryd.ntmps55
    go_wp2
    go_ret
    exact ⟨ret_int (by rw [hd.out]), rfl⟩

set_option maxHeartbeats 4000000 in
set_option maxRecDepth 100000 in
theorem refHex_any (s : ByteArray) (hs : s.size ≤ 1000000000) (w : World) :
    Calls Tryd.prog 20 #[.string s] w fun e w' => e = .returned (.string (strL (hexL s.data.toList))) ∧ Below w.heap.size w w' := by
  obtain ⟨i0, hi, hz0, hz1, hz2⟩ := info_parts infoU8
  have HM : Hid ((w.alloc (.cells #[] 5)).ownsRow w.heap.size 5 1 (.slice (some ⟨w.heap.size, 0, none⟩) 0 0) 0 []) := Lib.hid (World.ownsRow_made w #[] 0 (Nat.le_refl _) (by decide) rfl)
  go_enter Tryd.func20, Tryd.ntmps20
  go_wp2
  go_loopw [4, 5] (fun v i wr => HexRel w s v i wr) (fun _ i _ => s.size - (intOf i).toNat)
  case atStart => exact ⟨0, Nat.zero_le _, rfl, HM.out, (Below.refl _ _).alloc (Nat.le_refl _) _⟩
  case round =>
    obtain ⟨k, hk, rfl, hown, hbel⟩ := hrel
    by_cases hlt : k < s.size
    · have hltI : (k : Int) < (s.size : Int) := by omega
      obtain ⟨b, hb⟩ : ∃ b, b = s[k] := ⟨_, rfl⟩
      have hb256 := b.toNat_lt
      obtain ⟨d1, hd1⟩ : ∃ d : Nat, d = b.toNat / 16 := ⟨_, rfl⟩
      obtain ⟨d2, hd2⟩ : ∃ d : Nat, d = b.toNat % 16 := ⟨_, rfl⟩
      have e1 : (s[k].toNat : Int) / 16 = (d1 : Int) := by rw [← hb]; omega
      have e2 : (s[k].toNat : Int) % 16 = (d2 : Int) := by rw [← hb]; omega
      have e3 : (s[k].toNat : Int).tdiv 16 = (d1 : Int) := by rw [Int.tdiv_eq_ediv_of_nonneg (by omega)]; exact e1
      have e4 : (s[k].toNat : Int).tmod 16 = (d2 : Int) := by rw [Int.tmod_eq_emod_of_nonneg (by omega)]; exact e2
      have w1 : IntKind.u8.wrap (d1 : Int) = (d1 : Int) := by rw [IntKind.wrap_u8]; omega
      have w2 : IntKind.u8.wrap (d2 : Int) = (d2 : Int) := by rw [IntKind.wrap_u8]; omega
      have x1 := fun w => hex_index d1 (by omega) w
      have x2 := fun w => hex_index d2 (by omega) w
      have hen : Hid (u8s (hexL (s.data.toList.take (k + 1))) = u8s (hexL (s.data.toList.take k)) ++ [.int .u8 ((hexC d1).toNat : Int), .int .u8 ((hexC d2).toNat : Int)]) := by
        show _ = _
        rw [List.take_succ_eq_append_getElem (by simpa using hlt), hexL_snoc, u8s_append]
        have : s.data.toList[k]'(by simpa using hlt) = b := by rw [hb]; rfl
        rw [this, hd1, hd2]; rfl
      have hba := hbel.size
      have hxl : (u8s (hexL (s.data.toList.take k))).length = 2 * k := by rw [u8s_len, hexL_len, List.length_take]; simp; omega
      have HB := Lib.hid hb
      have HD1 := Lib.hid hd1
      have HD2 := Lib.hid hd2
      clear hb hd1 hd2
      go_wp2_with fail
      go_region_law (refine step_append_lies _ rfl (.tmp 13) (.tmp 26) 47 rfl w.heap.size 5 i0 (.int .u8 0) 1 1 Tryd.underlying47 hi hz0 hz1 hz2 rfl (by decide) _ _ _ rfl (own_drew (hown.alloc _)) ⟨wr.heap.size, 0, none⟩ 2 2 [.int .u8 ((hexC d1).toNat : Int), .int .u8 ((hexC d2).toNat : Int)] rfl rfl (by exact news_at _ [_, _] _) (by exact u8s_one [hexC d1, hexC d2]) (by decide) (by unfold maxLen; omega) (by omega) (by simp; omega) _ rfl ?_; intro g cap w1 hown1 hgrow hat hlt1)
      all_goals
        have HO := Lib.hid hown1
        have HG := Lib.hid ((((hbel.alloc hba _).drew).grown hgrow (by simp; omega) (fun g hg => (hown.lt g hg).1)))
        clear hown1 hgrow hat hlt1 hbel hxl hown hba
        go_wp2_with fail
        go_roundw
        case rel => exact ⟨k + 1, by omega, by go_num, by rw [hen.out]; exact HO.out, HG.out⟩
        case measure => simp [intOf]; omega
    · obtain rfl : k = s.size := by omega
      rw [List.take_of_length_le (by simp)] at hown
      have hcv := own_conv hown
      clear hown
      go_wp2
      go_ret
      exact ⟨rfl, hbel⟩
end Go.Proofs.YtoddihpknafnpaaDoor
