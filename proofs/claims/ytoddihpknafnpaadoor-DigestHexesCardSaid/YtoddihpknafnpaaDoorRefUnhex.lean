/-
  acheronref03: Unhex.
-/
import Derived.Test.YtoddihpknafnpaaDoorRefHex
import Derived.Deep.RegionHeld3
set_option linter.unusedVariables false
namespace Go.Proofs.YtoddihpknafnpaaDoor
open Go.RowKit

def RuRel (w : World) (l : List UInt8) (v i : Value) (wr : World) : Prop :=
  ∃ m k : Nat, k = 2 * m ∧ k ≤ l.length ∧ i = .int .i64 (k : Int) ∧ allD l k ∧ wr.ownsRow w.heap.size 5 1 v m (u8s (pairsL l m)) ∧ Below w.heap.size w wr

set_option maxHeartbeats 4000000 in
set_option maxRecDepth 100000 in
theorem refUnhex_any (s : ByteArray) (hs : s.size ≤ 1000000000) (w : World) :
    Calls Tryd.prog 19 #[.string s] w (UhPost s.data.toList w) := by
  have hlen : s.data.toList.length = s.size := by simp
  obtain ⟨i0, hi, hz0, hz1, hz2⟩ := info_parts infoU8
  by_cases hodd : s.size % 2 = 1
  · have hm : (s.size : Int) % 2 = 1 := by omega
    have HP : Hid (UhPost s.data.toList w (.returned (.tuple #[.string ⟨#[]⟩, .int .i64 14])) w) := Lib.hid ⟨_, _, rfl, .inl ⟨by rw [hlen]; exact hodd, rfl, rfl⟩, Below.refl _ _⟩
    clear hlen
    go_enter Tryd.func19, Tryd.ntmps19
    go_wp2
    go_ret2
    exact HP.out
  · have hm : (s.size : Int) % 2 = 0 := by omega
    have HM : Hid ((w.alloc (.cells #[] 5)).ownsRow w.heap.size 5 1 (.slice (some ⟨w.heap.size, 0, none⟩) 0 0) 0 []) := Lib.hid (World.ownsRow_made w #[] 0 (Nat.le_refl _) (by decide) rfl)
    have HLN := Lib.hid hlen
    have HOD := Lib.hid hodd
    clear hlen
    go_enter Tryd.func19, Tryd.ntmps19
    go_wp2
    clear hm hodd
    go_loopw [2, 3, 4, 5] (fun _ _ v i wr => RuRel w s.data.toList v i wr) (fun _ _ _ i _ => s.size - (intOf i).toNat)
    case atStart => exact ⟨0, 0, rfl, Nat.zero_le _, rfl, fun j hj => absurd hj (Nat.not_lt_zero _), HM.out, (Below.refl _ _).alloc (Nat.le_refl _) _⟩
    case round =>
      clear HM
      obtain ⟨m, k, hkm, hk, rfl, hall, hown, hbel⟩ := hrel
      rw [HLN.out] at hk
      by_cases hlt : k < s.size
      · have hltI : (k : Int) < (s.size : Int) := by omega
        have hlt1 : k + 1 < s.size := by have := HOD.out; omega
        have hlt1I : (k : Int) + 1 < (s.size : Int) := by omega
        have hk1 : ((k : Int) + 1).toNat = k + 1 := by omega
        obtain ⟨c0, hc0⟩ : ∃ c, s[k] = c := ⟨_, rfl⟩
        obtain ⟨c1, hc1⟩ : ∃ c, s[k + 1] = c := ⟨_, rfl⟩
        have hck0 : c0 = chr s.data.toList k := by rw [← hc0]; exact chr_at s k hlt
        have hck1 : c1 = chr s.data.toList (k + 1) := by rw [← hc1]; exact chr_at s (k + 1) hlt1
        have b0 := digV_bd c0
        have b1 := digV_bd c1
        have HD0 := Lib.hid (fun w => digit_any c0 w)
        have HD1 := Lib.hid (fun w => digit_any c1 w)
        obtain ⟨d0, hd0⟩ : ∃ d, digV c0 = d := ⟨_, rfl⟩
        obtain ⟨d1, hd1⟩ : ∃ d, digV c1 = d := ⟨_, rfl⟩
        rw [hd0] at b0 HD0
        rw [hd1] at b1 HD1
        have HBAD : Hid (d0 < 0 ∨ d1 < 0 → UhPost s.data.toList w (.returned (.tuple #[.string ⟨#[]⟩, .int .i64 9])) wr) := Lib.hid (fun hneg => ⟨_, _, rfl, .inr (.inl ⟨by rw [HLN.out]; have := HOD.out; omega, fun h => by
          have x0 := h k (by rw [HLN.out]; omega)
          have x1 := h (k + 1) (by rw [HLN.out]; omega)
          rw [← hck0, hd0] at x0
          rw [← hck1, hd1] at x1
          omega, rfl, rfl⟩), hbel⟩)
        by_cases hn0 : d0 < 0
        · clear hck0 hck1 hd0 hd1 hown hbel hall hkm
          go_wp2_with (go_at_call 55; ((with_reducible refine (HD0.out _).mono ?_); rintro e w1 ⟨rfl, rfl⟩))
          go_ret2
          exact HBAD.out (.inl hn0)
        · by_cases hn1 : d1 < 0
          · clear hck0 hck1 hd0 hd1 hown hbel hall hkm
            go_wp2_with (go_at_call 55; first | ((with_reducible refine (HD0.out _).mono ?_); rintro e w1 ⟨rfl, rfl⟩) | ((with_reducible refine (HD1.out _).mono ?_); rintro e w1 ⟨rfl, rfl⟩))
            go_ret2
            exact HBAD.out (.inr hn1)
          · have hall' : Hid (allD s.data.toList (k + 2)) := Lib.hid (fun j hj => by
              by_cases h : j = k
              · rw [h, ← hck0, hd0]; omega
              · by_cases h' : j = k + 1
                · rw [h', ← hck1, hd1]; omega
                · exact hall j (by omega))
            have hpv : ((pairB s.data.toList m).toNat : Int) = 16 * d0 + d1 := by
              rw [pair_val _ _ (by rw [← hkm, ← hck0, hd0]; omega) (by rw [← hkm, ← hck1, hd1]; omega), ← hkm, ← hck0, ← hck1, hd0, hd1]
            have hen : Hid (u8s (pairsL s.data.toList (m + 1)) = u8s (pairsL s.data.toList m) ++ [.int .u8 (16 * d0 + d1)]) := by
              show _ = _
              rw [pairsL_snoc, u8s_append, ← hpv]; rfl
            have hxl : (u8s (pairsL s.data.toList m)).length = m := by rw [u8s_len, pairsL_len]
            have hba := hbel.size
            have hone : ∀ u ∈ [Value.int .u8 (16 * d0 + d1)], u.oneCell' = true := by intro u hu; simp at hu; subst hu; rfl
            have HONE := Lib.hid hone
            have g1 : (0 : Int) ≤ d0 := by omega
            have g2 : (0 : Int) ≤ d1 := by omega
            have g3 : d0 < 16 := b0.2
            have g4 : d1 < 16 := b1.2
            have hw1 : IntKind.i64.wrap (16 * d0) = 16 * d0 := IntWalk.i64_in _ (by omega)
            have hw2 : IntKind.i64.wrap (16 * d0 + d1) = 16 * d0 + d1 := IntWalk.i64_in _ (by omega)
            have hw3 : IntKind.u8.wrap (16 * d0 + d1) = 16 * d0 + d1 := by rw [IntKind.wrap_u8]; omega
            have hmk : m ≤ 1000000000 := by omega
            have HKM := Lib.hid hkm
            clear hck0 hck1 hd0 hd1 hall hkm hpv hone b0 b1
            go_wp2_with (go_at_call 55; first | ((with_reducible refine (HD0.out _).mono ?_); rintro e w1 ⟨rfl, rfl⟩) | ((with_reducible refine (HD1.out _).mono ?_); rintro e w1 ⟨rfl, rfl⟩))
            have hwk : IntKind.i64.wrap ((k : Int) + 1) = (k : Int) + 1 := IntWalk.i64_in _ (by omega)
            go_region_held3 (fun _ => True) (trivial) (first
              | (go_at_call 55; first | ((with_reducible refine (HD0.out _).mono ?_); rintro e w1 ⟨rfl, rfl⟩) | ((with_reducible refine (HD1.out _).mono ?_); rintro e w1 ⟨rfl, rfl⟩))
              | (refine step_append_lies _ rfl (.tmp 30) (.tmp 43) 47 rfl w.heap.size 5 i0 (.int .u8 0) 1 1 Tryd.underlying47 hi hz0 hz1 hz2 rfl (by decide) _ _ _ rfl (own_drew (hown.alloc _)) ⟨wr.heap.size, 0, none⟩ 1 1 [.int .u8 (16 * d0 + d1)] rfl rfl (by exact news_at _ [_] _) HONE.out (by decide) (by unfold maxLen; omega) (by omega) (by simp; omega) _ rfl ?_; intro g cap w1 hown1 hgrow hat hlt1))
            all_goals
              have HO := Lib.hid hown1
              have HG := Lib.hid ((((hbel.alloc hba _).drew).grown hgrow (by simp; omega) (fun g hg => (hown.lt g hg).1)))
              clear hown1 hgrow hat hbel hxl hown hba
              go_wp2_with fail
              go_roundw
              case rel => exact ⟨m + 1, k + 2, by rw [HKM.out]; omega, by rw [HLN.out]; omega, by go_num, hall'.out, by rw [hen.out]; exact HO.out, HG.out⟩
              case measure => simp [intOf]; omega
      · obtain rfl : k = s.size := by omega
        have hmm : m = s.data.toList.length / 2 := by rw [HLN.out]; omega
        have hcv := own_conv hown
        have HP : Hid (UhPost s.data.toList w (.returned (.tuple #[.string ⟨(pairsL s.data.toList m).toArray⟩, .int .i64 0])) wr) := Lib.hid ⟨_, _, rfl, .inr (.inr ⟨by rw [HLN.out]; have := HOD.out; omega, by rw [HLN.out]; exact hall, by rw [← hmm]; rfl, rfl⟩), hbel⟩
        clear hown hmm hkm
        go_wp2
        go_ret2
        exact HP.out
end Go.Proofs.YtoddihpknafnpaaDoor
