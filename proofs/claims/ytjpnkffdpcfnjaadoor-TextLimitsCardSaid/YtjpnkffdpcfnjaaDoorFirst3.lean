import Derived.Test.YtjpnkffdpcfnjaaDoorFirst
set_option linter.unusedVariables false
namespace Go.Proofs.YtjpnkffdpcfnjaaDoor
open Go.RowKit

set_option maxRecDepth 100000 in
set_option maxHeartbeats 400000 in
theorem first_three_short (s : ByteArray) (hs : 0 < s.size) (hl : s.size < 3) (h0 : 224 ≤ byteAt s 0) (h1 : byteAt s 0 < 240) (w : World) :
    Calls Tryd.prog 33 #[.string s] w (FirstPost s w) := by
  have hd := Lib.hid (dec_short s 3 2 (by omega) (by omega) (by omega) (contB_false s 2 (by omega)))
  have e0 := byteAt_eq s 0 hs
  have g0 : (224 : Int) ≤ (s[0].toNat : Int) := by omega
  have g1 : (s[0].toNat : Int) < (240 : Int) := by omega
  have g2 : (s.size : Int) < (3 : Int) := by omega
  clear e0 h0 h1
  go_enter Tryd.func33, Tryd.ntmps33
  go_wp2
  go_ret2
  exact firstPost_of hd.out rfl (Below.refl _ _)

set_option maxRecDepth 100000 in
set_option maxHeartbeats 2000000 in
theorem first_three (s : ByteArray) (hl : s.size ≤ 1000000000) (hs : 3 ≤ s.size) (h0 : 224 ≤ byteAt s 0) (h1 : byteAt s 0 < 240) (w : World) :
    Calls Tryd.prog 33 #[.string s] w (FirstPost s w) := by
  have hpos : 0 < s.size := by omega
  have e0 := byteAt_eq s 0 hpos
  have g0 : (224 : Int) ≤ (s[0].toNat : Int) := by omega
  have g1 : (s[0].toNat : Int) < (240 : Int) := by omega
  have g2 : (3 : Int) ≤ (s.size : Int) := by omega
  have E0 := Lib.hid e0
  have H0 := Lib.hid h0
  have H1 := Lib.hid h1
  clear e0 h0 h1
  go_enter Tryd.func33, Tryd.ntmps33
  go_wp2
  go_loop [5, 6] (fun c i => ∃ (k : Nat) (z : Int), k ≤ 2 ∧ i = .int .i64 ((k : Int) + 1) ∧ c = .int .i64 z ∧ Hid (z = (cval s 224 k : Int)) ∧ Conts s (k + 1)) (fun _ i => 3 - (intOf i).toNat)
  case atStart => exact ⟨0, _, by omega, rfl, rfl, by show _ = ((byteAt s 0 - 224 : Nat) : Int); have := E0.out; have := H0.out; omega, fun j a b => by omega⟩
  case round =>
    obtain ⟨k, z, hk, rfl, rfl, HZ, hct⟩ := hrel
    have hcb : z < 8388608 := by rw [HZ.out]; exact cval_lt' s 3 224 240 (by omega) H0.out H1.out k (by omega) hct
    have hcp : 0 ≤ z := by rw [HZ.out]; omega
    have HC := Lib.hid hct
    clear hct
    by_cases hlt : k < 2
    · have hks : k + 1 < s.size := by omega
      have ek := byteAt_eq s (k + 1) hks
      have hkI : (k : Int) + 1 < 3 := by omega
      have hks2 : (k : Int) + 1 < (s.size : Int) := by omega
      by_cases hlo : byteAt s (k + 1) < 128
      · have hd := Lib.hid (dec_short s 3 (k + 1) (by have := H0.out; have := H1.out; omega) (by omega) (by omega) (contB_false s (k + 1) (by omega)))
        have b1 : (s[k + 1].toNat : Int) < 128 := by omega
        clear ek hlo hcb
        go_wp2
        go_ret2
        exact firstPost_of hd.out rfl (Below.refl _ _)
      by_cases hhi : 191 < byteAt s (k + 1)
      · have hd := Lib.hid (dec_short s 3 (k + 1) (by have := H0.out; have := H1.out; omega) (by omega) (by omega) (contB_false s (k + 1) (by omega)))
        have b1 : (191 : Int) < (s[k + 1].toNat : Int) := by omega
        have b2 : (s[k + 1].toNat : Int) < 256 := by have := byteAt_lt s (k + 1); omega
        clear ek hlo hhi hcb
        go_wp2
        go_ret2
        exact firstPost_of hd.out rfl (Below.refl _ _)
      · have b1 : (128 : Int) ≤ (s[k + 1].toNat : Int) := by omega
        have b2 : (s[k + 1].toNat : Int) ≤ 191 := by omega
        have hcn : cval s 224 (k + 1) = 64 * cval s 224 k + byteAt s (k + 1) - 128 := rfl
        have HN := Lib.hid hcn
        have EK := Lib.hid ek
        have BL := Lib.hid hlo
        have BH := Lib.hid hhi
        clear ek hlo hhi hcn
        go_wp2
        go_round
        case rel =>
          refine ⟨k + 1, _, by omega, by go_num, rfl, ?_, fun j a b => ?_⟩
          · have h1 := HN.out; have h2 := EK.out; have h3 := HZ.out; have h4 := BL.out
            show _ = ((cval s 224 (k + 1) : Nat) : Int)
            omega
          · by_cases hj : j = k + 1
            · subst hj; have := BL.out; have := BH.out; omega
            · exact HC.out j a (by omega)
        case measure => simp [intOf]; omega
    · obtain rfl : k = 2 := by omega
      have hE := end_three s H0.out H1.out hs HC.out
      have hzE := HZ.out
      rw [show (((2 : Nat) : Int) + 1) = 3 from rfl]
      generalize cval s 224 2 = c at hE hzE
      have HZE := Lib.hid hzE
      clear HZ hzE
      cases hok : okc z
      · have HD := Lib.hid (hE.1 (by rw [← HZE.out]; exact hok))
        clear hE hcb
        go_wp2
        go_quiet ((go_at_call 15; exact Calls.quiet_of_same ((is_no _ hok _).mono fun e w2 h => ⟨h.1, h.2.symm⟩)))
        go_wp2
        go_ret2
        exact firstPost_of HD.out rfl (below_drewN (Below.refl _ _) _)
      · obtain ⟨hc, hE2⟩ := hE.2 (by rw [← HZE.out]; exact hok)
        have hen : ∀ w', Calls Tryd.prog 19 #[.int .i64 z] w' fun e w'' => e = .returned (.string ⟨(enc c).toArray⟩) ∧ Below w'.heap.size w' w'' := by
          rw [HZE.out]; exact encode_any c hc
        have HEN := Lib.hid hen
        clear hc hen
        rcases hE2 with ⟨hx, hd⟩ | ⟨hx, hd⟩
        · have heq := list_eq_of hx
          have HD := Lib.hid hd
          clear hE hx hd hcb
          go_wp2
          go_region_with (first | (go_at_call 15; refine (is_yes _ hok _).mono ?_; rintro e w' ⟨rfl, rfl⟩) | (go_at_call 19; refine (HEN.out _).mono ?_; rintro e w1 ⟨rfl, hb1⟩))
          go_wp2
          go_ret2
          exact firstPost_of HD.out (by rw [HZE.out]; rfl) (below_of_drew hb1)
        · have heq := list_ne_of hx
          have HD := Lib.hid hd
          clear hE hx hd hcb
          go_wp2
          go_region_with (first | (go_at_call 15; refine (is_yes _ hok _).mono ?_; rintro e w' ⟨rfl, rfl⟩) | (go_at_call 19; refine (HEN.out _).mono ?_; rintro e w1 ⟨rfl, hb1⟩))
          go_wp2
          go_ret2
          exact firstPost_of HD.out rfl (below_of_drew hb1)

end Go.Proofs.YtjpnkffdpcfnjaaDoor
