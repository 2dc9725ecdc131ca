/-
  The reference's Unquote: what it returns is what the plain function gives.
-/
import Derived.Test.YtjpnkffdpcfnjaaDoorRefEsc
set_option linter.unusedVariables false
namespace Go.Proofs.YtjpnkffdpcfnjaaDoor
open Go.RowKit

def RUPost (R : List Nat × Nat × Int) (w : World) (e : Ending) (w' : World) : Prop := ∃ v, e = .returned (.tuple #[v, .int .i64 (R.2.1 : Int), .int .i64 R.2.2]) ∧ IntsAt w' v R.1 ∧ Below w.heap.size w w'
theorem ints_nil (w : World) : IntsAt w (.slice none 0 0) [] := ⟨none, 0, rfl, .inl rfl⟩
def RURel (s : ByteArray) (w : World) (R : List Nat × Nat × Int) (v i : Value) (wr : World) : Prop :=
  ∃ (a f : Nat) (acc : List Nat), Ints wr w.heap.size v acc ∧ i = .int .i64 (a : Int) ∧ Below w.heap.size w wr ∧ unqF s f a acc = R ∧ s.size ≤ a + f ∧ a ≤ s.size ∧ acc.length ≤ 65536
def RNRel (s : ByteArray) (nm cnt : Nat) (R : Int × Nat × Int) (i c j : Value) : Prop :=
  ∃ (k a jn : Nat) (z : Int), i = .int .i64 (a : Int) ∧ c = .int .i64 z ∧ j = .int .i64 (jn : Int) ∧ jn + k = cnt ∧ numG s nm k a z = R ∧ 0 ≤ z ∧ z * 16 ^ k + 16 ^ k ≤ 16777216 ∧ a ≤ s.size

set_option maxHeartbeats 8000000 in
set_option maxRecDepth 100000 in
theorem refUnq_any (s : ByteArray) (hs : s.size ≤ 1000000000) (w : World) :
    Calls Tryd.prog 13 #[.string s] w (RUPost (unqL s) w) := by
  have hsI : (s.size : Int) ≤ 1000000000 := by omega
  unfold unqL
  by_cases hz : s.size = 0
  · rw [if_neg (by omega)]
    have hzI : ((s.size : Int) == 0) = true := by rw [hz]; rfl
    clear hz
    go_enter Tryd.func13, Tryd.ntmps13
    go_wp2
    go_ret3
    exact ⟨_, rfl, ints_nil _, Below.refl _ _⟩
  have hzI : ((s.size : Int) == 0) = false := by
    cases hb : ((s.size : Int) == 0) with
    | false => rfl
    | true => exact absurd (eq_of_beq hb) (by omega)
  have hp : 0 < s.size := by omega
  have hb0 := byteAt_eq s 0 hp
  by_cases hq0 : byteAt s 0 = 34
  case neg =>
    rw [if_neg (by omega)]
    have hq : ((s[0].toNat : Int) == 34) = false := by rw [hb0]; simp; omega
    clear hz hb0 hq0
    go_enter Tryd.func13, Tryd.ntmps13
    go_wp2
    go_ret3
    exact ⟨_, rfl, ints_nil _, Below.refl _ _⟩
  rw [if_pos ⟨hp, hq0⟩]
  have hq : ((s[0].toNat : Int) == 34) = true := by rw [hb0, hq0]; rfl
  obtain ⟨R, hR⟩ : ∃ R, R = unqF s s.size 1 [] := ⟨_, rfl⟩
  rw [← hR]
  have h0 : RURel s w R (.slice none 0 0) (.int .i64 1) w := ⟨1, s.size, [], World.ownsRow_nil _ _ _ _, rfl, Below.refl _ _, hR.symm, by omega, by omega, Nat.zero_le _⟩
  have H0 := Lib.hid h0
  obtain ⟨i0, hi, hz0, hz1, hz2⟩ := info_parts infoInt
  clear h0 hR hz hb0 hq0
  go_enter Tryd.func13, Tryd.ntmps13
  go_wp2
  rw [show ((s[0].toNat : Int) != 34) = false by rw [bne, hq]; rfl]
  clear hq hzI
  go_loopw [5, 6, 7, 8, 9, 10, 11, 12] (fun v i _ _ _ _ _ _ wr => RURel s w R v i wr) (fun _ i _ _ _ _ _ _ _ => s.size - (intOf i).toNat)
  case atStart => exact H0.out
  case round =>
    clear H0
    obtain ⟨a, f, acc, hown, rfl, hbel, hR, hf, has, hal⟩ := hrel
    obtain ⟨ao, cap, rfl⟩ : ∃ ao cap, u5 = .slice ao acc.length cap := by
      rcases row_form hown with ⟨rfl, hn⟩ | ⟨g, cap, rfl, _⟩
      · exact ⟨none, 0, by rw [hn]⟩
      · exact ⟨_, _, rfl⟩
    have HAL := Lib.hid hal
    clear hal
    by_cases hend : s.size ≤ a
    · rw [unqF_end s f a acc hend] at hR
      subst hR
      obtain rfl : a = s.size := by omega
      clear hown hend has hf
      go_wp2
      go_ret3
      exact ⟨_, rfl, ints_nil _, hbel⟩
    have hai : a < s.size := by omega
    have hb := byteAt_eq s a hai
    have hw1 : IntKind.i64.wrap ((a : Int) + 1) = (a : Int) + 1 := IntWalk.i64_in _ (by omega)
    obtain ⟨f, rfl⟩ : ∃ f', f = f' + 1 := ⟨f - 1, by omega⟩
    unfold unqF at hR
    rw [if_neg hend] at hR
    by_cases h34 : byteAt s a = 34
    · rw [if_pos h34] at hR
      subst hR
      have hqq : ((s[a].toNat : Int) == 34) = true := by rw [hb, h34]; rfl
      clear hend has hf hb h34
      go_wp2
      go_ret3
      exact ⟨_, rfl, hown.at, hbel⟩
    rw [if_neg h34] at hR
    have hqq : ((s[a].toNat : Int) == 34) = false := by rw [hb]; simp; omega
    by_cases h10 : byteAt s a = 10
    · rw [if_pos h10] at hR
      subst hR
      have hq2 : ((s[a].toNat : Int) == 10) = true := by rw [hb, h10]; rfl
      clear hown hend has hf hb h34 h10
      go_wp2
      go_ret3
      exact ⟨_, rfl, ints_nil _, hbel⟩
    rw [if_neg h10] at hR
    have hq2 : ((s[a].toNat : Int) == 10) = false := by rw [hb]; simp; omega
    have hok := litG_ok s a hai
    by_cases h92 : byteAt s a = 92
    case neg =>
      have hq3 : ((s[a].toNat : Int) == 92) = false := by rw [hb]; simp; omega
      have hL : litG s a = (((Utf8.decode (s.extract a s.size) 0).1 : Int), a + (Utf8.decode (s.extract a s.size) 0).2, 0) := by unfold litG; rw [if_neg h92]
      rw [hL] at hR hok
      dsimp only at hR hok
      rw [if_pos rfl, Int.toNat_natCast] at hR
      obtain ⟨_, hn1, hn2⟩ := hok rfl
      have hts : (s.extract a s.size).size = s.size - a := by simp
      have hfc := first_any (s.extract a s.size) (by omega) (by omega) wr
      unfold FirstPost at hfc
      generalize (Utf8.decode (s.extract a s.size) 0).1 = cn at *
      generalize (Utf8.decode (s.extract a s.size) 0).2 = n at *
      have HF := Lib.hid hfc
      have HRES := Lib.hid hR
      obtain ⟨g, hg⟩ : ∃ g, g = a + n := ⟨_, rfl⟩
      rw [← hg] at HRES hn2
      have HNLE := Lib.hid hn2
      have HNLT := Lib.hid (show a + 1 ≤ g ∧ s.size ≤ a + (f + 1) by omega)
      have hwn : IntKind.i64.wrap ((a : Int) + (n : Int)) = (g : Int) := by rw [IntWalk.i64_in _ (by omega)]; omega
      clear hg hL hR hok hts hfc hend hf hb h34 h10 h92 has hn1 hn2
      go_wp2_with fail
      refine HF.out.mono ?_
      rintro e w1 ⟨rfl, hb1⟩
      have hown1 := row_below hown (Nat.le_refl _) hb1
      have hbel1 := below_from hbel hb1 (Nat.le_refl _)
      clear hown hbel hb1
      by_cases hfull : acc.length = 65536
      · have hR := HRES.out
        rw [if_pos hfull] at hR
        subst hR
        obtain ⟨M, hM⟩ : ∃ M : Int, (acc.length : Int) = M := ⟨_, rfl⟩
        have hfI : (65536 : Int) ≤ M := by omega
        clear hfull hown1
        go_wp2
        go_ret3
        exact ⟨_, rfl, ints_nil _, hbel1⟩
      · have hR := HRES.out
        rw [if_neg hfull] at hR
        obtain ⟨M, hM⟩ : ∃ M : Int, (acc.length : Int) = M := ⟨_, rfl⟩
        have hfI : ¬ (65536 : Int) ≤ M := by have := HAL.out; omega
        have HFU := Lib.hid hfull
        have HR := Lib.hid hR
        have hszz := Below.size hbel1
        clear hfull hR
        go_wp2_with (at_builtin; refine wpList_append_own _ rfl _ _ 31 rfl w.heap.size 3 i0 (.int .i64 0) 1 8 Tryd.underlying31 hi hz0 hz1 hz2 rfl (by decide) _ _ _ rfl (World.ownsRow.alloc hown1 _) ⟨w1.heap.size, 0, none⟩ 1 1 [.int .i64 (cn : Int)] rfl rfl ?c1 ?c2 ?c3 ?c4 ?c5 ?_)
        case c1 =>
          intro j u hj
          match j, hj with
          | 0, hj => simp at hj; subst hj; simp [Addr.add]
        case c2 => intro u hu; simp at hu; subst hu; rfl
        case c3 => have := HAL.out; unfold maxLen; omega
        case c4 => have := HAL.out; omega
        case c5 => simp; omega
        intro v' w9 hown' hgrow _
        have hb9 := below_append hbel1 (Nat.le_refl _) hown1 hgrow
        clear hown1
        go_wp2
        go_roundw
        case rel =>
          refine ⟨g, f, acc ++ [cn], ?_, rfl, hb9, HR.out, by have := HNLT.out; omega, HNLE.out, by have := HFU.out; have := HAL.out; rw [List.length_append, List.length_singleton]; omega⟩
          have e : intsV (acc ++ [cn]) = intsV acc ++ [.int .i64 (cn : Int)] := by simp [intsV]
          unfold Ints
          rw [e, List.length_append]
          exact hown'
        case measure => have := HNLT.out; simp [intOf]; omega
    have hq3 : ((s[a].toNat : Int) == 92) = true := by rw [hb, h92]; rfl
    have hL : litG s a = escG s (a + 1) := by unfold litG; rw [if_pos h92]
    rw [hL] at hR hok
    obtain ⟨b, hbd⟩ : ∃ b, b = a + 1 := ⟨_, rfl⟩
    rw [← hbd] at hR hok
    clear hw1
    have hw1 : IntKind.i64.wrap ((a : Int) + 1) = (b : Int) := by rw [IntWalk.i64_in _ (by omega)]; omega
    unfold escG at hR hok
    by_cases hend1 : s.size ≤ b
    · rw [if_pos hend1, if_neg (by simp)] at hR
      subst hR
      have hge : (s.size : Int) ≤ (b : Int) := by omega
      clear hL hok hown hend hf hb h34 h10 h92 has hend1
      go_wp2
      go_ret3
      exact ⟨_, rfl, ints_nil _, hbel⟩
    rw [if_neg hend1] at hR hok
    have hge : ¬ (s.size : Int) ≤ (b : Int) := by omega
    have hbi : b < s.size := by omega
    have hb1 := byteAt_eq s b hbi
    have hbl1 := byteAt_lt s b
    obtain ⟨d, hdd⟩ : ∃ d, d = b + 1 := ⟨_, rfl⟩
    rw [← hdd] at hR hok
    have hw2 : IntKind.i64.wrap ((b : Int) + 1) = (d : Int) := by rw [IntWalk.i64_in _ (by omega)]; omega
    unfold Ints at hown
    have HOK := Lib.hid hok
    have HX := Lib.hid (show a < b ∧ b < d ∧ d ≤ s.size ∧ s.size ≤ a + (f + 1) by omega)
    have HBL1 := Lib.hid hbl1
    clear hL hok hend hf hb h34 h10 h92 has hend1 hbl1 hbd hdd
    by_cases h117 : byteAt s b = 117
    · rw [if_pos h117] at hR
      have hq4 : ((s[b].toNat : Int) == 117) = true := by rw [hb1, h117]; rfl
      obtain ⟨R2, hR2⟩ : ∃ R2, R2 = numG s b 4 d 0 := ⟨_, rfl⟩
      have hok := HOK.out
      rw [if_pos h117] at hok
      rw [← hR2] at hR hok
      have HR := Lib.hid hR
      have HOK2 := Lib.hid hok
      have h00 : RNRel s b 4 R2 (.int .i64 (d : Int)) (.int .i64 0) (.int .i64 0) := ⟨4, d, 0, 0, rfl, rfl, rfl, Nat.zero_add _, hR2.symm, by omega, by decide, HX.out.2.2.1⟩
      have H00 := Lib.hid h00
      clear hR hok hR2 h00
      clear hb1 h117
      go_wp2
      go_loop [6, 8, 12] (fun i c j => RNRel s b 4 R2 i c j) (fun _ _ j => 4 - (intOf j).toNat)
      case atStart => exact H00.out
      case round =>
        clear H00
        obtain ⟨k, g, jn, z, rfl, rfl, rfl, hkc, hG, hz0, hzk, hgs⟩ := hrel
        have HZK := Lib.hid hzk
        have HZM := Lib.hid (num_le hz0 hzk)
        clear hzk
        cases k with
        | zero =>
          have hjj : ¬ (jn : Int) < 4 := by omega
          clear hz0
          unfold numG at hG
          cases hokc : okc z
          · rw [hokc, if_neg (by decide)] at hG
            subst hG
            have hR := HR.out
            rw [if_neg (by simp)] at hR
            subst hR
            have HNO := Lib.hid (is_no z hokc)
            clear hokc hkc hgs hown
            go_wp2_with fail
            refine (HNO.out _).mono ?_
            rintro e w5 ⟨rfl, rfl⟩
            go_wp2
            go_ret3
            exact ⟨_, rfl, ints_nil _, hbel⟩
          · rw [hokc, if_pos rfl] at hG
            subst hG
            have hR := HR.out
            obtain ⟨_, hn1, hn2⟩ := HOK2.out rfl
            obtain ⟨cn, rfl, hcn⟩ := okc_nat hokc
            dsimp only at hR hn1 hn2
            rw [if_pos rfl, Int.toNat_natCast] at hR
            have HRES := Lib.hid hR
            have HNLE := Lib.hid hn2
            have HNLT := Lib.hid (show a + 1 ≤ g ∧ s.size ≤ a + (f + 1) by have := HX.out; omega)
            have HYES := Lib.hid (is_yes (cn : Int) hokc)
            clear hokc hkc hgs hR hn1 hn2 hcn
            go_wp2_with fail
            refine (HYES.out _).mono ?_
            rintro e w5 ⟨rfl, rfl⟩
            clear HYES HZM HZK HOK2 hjj
            by_cases hfull : acc.length = 65536
            · have hR := HRES.out
              rw [if_pos hfull] at hR
              subst hR
              obtain ⟨M, hM⟩ : ∃ M : Int, (acc.length : Int) = M := ⟨_, rfl⟩
              have hfI : (65536 : Int) ≤ M := by omega
              clear hfull hown
              go_wp2
              go_ret3
              exact ⟨_, rfl, ints_nil _, hbel⟩
            · have hR := HRES.out
              rw [if_neg hfull] at hR
              obtain ⟨M, hM⟩ : ∃ M : Int, (acc.length : Int) = M := ⟨_, rfl⟩
              have hfI : ¬ (65536 : Int) ≤ M := by have := HAL.out; omega
              have HFU := Lib.hid hfull
              have HR := Lib.hid hR
              have hszz := Below.size hbel
              clear hfull hR
              go_wp2_with (at_builtin; refine wpList_append_own _ rfl _ _ 31 rfl w.heap.size 3 i0 (.int .i64 0) 1 8 Tryd.underlying31 hi hz0 hz1 hz2 rfl (by decide) _ _ _ rfl (World.ownsRow.alloc hown _) ⟨wr.heap.size, 0, none⟩ 1 1 [.int .i64 (cn : Int)] rfl rfl ?c1 ?c2 ?c3 ?c4 ?c5 ?_)
              case c1 =>
                intro j u hj
                match j, hj with
                | 0, hj => simp at hj; subst hj; simp [Addr.add]
              case c2 => intro u hu; simp at hu; subst hu; rfl
              case c3 => have := HAL.out; unfold maxLen; omega
              case c4 => have := HAL.out; omega
              case c5 => simp; omega
              intro v' w9 hown' hgrow _
              have hb9 := below_append hbel (Nat.le_refl _) hown hgrow
              clear hown
              go_wp2
              go_roundw
              case rel =>
                refine ⟨g, f, acc ++ [cn], ?_, rfl, hb9, HR.out, by have := HNLT.out; omega, HNLE.out, by have := HFU.out; have := HAL.out; rw [List.length_append, List.length_singleton]; omega⟩
                have e : intsV (acc ++ [cn]) = intsV acc ++ [.int .i64 (cn : Int)] := by simp [intsV]
                unfold Ints
                rw [e, List.length_append]
                exact hown'
              case measure => have := HNLT.out; simp [intOf]; omega
        | succ k =>
          have hjlt : (jn : Int) < 4 := by omega
          have hjw : IntKind.i64.wrap ((jn : Int) + 1) = (jn : Int) + 1 := IntWalk.i64_in _ (by omega)
          have HJN := Lib.hid hkc
          by_cases hge2 : s.size ≤ g
          · unfold numG at hG
            rw [if_pos hge2] at hG
            subst hG
            have hR := HR.out
            rw [if_neg (by simp)] at hR
            subst hR
            have hgeI : (s.size : Int) ≤ (g : Int) := by omega
            clear hkc hgs hjw hge2 hz0 hown
            go_wp2
            go_ret3
            exact ⟨_, rfl, ints_nil _, hbel⟩
          · unfold numG at hG
            rw [if_neg hge2] at hG
            have hgi : g < s.size := by omega
            have hgeI : ¬ (s.size : Int) ≤ (g : Int) := by omega
            have hbg := byteAt_eq s g hgi
            have hbgl := byteAt_lt s g
            have hdv := digit_any (s[g].toNat : Int) (by omega) (by omega)
            rw [hbg, Int.toNat_natCast] at hdv
            have hr := hexv_range (byteAt s g)
            have hgw : IntKind.i64.wrap ((g : Int) + 1) = (g : Int) + 1 := IntWalk.i64_in _ (by omega)
            generalize hexv (byteAt s g) = dv at *
            have HDV := Lib.hid hdv
            by_cases hneg : dv < 0
            · rw [if_pos hneg] at hG
              subst hG
              have hR := HR.out
              by_cases h90 : (9 : Int) = 0
              · exact absurd h90 (by decide)
              rw [if_neg h90] at hR
              subst hR
              clear h90 hkc hgs hjw hge2 hz0 hdv hbgl hr hown
              go_wp2_with fail
              try rw [hbg]
              refine (HDV.out _).mono ?_
              rintro e w5 ⟨rfl, rfl⟩
              go_wp2
              go_ret3
              exact ⟨_, rfl, ints_nil _, hbel⟩
            · rw [if_neg hneg] at hG
              have HG2 := Lib.hid hG
              have hm1 : IntKind.i64.wrap (16 * z) = 16 * z := IntWalk.i64_in _ (by have := HZM.out; omega)
              have hm2 : IntKind.i64.wrap (16 * z + dv) = 16 * z + dv := IntWalk.i64_in _ (by have := HZM.out; omega)
              have HB2 := Lib.hid (num_bound hz0 (by omega) hr.2 HZK.out)
              have HRR := Lib.hid hr
              have HKC := Lib.hid hkc
              have HZ0 := Lib.hid hz0
              clear hdv hge2 hbgl hr hG hkc hz0
              go_wp2_with fail
              try rw [hbg]
              refine (HDV.out _).mono ?_
              rintro e w5 ⟨rfl, rfl⟩
              go_wp2_with fail
              try rw [hbg]
              refine (HDV.out _).mono ?_
              rintro e w6 ⟨rfl, rfl⟩
              go_wp2
              go_round
              case rel =>
                refine ⟨k, g + 1, jn + 1, 16 * z + dv, by go_num, rfl, by go_num, by have := HKC.out; omega, HG2.out, by have := HRR.out; have := HZ0.out; omega, HB2.out, by omega⟩
              case measure => have := HJN.out; simp [intOf]; omega
    rw [if_neg h117] at hR
    have hq4 : ((s[b].toNat : Int) == 117) = false := by rw [hb1]; simp; omega
    by_cases h85 : byteAt s b = 85
    · rw [if_pos h85] at hR
      have hq5 : ((s[b].toNat : Int) == 85) = true := by rw [hb1, h85]; rfl
      obtain ⟨R2, hR2⟩ : ∃ R2, R2 = numG s b 6 d 0 := ⟨_, rfl⟩
      have hok := HOK.out
      rw [if_neg h117, if_pos h85] at hok
      rw [← hR2] at hR hok
      have HR := Lib.hid hR
      have HOK2 := Lib.hid hok
      have h00 : RNRel s b 6 R2 (.int .i64 (d : Int)) (.int .i64 0) (.int .i64 0) := ⟨6, d, 0, 0, rfl, rfl, rfl, Nat.zero_add _, hR2.symm, by omega, by decide, HX.out.2.2.1⟩
      have H00 := Lib.hid h00
      clear hR hok hR2 h00
      clear hb1 h117 h85
      go_wp2
      go_loop [6, 8, 12] (fun i c j => RNRel s b 6 R2 i c j) (fun _ _ j => 6 - (intOf j).toNat)
      case atStart => exact H00.out
      case round =>
        clear H00
        obtain ⟨k, g, jn, z, rfl, rfl, rfl, hkc, hG, hz0, hzk, hgs⟩ := hrel
        have HZK := Lib.hid hzk
        have HZM := Lib.hid (num_le hz0 hzk)
        clear hzk
        cases k with
        | zero =>
          have hjj : ¬ (jn : Int) < 6 := by omega
          clear hz0
          unfold numG at hG
          cases hokc : okc z
          · rw [hokc, if_neg (by decide)] at hG
            subst hG
            have hR := HR.out
            rw [if_neg (by simp)] at hR
            subst hR
            have HNO := Lib.hid (is_no z hokc)
            clear hokc hkc hgs hown
            go_wp2_with fail
            refine (HNO.out _).mono ?_
            rintro e w5 ⟨rfl, rfl⟩
            go_wp2
            go_ret3
            exact ⟨_, rfl, ints_nil _, hbel⟩
          · rw [hokc, if_pos rfl] at hG
            subst hG
            have hR := HR.out
            obtain ⟨_, hn1, hn2⟩ := HOK2.out rfl
            obtain ⟨cn, rfl, hcn⟩ := okc_nat hokc
            dsimp only at hR hn1 hn2
            rw [if_pos rfl, Int.toNat_natCast] at hR
            have HRES := Lib.hid hR
            have HNLE := Lib.hid hn2
            have HNLT := Lib.hid (show a + 1 ≤ g ∧ s.size ≤ a + (f + 1) by have := HX.out; omega)
            have HYES := Lib.hid (is_yes (cn : Int) hokc)
            clear hokc hkc hgs hR hn1 hn2 hcn
            go_wp2_with fail
            refine (HYES.out _).mono ?_
            rintro e w5 ⟨rfl, rfl⟩
            clear HYES HZM HZK HOK2 hjj
            by_cases hfull : acc.length = 65536
            · have hR := HRES.out
              rw [if_pos hfull] at hR
              subst hR
              obtain ⟨M, hM⟩ : ∃ M : Int, (acc.length : Int) = M := ⟨_, rfl⟩
              have hfI : (65536 : Int) ≤ M := by omega
              clear hfull hown
              go_wp2
              go_ret3
              exact ⟨_, rfl, ints_nil _, hbel⟩
            · have hR := HRES.out
              rw [if_neg hfull] at hR
              obtain ⟨M, hM⟩ : ∃ M : Int, (acc.length : Int) = M := ⟨_, rfl⟩
              have hfI : ¬ (65536 : Int) ≤ M := by have := HAL.out; omega
              have HFU := Lib.hid hfull
              have HR := Lib.hid hR
              have hszz := Below.size hbel
              clear hfull hR
              go_wp2_with (at_builtin; refine wpList_append_own _ rfl _ _ 31 rfl w.heap.size 3 i0 (.int .i64 0) 1 8 Tryd.underlying31 hi hz0 hz1 hz2 rfl (by decide) _ _ _ rfl (World.ownsRow.alloc hown _) ⟨wr.heap.size, 0, none⟩ 1 1 [.int .i64 (cn : Int)] rfl rfl ?c1 ?c2 ?c3 ?c4 ?c5 ?_)
              case c1 =>
                intro j u hj
                match j, hj with
                | 0, hj => simp at hj; subst hj; simp [Addr.add]
              case c2 => intro u hu; simp at hu; subst hu; rfl
              case c3 => have := HAL.out; unfold maxLen; omega
              case c4 => have := HAL.out; omega
              case c5 => simp; omega
              intro v' w9 hown' hgrow _
              have hb9 := below_append hbel (Nat.le_refl _) hown hgrow
              clear hown
              go_wp2
              go_roundw
              case rel =>
                refine ⟨g, f, acc ++ [cn], ?_, rfl, hb9, HR.out, by have := HNLT.out; omega, HNLE.out, by have := HFU.out; have := HAL.out; rw [List.length_append, List.length_singleton]; omega⟩
                have e : intsV (acc ++ [cn]) = intsV acc ++ [.int .i64 (cn : Int)] := by simp [intsV]
                unfold Ints
                rw [e, List.length_append]
                exact hown'
              case measure => have := HNLT.out; simp [intOf]; omega
        | succ k =>
          have hjlt : (jn : Int) < 6 := by omega
          have hjw : IntKind.i64.wrap ((jn : Int) + 1) = (jn : Int) + 1 := IntWalk.i64_in _ (by omega)
          have HJN := Lib.hid hkc
          by_cases hge2 : s.size ≤ g
          · unfold numG at hG
            rw [if_pos hge2] at hG
            subst hG
            have hR := HR.out
            rw [if_neg (by simp)] at hR
            subst hR
            have hgeI : (s.size : Int) ≤ (g : Int) := by omega
            clear hkc hgs hjw hge2 hz0 hown
            go_wp2
            go_ret3
            exact ⟨_, rfl, ints_nil _, hbel⟩
          · unfold numG at hG
            rw [if_neg hge2] at hG
            have hgi : g < s.size := by omega
            have hgeI : ¬ (s.size : Int) ≤ (g : Int) := by omega
            have hbg := byteAt_eq s g hgi
            have hbgl := byteAt_lt s g
            have hdv := digit_any (s[g].toNat : Int) (by omega) (by omega)
            rw [hbg, Int.toNat_natCast] at hdv
            have hr := hexv_range (byteAt s g)
            have hgw : IntKind.i64.wrap ((g : Int) + 1) = (g : Int) + 1 := IntWalk.i64_in _ (by omega)
            generalize hexv (byteAt s g) = dv at *
            have HDV := Lib.hid hdv
            by_cases hneg : dv < 0
            · rw [if_pos hneg] at hG
              subst hG
              have hR := HR.out
              by_cases h90 : (9 : Int) = 0
              · exact absurd h90 (by decide)
              rw [if_neg h90] at hR
              subst hR
              clear h90 hkc hgs hjw hge2 hz0 hdv hbgl hr hown
              go_wp2_with fail
              try rw [hbg]
              refine (HDV.out _).mono ?_
              rintro e w5 ⟨rfl, rfl⟩
              go_wp2
              go_ret3
              exact ⟨_, rfl, ints_nil _, hbel⟩
            · rw [if_neg hneg] at hG
              have HG2 := Lib.hid hG
              have hm1 : IntKind.i64.wrap (16 * z) = 16 * z := IntWalk.i64_in _ (by have := HZM.out; omega)
              have hm2 : IntKind.i64.wrap (16 * z + dv) = 16 * z + dv := IntWalk.i64_in _ (by have := HZM.out; omega)
              have HB2 := Lib.hid (num_bound hz0 (by omega) hr.2 HZK.out)
              have HRR := Lib.hid hr
              have HKC := Lib.hid hkc
              have HZ0 := Lib.hid hz0
              clear hdv hge2 hbgl hr hG hkc hz0
              go_wp2_with fail
              try rw [hbg]
              refine (HDV.out _).mono ?_
              rintro e w5 ⟨rfl, rfl⟩
              go_wp2_with fail
              try rw [hbg]
              refine (HDV.out _).mono ?_
              rintro e w6 ⟨rfl, rfl⟩
              go_wp2
              go_round
              case rel =>
                refine ⟨k, g + 1, jn + 1, 16 * z + dv, by go_num, rfl, by go_num, by have := HKC.out; omega, HG2.out, by have := HRR.out; have := HZ0.out; omega, HB2.out, by omega⟩
              case measure => have := HJN.out; simp [intOf]; omega
    rw [if_neg h85] at hR
    have hq5 : ((s[b].toNat : Int) == 85) = false := by rw [hb1]; simp; omega
    have hev := escape_any (s[b].toNat : Int) (by omega) (by have := HBL1.out; omega)
    rw [hb1, Int.toNat_natCast] at hev
    have hvr := escv_range (byteAt s b)
    have hok3 := HOK.out
    rw [if_neg h117, if_neg h85] at hok3
    generalize escv (byteAt s b) = ev at *
    have HEV := Lib.hid hev
    by_cases hneg : ev < 0
    · rw [if_pos hneg] at hR
      by_cases h80 : (8 : Int) = 0
      · exact absurd h80 (by decide)
      rw [if_neg h80] at hR
      subst hR
      clear h80 hev h117 h85 hvr hok3 hown
      go_wp2_with fail
      try rw [hb1]
      refine (HEV.out _).mono ?_
      rintro e w1 ⟨rfl, hbb⟩
      go_wp2
      go_ret3
      exact ⟨_, rfl, ints_nil _, below_from hbel hbb (Nat.le_refl _)⟩
    rw [if_neg hneg] at hR hok3
    have HOK3 := Lib.hid hok3
    have hG0 : numG s b 0 d ev = (ev, d, 0) := by unfold numG; rw [if_pos (okc_of (by omega) (by omega))]
    rw [← hG0] at hR hok3
    have HOK := Lib.hid hok3
    have HVR := Lib.hid hvr
    clear hev h117 h85 hvr hok3 hG0
    obtain ⟨R2, hR2⟩ : ∃ R2, R2 = numG s b 0 d ev := ⟨_, rfl⟩
    have hok := HOK.out
    rw [← hR2] at hR hok
    have HR := Lib.hid hR
    have HOK2 := Lib.hid hok
    have h00 : RNRel s b 0 R2 (.int .i64 (d : Int)) (.int .i64 ev) (.int .i64 0) := ⟨0, d, 0, ev, rfl, rfl, rfl, Nat.zero_add _, hR2.symm, by omega, by have := HVR.out; rw [Int.pow_zero]; omega, HX.out.2.2.1⟩
    have H00 := Lib.hid h00
    clear hR hok hR2 h00
    have HVN := Lib.hid hneg
    clear hneg
    go_wp2_with fail
    try rw [hb1]
    refine (HEV.out _).mono ?_
    rintro e w1 ⟨rfl, hbb⟩
    have hown1 := row_below hown (Nat.le_refl _) hbb
    have hbel1 := below_from hbel hbb (Nat.le_refl _)
    clear hown hbel hbb hb1
    have hneg : ¬ ev < 0 := by have := HVN.out; omega
    go_wp2
    clear hneg
    go_loop [6, 8, 12] (fun i c j => RNRel s b 0 R2 i c j) (fun _ _ j => 0 - (intOf j).toNat)
    case atStart => exact H00.out
    case round =>
      clear H00
      obtain ⟨k, g, jn, z, rfl, rfl, rfl, hkc, hG, hz0, hzk, hgs⟩ := hrel
      have HZK := Lib.hid hzk
      have HZM := Lib.hid (num_le hz0 hzk)
      clear hzk
      cases k with
      | zero =>
        have hjj : ¬ (jn : Int) < 0 := by omega
        clear hz0
        unfold numG at hG
        cases hokc : okc z
        · rw [hokc, if_neg (by decide)] at hG
          subst hG
          have hR := HR.out
          rw [if_neg (by simp)] at hR
          subst hR
          have HNO := Lib.hid (is_no z hokc)
          clear hokc hkc hgs hown1
          go_wp2_with fail
          refine (HNO.out _).mono ?_
          rintro e w5 ⟨rfl, rfl⟩
          go_wp2
          go_ret3
          exact ⟨_, rfl, ints_nil _, hbel1⟩
        · rw [hokc, if_pos rfl] at hG
          subst hG
          have hR := HR.out
          obtain ⟨_, hn1, hn2⟩ := HOK2.out rfl
          obtain ⟨cn, rfl, hcn⟩ := okc_nat hokc
          dsimp only at hR hn1 hn2
          rw [if_pos rfl, Int.toNat_natCast] at hR
          have HRES := Lib.hid hR
          have HNLE := Lib.hid hn2
          have HNLT := Lib.hid (show a + 1 ≤ g ∧ s.size ≤ a + (f + 1) by have := HX.out; omega)
          have HYES := Lib.hid (is_yes (cn : Int) hokc)
          clear hokc hkc hgs hR hn1 hn2 hcn
          go_wp2_with fail
          refine (HYES.out _).mono ?_
          rintro e w5 ⟨rfl, rfl⟩
          clear HYES HZM HZK HOK2 hjj
          by_cases hfull : acc.length = 65536
          · have hR := HRES.out
            rw [if_pos hfull] at hR
            subst hR
            obtain ⟨M, hM⟩ : ∃ M : Int, (acc.length : Int) = M := ⟨_, rfl⟩
            have hfI : (65536 : Int) ≤ M := by omega
            clear hfull hown1
            go_wp2
            go_ret3
            exact ⟨_, rfl, ints_nil _, hbel1⟩
          · have hR := HRES.out
            rw [if_neg hfull] at hR
            obtain ⟨M, hM⟩ : ∃ M : Int, (acc.length : Int) = M := ⟨_, rfl⟩
            have hfI : ¬ (65536 : Int) ≤ M := by have := HAL.out; omega
            have HFU := Lib.hid hfull
            have HR := Lib.hid hR
            have hszz := Below.size hbel1
            clear hfull hR
            go_wp2_with (at_builtin; refine wpList_append_own _ rfl _ _ 31 rfl w.heap.size 3 i0 (.int .i64 0) 1 8 Tryd.underlying31 hi hz0 hz1 hz2 rfl (by decide) _ _ _ rfl (World.ownsRow.alloc hown1 _) ⟨w1.heap.size, 0, none⟩ 1 1 [.int .i64 (cn : Int)] rfl rfl ?c1 ?c2 ?c3 ?c4 ?c5 ?_)
            case c1 =>
              intro j u hj
              match j, hj with
              | 0, hj => simp at hj; subst hj; simp [Addr.add]
            case c2 => intro u hu; simp at hu; subst hu; rfl
            case c3 => have := HAL.out; unfold maxLen; omega
            case c4 => have := HAL.out; omega
            case c5 => simp; omega
            intro v' w9 hown' hgrow _
            have hb9 := below_append hbel1 (Nat.le_refl _) hown1 hgrow
            clear hown1
            go_wp2
            go_roundw
            case rel =>
              refine ⟨g, f, acc ++ [cn], ?_, rfl, hb9, HR.out, by have := HNLT.out; omega, HNLE.out, by have := HFU.out; have := HAL.out; rw [List.length_append, List.length_singleton]; omega⟩
              have e : intsV (acc ++ [cn]) = intsV acc ++ [.int .i64 (cn : Int)] := by simp [intsV]
              unfold Ints
              rw [e, List.length_append]
              exact hown'
            case measure => have := HNLT.out; simp [intOf]; omega
      | succ k => exact absurd hkc (by omega)
end Go.Proofs.YtjpnkffdpcfnjaaDoor
