/-
  acheronref03: Stream, Mask.
-/
import Derived.Test.YthhaofdnbemogaaDoorStm
import Derived.Test.YthhaofdnbemogaaDoorRsK
set_option linter.unusedVariables false
namespace Go.Proofs.YthhaofdnbemogaaDoor
open Go.RowKit

theorem own_below {w w' : World} {base : Nat} {e : TypeId} {size n : Nat} {v : Value} {xs : List Value} (h : w.ownsRow base e size v n xs) (hb : Below w.heap.size w w') : w'.ownsRow base e size v n xs := by
  refine ⟨h.1, ?_⟩
  rcases h.2 with hn | ⟨g, cap, cur, hv, h1, h2, rest⟩
  · exact .inl hn
  · exact .inr ⟨g, cap, cur, hv, h1, (hb.block g (Array.getElem?_eq_some_iff.1 h2).1).trans h2, rest⟩
theorem ksL_snoc (key : List UInt8) (nonce f k : Nat) : ksL key nonce f (k + 1) = ksL key nonce f k ++ [(ksB key nonce ((f + k) / 32)).getD ((f + k) % 32) 0] := by
  simp [ksL, List.range_succ]

def SRRel (key : List UInt8) (nonce f n : Nat) (w : World) (v bl la i : Value) (wr : World) : Prop :=
  ∃ (k : Nat) (bk : Value) (l : Int) (vv : Value), vv = v ∧ bk = bl ∧ la = .int .i64 l ∧ k ≤ n ∧ i = .int .i64 ((f + k : Nat) : Int) ∧ wr.ownsRow w.heap.size 5 1 v k (u8s (ksL key nonce f k)) ∧
    ((k = 0 ∧ l = -1) ∨ (0 < k ∧ l = (((f + k - 1) / 32 : Nat) : Int) ∧ bk = .string (strL (ksB key nonce ((f + k - 1) / 32))))) ∧ Below w.heap.size w wr

set_option maxHeartbeats 8000000 in
set_option maxRecDepth 100000 in
theorem refStream_any (key : ByteArray) (nonce f n : Nat) (hk : key.size ≤ 1000000) (hno : nonce < 9223372036854775808) (hf : f ≤ 1048576) (hn : n ≤ 1048576) (w : World) :
    Calls Tryd.prog 24 #[.string key, .int .i64 (nonce : Int), .int .i64 (f : Int), .int .i64 (n : Int)] w fun e w' => e = .returned (.string (strL (ksL key.data.toList nonce f n))) ∧ Below w.heap.size w w' := by
  obtain ⟨i0, hi, hz0, hz1, hz2⟩ := info_parts infoU8
  have HN := Lib.hid hn
  have HF := Lib.hid hf
  have HK := Lib.hid hk
  have HNO := Lib.hid hno
  have hfI : (f : Int) ≤ 1048576 := by omega
  have hnI : (n : Int) ≤ 1048576 := by omega
  clear hn hf hk hno
  go_enter Tryd.func24, Tryd.ntmps24
  go_wp2
  go_loopw [9, 10, 11, 12] (fun v bl la i wr => SRRel key.data.toList nonce f n w v bl la i wr) (fun _ _ _ i _ => f + n - (intOf i).toNat)
  case atStart => exact ⟨0, _, _, _, rfl, rfl, rfl, Nat.zero_le _, rfl, ⟨rfl, .inr ⟨w.heap.size, 0, #[], rfl, Nat.le_refl _, heap_alloc_new w _, Nat.le_refl _, by decide, rfl, rfl⟩⟩, .inl ⟨rfl, rfl⟩, (Below.refl _ _).alloc (Nat.le_refl _) _⟩
  case round =>
    obtain ⟨k, bk, l, v, rfl, rfl, rfl, hk, rfl, hown, hcase, hbel⟩ := hrel
    obtain ⟨i, hie⟩ : ∃ z : Nat, z = f + k := ⟨_, rfl⟩
    rw [← hie]
    have HOW := Lib.hid hown
    have HB := Lib.hid hbel
    have HIE := Lib.hid hie
    by_cases hlt : k < n
    · have hltI : (i : Int) < (f : Int) + (n : Int) := by omega
      obtain ⟨d, hd⟩ : ∃ z : Nat, z = i / 32 := ⟨_, rfl⟩
      obtain ⟨r, hr⟩ : ∃ z : Nat, z = i % 32 := ⟨_, rfl⟩
      have ed1 : (i : Int) / 32 = (d : Int) := by omega
      have ed2 : (i : Int).tdiv 32 = (d : Int) := by rw [Int.tdiv_eq_ediv_of_nonneg (by omega)]; exact ed1
      have er1 : (i : Int) % 32 = (r : Int) := by omega
      have er2 : (i : Int).tmod 32 = (r : Int) := by rw [Int.tmod_eq_emod_of_nonneg (by omega)]; exact er1
      have hib : (i : Int) ≤ 2097152 := by have := HF.out; have := HN.out; omega
      have hdb : d ≤ 70000 := by have := HF.out; have := HN.out; omega
      have hr32 : r < 32 := by omega
      obtain ⟨q, hq⟩ : ∃ z, z = strL (ksB key.data.toList nonce d) := ⟨_, rfl⟩
      have hqs : q.size = 32 := by rw [hq, strL_size, ksB_len]
      have hqd : q.data.toList = ksB key.data.toList nonce d := by rw [hq, strL_data]
      have HST : Hid (ksL key.data.toList nonce f (k + 1) = ksL key.data.toList nonce f k ++ [q.data.toList.getD r 0]) := Lib.hid (by rw [ksL_snoc, hqd, hd, hr, hie])
      have HQ := Lib.hid hq
      have HD := Lib.hid hd
      have HR := Lib.hid hr32
      have HQS := Lib.hid hqs
      have hcase' : (¬ l = (d : Int)) ∨ (l = (d : Int) ∧ bk = .string q) := by
        rcases hcase with ⟨_, hl⟩ | ⟨h0, hl, hb⟩
        · left; omega
        · by_cases he : (f + k - 1) / 32 = d
          · right; rw [he] at hl hb; exact ⟨hl, by rw [hb, hq]⟩
          · left; omega
      have HC := Lib.hid hcase'
      clear hown hcase hbel hie hd hr hq hqs hqd hcase' hr32
      go_upto_if 25 with (fail)
      go_cut [10, 11] (fun v10 v11 w' => v10 = .string q ∧ v11 = .int .i64 (d : Int) ∧ w'.ownsRow w.heap.size 5 1 v k (u8s (ksL key.data.toList nonce f k)) ∧ Below w.heap.size w w')
      case first =>
        rcases HC.out with hl | ⟨rfl, rfl⟩
        · have hl2 : ¬ (d : Int) = l := fun e => hl e.symm
          have HB1 := Lib.hid (fun w => refBytes8 (nonce : Int) (by omega) (by have := HNO.out; omega) w)
          have HB2 := Lib.hid (fun w => refBytes8 (d : Int) (by omega) (by omega) w)
          obtain ⟨q1, hq1⟩ : ∃ q, q = strL (beL 8 (nonce : Int)) := ⟨_, rfl⟩
          obtain ⟨q2, hq2⟩ : ∃ q, q = strL (beL 8 (d : Int)) := ⟨_, rfl⟩
          rw [← hq1] at HB1
          rw [← hq2] at HB2
          have hs1 : q1.size = 8 := by rw [hq1, strL_size, beL_len]
          have hs2 : q2.size = 8 := by rw [hq2, strL_size, beL_len]
          have hqd : (q1 ++ q2).data.toList = beL 8 (nonce : Int) ++ beL 8 (d : Int) := by rw [hq1, hq2]; simp [strL]
          have HM := Lib.hid (fun w => refMac_any key (q1 ++ q2) (by have := HK.out; omega) (by rw [ByteArray.size_append]; omega) w)
          have hqq : strL (macL key.data.toList (q1 ++ q2).data.toList) = q := by rw [hqd, HQ.out]; rfl
          rw [hqq] at HM
          have hcat : ¬ (9223372036854775807 < q1.data.toList.length + q2.data.toList.length) := by simp; omega
          clear hq1 hq2 hs1 hs2 hqd hqq hl
          go_wp2_with fail
          refine (HB1.out _).mono ?_
          rintro e w1 ⟨rfl, hb⟩
          have HO1 := Lib.hid (own_below HOW.out hb)
          have HBB1 := Lib.hid (HB.out.trans (hb.mono HB.out.size))
          clear hb
          go_wp2_with fail
          refine (HB2.out _).mono ?_
          rintro e w2 ⟨rfl, hb⟩
          have HO2 := Lib.hid (own_below HO1.out hb)
          have HBB2 := Lib.hid (HBB1.out.trans (hb.mono HBB1.out.size))
          clear hb
          go_wp2_with fail
          refine (HM.out _).mono ?_
          rintro e w3 ⟨rfl, hb⟩
          have HO3 := Lib.hid (own_below HO2.out hb)
          have HBB3 := Lib.hid (HBB2.out.trans (hb.mono HBB2.out.size))
          clear hb
          go_wp2_with fail
          go_meet
          exact ⟨rfl, rfl, HO3.out, HBB3.out⟩
        · go_wp2_with fail
          go_meet
          exact ⟨rfl, rfl, HOW.out, HB.out⟩
      case rest =>
        obtain ⟨rfl, rfl, hown, hbel⟩ := hcut
        have hrq : (r : Int) < (q.size : Int) := by have := HR.out; have := HQS.out; omega
        have hrq' : r < q.size := by have := HR.out; have := HQS.out; omega
        have hgd : q.data.toList.getD r 0 = q[r] := by
          rw [List.getD_eq_getElem?_getD, List.getElem?_eq_getElem (by simpa using hrq')]
          rfl
        have hxl : (u8s (ksL key.data.toList nonce f k)).length = k := by rw [u8s_len, ksL_len]
        have hen : Hid (u8s (ksL key.data.toList nonce f (k + 1)) = u8s (ksL key.data.toList nonce f k) ++ [.int .u8 (q[r].toNat : Int)]) := Lib.hid (by
          rw [HST.out, u8s_append, hgd]; rfl)
        have hkb : k ≤ 1048576 := by have := HN.out; omega
        have hba := hbel.size
        have HBE := Lib.hid hbel
        have HKB := Lib.hid hkb
        clear hgd hkb HOW HB HC
        go_wp2_with (at_builtin; refine wpList_append_own _ rfl _ _ 47 rfl w.heap.size 5 i0 (.int .u8 0) 1 1 Tryd.underlying47 hi hz0 hz1 hz2 rfl (by decide) _ _ _ rfl (hown.alloc _) ⟨wc.heap.size, 0, none⟩ 1 1 [.int .u8 (q[r].toNat : Int)] rfl rfl ?c1 ?c2 ?c3 ?c4 ?c5 ?_)
        case c1 =>
          intro j u hj
          match j, hj with
          | 0, hj => simp at hj; subst hj; simp [Addr.add]
        case c2 => intro u hu; simp at hu; subst hu; rfl
        case c3 => have := HKB.out; unfold maxLen; omega
        case c4 => have := HKB.out; omega
        case c5 => simp; omega
        intro v' w9 hown' hgrow _
        have HO9 := Lib.hid hown'
        have HB9 := Lib.hid (((HBE.out.alloc hba _).grown hgrow (by simp; omega) (fun g hg => (hown.lt g hg).1)))
        clear hown' hgrow hown hbel hxl hba
        go_wp2
        go_roundw
        case rel => exact ⟨k + 1, _, _, _, rfl, rfl, rfl, by omega, by rw [HIE.out]; go_num, by rw [hen.out]; exact HO9.out, .inr ⟨by omega, by rw [show f + (k + 1) - 1 = i by rw [HIE.out]; omega]; rw [HD.out], by rw [show f + (k + 1) - 1 = i by rw [HIE.out]; omega, ← HD.out, ← HQ.out]⟩, HB9.out⟩
        case measure => have := HIE.out; simp [intOf]; omega
    · obtain rfl : k = n := by omega
      have hltI : ¬ (i : Int) < (f : Int) + (k : Int) := by omega
      have hcv := own_conv hown
      clear hown hcase hbel HOW
      go_wp2
      go_ret
      exact ⟨rfl, HB.out⟩
end Go.Proofs.YthhaofdnbemogaaDoor
