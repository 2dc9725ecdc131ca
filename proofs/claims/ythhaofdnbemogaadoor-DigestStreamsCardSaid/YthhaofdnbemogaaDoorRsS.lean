/-
  acheronref03.Sum.
-/
import Derived.Test.YthhaofdnbemogaaDoorRsC
import Derived.BigRegion
import Derived.Deep.RegionHeld3
set_option linter.unusedVariables false
namespace Go.Proofs.YthhaofdnbemogaaDoor
open Go.RowKit

def PadRel (l : List UInt8) (v : Value) : Prop := ∃ (j : Nat) (p : ByteArray), j ≤ zerosN l.length ∧ p.data.toList = l ++ 128 :: List.replicate j 0 ∧ v = .string p

def BlkRel (w : World) (P : List UInt8) (bh bk : Nat) (v : Value) (wr : World) : Prop :=
  ∃ k : Nat, 64 * k ≤ P.length ∧ v = .int .i64 ((64 * k : Nat) : Int) ∧ Row32 wr bh 24 (hK P k) ∧ Row32 wr bk 24 cuL ∧ Below w.heap.size w wr
/-- The words of a block, when t of them are made. -/
def wK (B : List UInt8) (t : Nat) : List Int := if t ≤ 16 then schA B (4 * t) else schB (schA B 64) (t - 16)
theorem wK_hi (B : List UInt8) (t : Nat) (h : 16 ≤ t) : wK B t = schB (schA B 64) (t - 16) := by
  unfold wK
  by_cases he : t ≤ 16
  · obtain rfl : t = 16 := by omega
    rfl
  · rw [if_neg he]
/-- What a cell holds, whatever it is. -/
def curV (w : World) (b o : Nat) : Value := (w.cell? ⟨b, o, none⟩).getD undef
theorem curV_of {w : World} {b o : Nat} {v : Value} (h : w.cell? ⟨b, o, none⟩ = some v) : w.cell? ⟨b, o, none⟩ = some (curV w b o) := by unfold curV; rw [h]; rfl
theorem keepDr {w : World} {b i j t n : Nat} {z u : Value} (h0 : w.cell? ⟨b, i, none⟩ = some z) (h1 : w.cell? ⟨b, j, none⟩ = some u) (h2 : w.cell? ⟨b, t, none⟩ = some (curV w b t)) (h3 : w.frozen? ⟨b, t, none⟩ = false) :
    (w.drewN n).cell? ⟨b, i, none⟩ = some z ∧ (w.drewN n).cell? ⟨b, j, none⟩ = some u ∧ (w.drewN n).cell? ⟨b, t, none⟩ = some (curV (w.drewN n) b t) ∧ (w.drewN n).frozen? ⟨b, t, none⟩ = false := ⟨h0, h1, h2, h3⟩
theorem keepSt {w : World} {b i j t : Nat} {z u v : Value} (hi : i ≠ t) (hj : j ≠ t) (h0 : w.cell? ⟨b, i, none⟩ = some z) (h1 : w.cell? ⟨b, j, none⟩ = some u) (h2 : w.cell? ⟨b, t, none⟩ = some (curV w b t)) (h3 : w.frozen? ⟨b, t, none⟩ = false) :
    (w.setCell ⟨b, t, none⟩ v).cell? ⟨b, i, none⟩ = some z ∧ (w.setCell ⟨b, t, none⟩ v).cell? ⟨b, j, none⟩ = some u ∧ (w.setCell ⟨b, t, none⟩ v).cell? ⟨b, t, none⟩ = some (curV (w.setCell ⟨b, t, none⟩ v) b t) ∧ (w.setCell ⟨b, t, none⟩ v).frozen? ⟨b, t, none⟩ = false :=
  ⟨(World.cell?_setCell_other _ _ _ _ (fun e => hi (congrArg Addr.off e).symm)).trans h0, (World.cell?_setCell_other _ _ _ _ (fun e => hj (congrArg Addr.off e).symm)).trans h1, curV_of (World.cell?_setCell_same' w _ v (by rw [h2]; rfl)), by rw [World.frozen?_setCell]; exact h3⟩
theorem mod3 (a b c : Int) : ((a % 4294967296 + b) % 4294967296 + c) % 4294967296 = (a + b + c) % 4294967296 := by omega
theorem rights_all (n x : Int) (hn : n = 2 ∨ n = 6 ∨ n = 11 ∨ n = 13 ∨ n = 22 ∨ n = 25) (w : World) :
    Calls Tryd.prog 53 #[.int .u32 x, .int .i64 n] w fun e w' => e = .returned (.int .u32 (rotI n x)) ∧ ∃ m, w' = w.drewN m := by
  rcases hn with rfl | rfl | rfl | rfl | rfl | rfl
  · exact refright_2 x w
  · exact refright_6 x w
  · exact refright_11 x w
  · exact refright_13 x w
  · exact refright_22 x w
  · exact refright_25 x w
theorem quiet_add' {P : Program} {f : FuncId} {args : Array Value} {w : World} {a n : Nat} {v : Value}
    (h : Calls P f args (w.drewN (a + n)) fun e w' => e = .returned v ∧ ∃ m, w' = (w.drewN (a + n)).drewN m) :
    Calls P f args (w.drewN (a + n)) fun e w'' => e = .returned v ∧ ∃ m, w'' = w.drewN (a + m) :=
  h.mono fun _ _ ⟨he, m, hm⟩ => ⟨he, n + m, by rw [hm, World.drewN_drewN, Nat.add_assoc]⟩
def u32v (L : List Int) : List Value := L.map (Value.int .u32)
theorem news8 {w : World} {b : Nat} {T : TypeId} {L : List Int} (h : Row32 w b T L) : ∀ j u, (u32v L)[j]? = some u → w.cell? ((⟨b, 0, none⟩ : Addr).add j) = some u := by
  intro j u hu
  have hj : j < L.length := by have := (List.getElem?_eq_some_iff.1 hu).1; simpa [u32v] using this
  rw [addr_at, h.cell hj]
  rw [u32v, List.getElem?_map, List.getElem?_eq_getElem hj] at hu
  simp [wd, List.getD_eq_getElem?_getD, List.getElem?_eq_getElem hj] at hu ⊢
  exact hu
theorem oct_id {L : List Int} (h : L.length = 8) : octL (octOf L) = L := by
  obtain ⟨a, b, c, d, e, f, g, i, rfl⟩ := eight h
  rfl
def RndV (wz : World) (B : Nat) (H W : List Int) (v i : Value) (wr : World) : Prop :=
  ∃ t : Nat, t ≤ 64 ∧ i = .int .i64 (t : Int) ∧ VAt wr B v (octL (rnds (octOf H) W t)) ∧ Below wz.heap.size wz wr
theorem VAt.mono {w : World} {B B' : Nat} {v : Value} {L : List Int} (h : VAt w B v L) (hb : B' ≤ B) : VAt w B' v L := by
  obtain ⟨b, c, hv, h1, h2, h3⟩ := h
  exact ⟨b, c, hv, by omega, h2, h3⟩
def AddV (w : World) (bh bk b : Nat) (H D : List Int) (i : Value) (wr : World) : Prop :=
  ∃ k : Nat, k ≤ 8 ∧ i = .int .i64 (k : Int) ∧ Row32 wr bh 24 (addF H D k) ∧ Row32 wr bk 24 cuL ∧ (∀ j, j < 8 → wr.cell? ⟨b, j, none⟩ = some (.int .u32 (wd D j))) ∧ Below w.heap.size w wr
def OutV (w : World) (bh : Nat) (H : List Int) (v i : Value) (wr : World) : Prop :=
  ∃ (k : Nat) (o : ByteArray), k ≤ 8 ∧ i = .int .i64 (k : Int) ∧ v = .string o ∧ o.data.toList = outK H k ∧ Row32 wr bh 24 H ∧ Below w.heap.size w wr
def WrdRel (wo : World) (F : Nat → List Int) (m : Nat) (v : Value) (wr : World) : Prop :=
  ∃ t : Nat, t ≤ m ∧ v = .int .i64 (t : Int) ∧ Row32 wr wo.heap.size 24 (F t) ∧ Below wo.heap.size wo wr
theorem infoU32 : (Tryd.prog.info? 24).map (fun i => (i.zero, i.size, i.bytes)) = some (some (.int .u32 0), 1, 4) := by kernel_rfl
theorem made64 (w : World) : Row32 (w.alloc (.cells (madeCells #[.int .u32 0] 64) 24)) w.heap.size 24 (List.replicate 64 0) := by
  have e : madeCells #[.int .u32 0] 64 = u32s (List.replicate 64 0) := by kernel_rfl
  rw [e]
  exact heap_alloc_new w _

set_option maxHeartbeats 8000000 in
set_option maxRecDepth 100000 in
theorem refSum_any (s : ByteArray) (hs : s.size ≤ 100000000) (w : World) :
    Calls Tryd.prog 16 #[.string s] w fun e w' => e = .returned (.string (strL (shaL s.data.toList))) ∧ Below w.heap.size w w' := by
  have HN := Lib.hid hs
  have hcat : ¬ (9223372036854775807 < s.data.toList.length + 1) := by simp; omega
  clear hs
  go_enter Tryd.func16, Tryd.ntmps16
  go_wp2
  clear hcat
  go_loop [3] (fun v => PadRel s.data.toList v) (fun v => match v with | .string p => 200 + s.size - p.size | _ => 0)
  case atStart => exact ⟨0, _, by omega, by simp, rfl⟩
  case round =>
    obtain ⟨j, p, hj, hp, rfl⟩ := hrel
    have hpl : p.size = s.size + 1 + j := by
      have : p.data.toList.length = s.size + 1 + j := by rw [hp]; simp; omega
      simpa using this
    have hz : zerosN s.data.toList.length ≤ 64 := by unfold zerosN; omega
    have hzs := zeros_at s.size j (by simpa using hj)
    have hcat : ¬ (9223372036854775807 < p.data.toList.length + 1) := by simp; have := HN.out; omega
    by_cases hd : (p.size % 64 = 56)
    · have hdI : (p.size : Int) % 64 = 56 := by omega
      have hjz : j = zerosN s.size := hzs.1 (by rw [← hpl]; exact hd)
      have HP := Lib.hid hp
      have HJ := Lib.hid hjz
      have HPL := Lib.hid hpl
      have HB := Lib.hid (fun w => refBytes8 (8 * (s.size : Int)) (by omega) (by have := HN.out; omega) w)
      obtain ⟨q, hq⟩ : ∃ q, q = strL (beL 8 (8 * (s.size : Int))) := ⟨_, rfl⟩
      have hql : q.size = 8 := by rw [hq]; show (beL 8 _).toArray.size = 8; simp [beL_len]
      rw [← hq] at HB
      have hcat2 : ¬ (9223372036854775807 < p.data.toList.length + q.data.toList.length) := by simp; have := HN.out; omega
      have hsI : (s.size : Int) ≤ 100000000 := by have := HN.out; omega
      have HQ := Lib.hid hq
      have HQL := Lib.hid hql
      clear hp hj hjz hpl hz hzs hcat hd hq hql
      go_wp2_with fail
      refine (HB.out _).mono ?_
      rintro e w1 ⟨rfl, hb⟩
      have HB1 := Lib.hid hb
      clear hb
      go_wp2_with fail
      refine (refStart_any _).mono ?_
      rintro e w2 ⟨rfl, hr1, hsz1, hb⟩
      have HB2 := Lib.hid (HB1.out.trans (hb.mono HB1.out.size))
      have HR1 := Lib.hid hr1
      have HZ1 := Lib.hid hsz1
      clear hb hr1 hsz1
      go_wp2_with fail
      refine (refConstants_any _).mono ?_
      rintro e w3 ⟨rfl, hr2, hsz2, hb⟩
      have HB3 := Lib.hid (HB2.out.trans (hb.mono HB2.out.size))
      have HR2 := Lib.hid hr2
      have HZ2 := Lib.hid hsz2
      have HR1' := Lib.hid (HR1.out.below hb HR1.out.lt)
      clear hb hr2 hsz2
      obtain ⟨P, hP⟩ : ∃ P, P = msgL s.data.toList := ⟨_, rfl⟩
      have hpq : (p ++ q).data.toList = P := by
        have e1 : zerosN s.size = zerosN s.data.toList.length := by simp
        have e2 : (8 : Int) * (s.size : Int) = ((s.data.toList.length : Nat) : Int) * 8 := by simp; omega
        rw [hP, msgL, padL, ← List.append_assoc, ← e1, ← HJ.out, ← e2]
        have : (p ++ q).data.toList = p.data.toList ++ q.data.toList := by simp
        rw [this, HP.out, HQ.out]
        rfl
      obtain ⟨pq, hpqe⟩ : ∃ x, x = p ++ q := ⟨_, rfl⟩
      rw [← hpqe] at hpq
      have hpl : P.length = pq.size := by rw [← hpq]; simp
      have hpm : P.length % 64 = 0 := by rw [hP]; exact msg_mod _
      have hpb : P.length ≤ 100001000 := by
        have h1 := HN.out
        have h2 : s.data.toList.length = s.size := by simp
        have h3 : zerosN s.data.toList.length ≤ 64 := by unfold zerosN; omega
        rw [hP, msg_len]
        omega
      have HPP := Lib.hid hP
      have HPQ := Lib.hid hpq
      have HPL2 := Lib.hid hpl
      have HPM := Lib.hid hpm
      have HPB := Lib.hid hpb
      have HE := Lib.hid hpqe.symm
      clear hP hpq hpqe hpl hpm hpb
      obtain ⟨bh, hbh⟩ : ∃ x, x = w1.heap.size := ⟨_, rfl⟩
      obtain ⟨bk, hbk⟩ : ∃ x, x = w2.heap.size := ⟨_, rfl⟩
      have HBH : Hid (bh < bk ∧ w.heap.size ≤ bh ∧ bk < w3.heap.size) := Lib.hid ⟨by rw [hbh, hbk, HZ1.out]; omega, by rw [hbh]; exact HB1.out.size, by rw [hbk]; exact HR2.out.lt⟩
      rw [← hbh] at HR1'
      rw [← hbk] at HR2
      have HH := Lib.hid hbh.symm
      have HK := Lib.hid hbk.symm
      clear hbh hbk HZ1 HZ2 HR1
      go_wp2_with fail
      rw [HE.out, HH.out, HK.out]
      go_loopw [6] (fun v wr => BlkRel w P bh bk v wr) (fun v _ => pq.size - (intOf v).toNat)
      case atStart => exact ⟨0, by omega, rfl, by rw [hK_zero]; exact HR1'.out, HR2.out, HB3.out⟩
      case round =>
        clear HR1' HR2 HB3 HB2 HB1 HB HP HJ HPL HQ HQL
        obtain ⟨k, hk, rfl, hr1, hr2, hbel⟩ := hrel
        have HR1 := Lib.hid hr1
        have HR2 := Lib.hid hr2
        have HBL := Lib.hid hbel
        clear hr1 hr2 hbel
        by_cases hlt : 64 * k < pq.size
        · have hltI : ((64 * k : Nat) : Int) < (pq.size : Int) := by omega
          have hmk : ∀ w, (Instr.makeSlice 73 (.int .i64 64) (.int .i64 64)).run Tryd.prog w = .ok (.slice (some ⟨w.heap.size, 0, none⟩) 64 64) (w.alloc (.cells (madeCells #[.int .u32 0] 64) 24)) := fun w =>
            run_make_row' (P := Tryd.prog) 73 24 (.int .u32 0) 4 Tryd.underlying73 infoU32 rfl .i64 .i64 64 (by omega) (by omega) w
          obtain ⟨a, ha⟩ : ∃ a : Nat, a = 64 * k := ⟨_, rfl⟩
          rw [← ha]
          rw [← ha] at hltI
          have ha64 : a + 64 ≤ pq.size := by have h1 := HPL2.out; have h2 := HPM.out; omega
          have hab : a ≤ 100001000 := by have h1 := HPL2.out; have h2 := HPB.out; omega
          have HA := Lib.hid ha
          have HA64 := Lib.hid ha64
          have HAB := Lib.hid hab
          clear ha ha64 hab hlt hk
          go_wp2_with fail
          clear hmk hltI
          obtain ⟨w4, hw4⟩ : ∃ x, x = wr.alloc (.cells (madeCells #[.int .u32 0] 64) 24) := ⟨_, rfl⟩
          have HM4 : Hid (Row32 w4 wr.heap.size 24 (List.replicate 64 0)) := Lib.hid (by rw [hw4]; exact made64 wr)
          have HB4 : Hid (Below wr.heap.size wr w4) := Lib.hid (by rw [hw4]; exact (Below.refl _ _).alloc (Nat.le_refl _) _)
          rw [← hw4]
          clear hw4
          obtain ⟨B, hB⟩ : ∃ B, B = blk P k := ⟨_, rfl⟩
          have HBB := Lib.hid hB
          have HBY : Hid (∀ j, j < 64 → byt pq.data.toList (a + j) = byt B j) := Lib.hid (by
            intro j hj
            rw [hB, HPQ.out, HA.out]
            unfold blk byt
            rw [List.getD_eq_getElem?_getD, List.getD_eq_getElem?_getD, List.getElem?_take_of_lt hj, List.getElem?_drop])
          clear hB
          obtain ⟨wo, rfl⟩ : ∃ wo : World, wo = wr := ⟨_, rfl⟩
          go_loopw [8] (fun v w' => WrdRel wo (wK B) 64 v w') (fun v _ => 64 - (intOf v).toNat)
          case atStart => exact ⟨0, by omega, rfl, HM4.out, HB4.out⟩
          case round =>
            clear HM4 HB4
            obtain ⟨t, ht, rfl, hw, hbw⟩ := hrel
            have HW := Lib.hid hw
            have HBW := Lib.hid hbw
            clear hw hbw
            by_cases h64 : t < 64
            · have h64I : (t : Int) < 64 := by omega
              by_cases h16 : t < 16
              · have h16I : (t : Int) < 16 := by omega
                go_wp2_with fail
                go_loopw [9] (fun v w' => WrdRel wo (fun i => schA B (4 * t + i)) 4 v w') (fun v _ => 4 - (intOf v).toNat)
                case atStart => exact ⟨0, by omega, rfl, by have := HW.out; rw [wK, if_pos (by omega)] at this; exact this, HBW.out⟩
                case round =>
                  clear HW HBW
                  obtain ⟨i, hi, rfl, hw, hbw⟩ := hrel
                  have hw : Row32 wr wo.heap.size 24 (schA B (4 * t + i)) := hw
                  have HW := Lib.hid hw
                  have HBW := Lib.hid hbw
                  by_cases hi4 : i < 4
                  · have hi4I : (i : Int) < 4 := by omega
                    obtain ⟨t4, ht4⟩ : ∃ x : Nat, x = 4 * t := ⟨_, rfl⟩
                    obtain ⟨b4, hb4⟩ : ∃ x : Nat, x = a + t4 := ⟨_, rfl⟩
                    obtain ⟨x, hx⟩ : ∃ x : Nat, x = b4 + i := ⟨_, rfl⟩
                    have hxl : x < pq.size := by have := HA64.out; omega
                    have e1 : 4 * (t : Int) = (t4 : Int) := by omega
                    have e2 : (a : Int) + (t4 : Int) = (b4 : Int) := by omega
                    have e3 : (b4 : Int) + (i : Int) = (x : Int) := by omega
                    have hb1 : t4 ≤ 64 := by omega
                    have hb2 : b4 ≤ 100001064 := by have := HAB.out; omega
                    have w1 : IntKind.i64.wrap (t4 : Int) = (t4 : Int) := IntWalk.i64_in _ (by omega)
                    have w2 : IntKind.i64.wrap (b4 : Int) = (b4 : Int) := IntWalk.i64_in _ (by omega)
                    have w3 : IntKind.i64.wrap (x : Int) = (x : Int) := IntWalk.i64_in _ (by omega)
                    have hxI : (x : Int) < (pq.size : Int) := by omega
                    have hlen : (schA B (4 * t + i)).length = 64 := schA_len _ _
                    have hcell := hw.cell (j := t) (by omega)
                    have hfr := hw.frozen t
                    have hbt := byt_at pq x hxl
                    have hby : byt pq.data.toList x = byt B (4 * t + i) := by rw [show x = a + (4 * t + i) by omega]; exact HBY.out _ (by omega)
                    have HST : Hid (schA B (4 * t + (i + 1)) = (schA B (4 * t + i)).set t (bits .or .u32 (wd (schA B (4 * t + i)) t * 256 % 4294967296) ((pq[x].toNat : Int) % 4294967296))) := Lib.hid (by
                      rw [hbt, hby, ← Nat.add_assoc, schA, show (4 * t + i) / 4 = t by omega])
                    clear hlen hw hbw hbt hby ht4 hb4 hx hb1 hb2
                    go_wp2_with fail
                    go_region
                    go_wp2
                    go_roundw
                    case rel => exact ⟨i + 1, by omega, by go_num, by show Row32 _ _ _ (schA B (4 * t + (i + 1))); rw [HST.out]; exact (HW.out.set t _).drew, (HBW.out.setCell (Nat.le_refl _) _).drew⟩
                    case measure => simp [intOf]; omega
                  · obtain rfl : i = 4 := by omega
                    clear hw hbw
                    go_wp2_with fail
                    go_roundw
                    case rel => exact ⟨t + 1, by omega, by go_num, by rw [wK, if_pos (by omega), Nat.mul_add]; exact HW.out, HBW.out⟩
                    case measure => simp [intOf]; omega
              · have h16I : ¬ (t : Int) < 16 := by omega
                obtain ⟨S, hS⟩ : ∃ S, S = schB (schA B 64) (t - 16) := ⟨_, rfl⟩
                have hw : Row32 wr wo.heap.size 24 S := by rw [hS, ← wK_hi B t (by omega)]; exact HW.out
                have hl : S.length = 64 := by rw [hS, schB_len, schA_len]
                have HST : Hid (wK B (t + 1) = S.set t (nextW S t)) := Lib.hid (by
                  rw [wK, if_neg (by omega), show t + 1 - 16 = (t - 16) + 1 by omega, schB, ← hS, show 16 + (t - 16) = t by omega])
                clear hS
                obtain ⟨j15, h15⟩ : ∃ j : Nat, j = t - 15 := ⟨_, rfl⟩
                obtain ⟨j2, h2⟩ : ∃ j : Nat, j = t - 2 := ⟨_, rfl⟩
                obtain ⟨j7, h7⟩ : ∃ j : Nat, j = t - 7 := ⟨_, rfl⟩
                obtain ⟨j16, h16⟩ : ∃ j : Nat, j = t - 16 := ⟨_, rfl⟩
                have c15 := hw.cell (j := j15) (by omega)
                have c2 := hw.cell (j := j2) (by omega)
                have c7 := hw.cell (j := j7) (by omega)
                have c16 := hw.cell (j := j16) (by omega)
                have ct := hw.cell (j := t) (by omega)
                have hf := hw.frozen t
                have i15 : (t : Int) - 15 = (j15 : Int) := by omega
                have i2 : (t : Int) - 2 = (j2 : Int) := by omega
                have i7 : (t : Int) - 7 = (j7 : Int) := by omega
                have i16 : (t : Int) - 16 = (j16 : Int) := by omega
                have b15 : (j15 : Int) < 64 := by omega
                have b2 : (j2 : Int) < 64 := by omega
                have b7 : (j7 : Int) < 64 := by omega
                have b16 : (j16 : Int) < 64 := by omega
                have w15 : IntKind.i64.wrap (j15 : Int) = (j15 : Int) := IntWalk.i64_in _ (by omega)
                have w2 : IntKind.i64.wrap (j2 : Int) = (j2 : Int) := IntWalk.i64_in _ (by omega)
                have w7 : IntKind.i64.wrap (j7 : Int) = (j7 : Int) := IntWalk.i64_in _ (by omega)
                have w16 : IntKind.i64.wrap (j16 : Int) = (j16 : Int) := IntWalk.i64_in _ (by omega)
                unfold nextW at HST
                rw [← h15, ← h2, ← h7, ← h16] at HST
                obtain ⟨x, hx⟩ : ∃ x, x = wd S j15 := ⟨_, rfl⟩
                obtain ⟨y, hy⟩ : ∃ x, x = wd S j2 := ⟨_, rfl⟩
                obtain ⟨z, hz⟩ : ∃ x, x = wd S j7 := ⟨_, rfl⟩
                obtain ⟨u, hu⟩ : ∃ x, x = wd S j16 := ⟨_, rfl⟩
                rw [← hx] at c15 HST
                rw [← hy] at c2 HST
                rw [← hz] at c7 HST
                rw [← hu] at c16 HST
                unfold s1W s0W at HST
                have HW2 := Lib.hid hw
                clear h15 h2 h7 h16 hw hl hx hy hz hu HW
                go_wp2_with fail
                go_region
                clear c15 c2 i15 i2 b15 b2 w15 w2
                go_wp2_with fail
                have ct' := curV_of ct
                have ctd : wr.drew.cell? ⟨wo.heap.size, t, none⟩ = some (curV wr.drew wo.heap.size t) := ct'
                clear ct ct'
                go_region_held3 (fun w' => w'.cell? ⟨wo.heap.size, j7, none⟩ = some (.int .u32 z) ∧ w'.cell? ⟨wo.heap.size, j16, none⟩ = some (.int .u32 u) ∧ w'.cell? ⟨wo.heap.size, t, none⟩ = some (curV w' wo.heap.size t) ∧ w'.frozen? ⟨wo.heap.size, t, none⟩ = false)
                  (first
                    | (go_split_ands; exact ⟨by assumption, by assumption, by assumption, by assumption⟩)
                    | (go_split_ands; exact keepDr (by assumption) (by assumption) (by assumption) (by assumption))
                    | (go_split_ands; exact keepSt (by omega) (by omega) (by assumption) (by assumption) (by assumption) (by assumption))
                    | go_keep)
                  (first
                    | (go_at_call 53; first | ((with_reducible refine (refright_17 _ _).mono ?_); rintro e w' ⟨rfl, m, rfl⟩) | ((with_reducible refine (refright_19 _ _).mono ?_); rintro e w' ⟨rfl, m, rfl⟩) | ((with_reducible refine (refright_7 _ _).mono ?_); rintro e w' ⟨rfl, m, rfl⟩) | ((with_reducible refine (refright_18 _ _).mono ?_); rintro e w' ⟨rfl, m, rfl⟩)))
                go_wp2
                go_roundw
                case rel =>
                  refine ⟨t + 1, by omega, by go_num, ?_, ?_⟩
                  · rw [HST.out, mod3]
                    exact Row32.set (w := wr.drewN _) HW2.out t _
                  · exact (below_drewN HBW.out _).setCell (p := ⟨wo.heap.size, t, none⟩) (Nat.le_refl _) _
                case measure => simp [intOf]; omega
            · obtain rfl : t = 64 := by omega
              have HS : Hid (Row32 wr wo.heap.size 24 (sched B)) := Lib.hid (by have := HW.out; rw [wK_hi B 64 (by omega)] at this; exact this)
              have HBL2 := Lib.hid (HBL.out.trans (HBW.out.mono HBL.out.size))
              have HR1b := Lib.hid (HR1.out.below HBW.out HR1.out.lt)
              have HR2b := Lib.hid (HR2.out.below HBW.out HR2.out.lt)
              have HWO : Hid (w.heap.size ≤ wo.heap.size ∧ bh < wo.heap.size ∧ bk < wo.heap.size ∧ bh ≠ bk ∧ w.heap.size ≤ bh) := Lib.hid ⟨HBL.out.size, HR1.out.lt, HR2.out.lt, by have := HBH.out; omega, HBH.out.2.1⟩
              clear HW HR1 HR2 HBL HBW h64 ht HBY HBH
              obtain ⟨wq, rfl⟩ : ∃ wq : World, wq = wr := ⟨_, rfl⟩
              obtain ⟨i0, hi, hz0, hz1, hz2⟩ := info_parts infoU32
              obtain ⟨H, hH⟩ : ∃ H, H = hK P k := ⟨_, rfl⟩
              obtain ⟨W, hW⟩ : ∃ W, W = sched B := ⟨_, rfl⟩
              have hHl : H.length = 8 := by rw [hH]; exact hK_len P k
              have hWl : W.length = 64 := by rw [hW]; exact sched_len B
              rw [← hH] at HR1b
              rw [← hW] at HS
              have HHL := Lib.hid hHl
              have HWL := Lib.hid hWl
              have HHH := Lib.hid hH
              have HWW := Lib.hid hW
              clear hH hW hHl hWl
              have hnw := news8 (HR1b.out.below ((Below.refl wq.heap.size wq).alloc (Nat.le_refl _) (.cells #[] 24)) HR1b.out.lt)
              have HNW := Lib.hid hnw
              clear hnw
              go_wp2_with (at_builtin; refine wpList_append_grows _ rfl (.tmp 114) (.tmp 115) 73 rfl 24 i0 (.int .u32 0) 1 4 Tryd.underlying73 hi hz0 hz1 hz2 rfl (by decide) (some ⟨wq.heap.size, 0, none⟩) 0 0 [] rfl ?c0 rfl ?c1 ⟨bh, 0, none⟩ 8 8 (u32v H) rfl ?c2 HNW.out ?c3 (by omega) ?c4 ?c5 ?_)
              case c1 => intro b hb j u hu; simp at hu
              case c2 => simp [u32v, HHL.out]
              case c3 => intro u hu; simp [u32v] at hu; obtain ⟨x, _, rfl⟩ := hu; rfl
              case c4 => unfold maxLen; omega
              case c5 => omega
              intro v' wz hown hgrow
              have HVZ : Hid (VAt wz (wq.heap.size) v' H) := Lib.hid ((VAt.of_own HHL.out (by simpa [u32v] using hown)).mono (by simp))
              have HBZ : Hid (Below wq.heap.size wq wz) := Lib.hid (((Below.refl wq.heap.size wq).alloc (Nat.le_refl _) _).grown hgrow (by simp) (fun g hg => by cases hg))
              clear hown hgrow HNW hi hz0 hz1 hz2 i0
              go_wp2_with fail
              go_loopw [12, 13] (fun v i w' => RndV wz (wq.heap.size) H W v i w') (fun _ i _ => 64 - (intOf i).toNat)
              case atStart => exact ⟨0, by omega, rfl, by rw [rnds, oct_id HHL.out]; exact HVZ.out, Below.refl _ _⟩
              case round =>
                clear HVZ
                obtain ⟨t, ht, rfl, hv, hbw⟩ := hrel
                have HBW := Lib.hid hbw
                by_cases h64 : t < 64
                · have h64I : (t : Int) < 64 := by omega
                  obtain ⟨o, ho⟩ : ∃ o, o = rnds (octOf H) W t := ⟨_, rfl⟩
                  rw [← ho] at hv
                  have HO : Hid (rnds (octOf H) W (t + 1) = rnd o (wd cuL t) (wd W t)) := Lib.hid (by rw [rnds, ← ho])
                  obtain ⟨oa, ob, oc, od, oe, of_, og, oh⟩ := o
                  obtain ⟨b, c, rfl, hBb, hbl, hc⟩ := hv
                  have c0 : wr.cell? ⟨b, 0, none⟩ = some (.int .u32 oa) := hc 0 (by omega)
                  have c1 : wr.cell? ⟨b, 1, none⟩ = some (.int .u32 ob) := hc 1 (by omega)
                  have c2 : wr.cell? ⟨b, 2, none⟩ = some (.int .u32 oc) := hc 2 (by omega)
                  have c3 : wr.cell? ⟨b, 3, none⟩ = some (.int .u32 od) := hc 3 (by omega)
                  have c4 : wr.cell? ⟨b, 4, none⟩ = some (.int .u32 oe) := hc 4 (by omega)
                  have c5 : wr.cell? ⟨b, 5, none⟩ = some (.int .u32 of_) := hc 5 (by omega)
                  have c6 : wr.cell? ⟨b, 6, none⟩ = some (.int .u32 og) := hc 6 (by omega)
                  have c7 : wr.cell? ⟨b, 7, none⟩ = some (.int .u32 oh) := hc 7 (by omega)
                  have hbz : Below wq.heap.size wq wr := HBZ.out.trans (hbw.mono HBZ.out.size)
                  have ck : wr.cell? ⟨bk, t, none⟩ = some (.int .u32 (wd cuL t)) := (HR2b.out.below hbz HR2b.out.lt).cell h64
                  have cw : wr.cell? ⟨wo.heap.size, t, none⟩ = some (.int .u32 (wd W t)) := (HS.out.below hbz HS.out.lt).cell (by rw [HWL.out]; exact h64)
                  obtain ⟨kt, hkt⟩ : ∃ x, x = wd cuL t := ⟨_, rfl⟩
                  obtain ⟨wt, hwt⟩ : ∃ x, x = wd W t := ⟨_, rfl⟩
                  rw [← hkt] at ck HO
                  rw [← hwt] at cw HO
                  have HBB' := Lib.hid hBb
                  have HBL3 := Lib.hid hbl
                  clear ho hc hbw hbz hkt hwt hBb hbl
                  go_wp2_with fail
                  go_quiet (fail)
                  go_wp2_with fail
                  go_quiet ((go_at_call 53; exact quiet_add' (rights_all _ _ (by simp) _)))
                  go_wp2_with fail
                  go_quiet ((go_at_call 53; exact quiet_add' (rights_all _ _ (by simp) _)))
                  go_wp2_with fail
                  clear c7 ck cw
                  generalize hT1 : (oh + bits .xor .u32 (bits .xor .u32 (rotI 6 oe) (rotI 11 oe)) (rotI 25 oe) + bits .or .u32 (bits .and .u32 oe of_) (bits .and .u32 (bits .xor .u32 IntKind.u32.max oe) og) + kt + wt) % 4294967296 = T1
                  generalize hT2 : (bits .xor .u32 (bits .xor .u32 (rotI 2 oa) (rotI 13 oa)) (rotI 22 oa) + bits .or .u32 (bits .or .u32 (bits .and .u32 oa ob) (bits .and .u32 oa oc)) (bits .and .u32 ob oc)) % 4294967296 = T2
                  have HT1 : Hid (t1W ⟨oa, ob, oc, od, oe, of_, og, oh⟩ kt wt = T1) := Lib.hid hT1
                  have HT2 : Hid (t2W ⟨oa, ob, oc, od, oe, of_, og, oh⟩ = T2) := Lib.hid hT2
                  clear hT1 hT2
                  have hbl := HBL3.out
                  go_region_held3 (fun w' => w'.cell? ⟨b, 0, none⟩ = some (.int .u32 oa) ∧ w'.cell? ⟨b, 1, none⟩ = some (.int .u32 ob) ∧ w'.cell? ⟨b, 2, none⟩ = some (.int .u32 oc) ∧ w'.cell? ⟨b, 3, none⟩ = some (.int .u32 od) ∧ w'.cell? ⟨b, 4, none⟩ = some (.int .u32 oe) ∧ w'.cell? ⟨b, 5, none⟩ = some (.int .u32 of_) ∧ w'.cell? ⟨b, 6, none⟩ = some (.int .u32 og) ∧ b < w'.heap.size)
                    (first
                      | (go_split_ands; exact ⟨by assumption, by assumption, by assumption, by assumption, by assumption, by assumption, by assumption, by assumption⟩)
                      | (go_split_ands; exact ⟨(World.cell?_alloc_lt _ _ _ (by assumption)).trans (by assumption), (World.cell?_alloc_lt _ _ _ (by assumption)).trans (by assumption), (World.cell?_alloc_lt _ _ _ (by assumption)).trans (by assumption), (World.cell?_alloc_lt _ _ _ (by assumption)).trans (by assumption), (World.cell?_alloc_lt _ _ _ (by assumption)).trans (by assumption), (World.cell?_alloc_lt _ _ _ (by assumption)).trans (by assumption), (World.cell?_alloc_lt _ _ _ (by assumption)).trans (by assumption), by simp; omega⟩)
                      | go_keep)
                    (fail)
                  clear c0 c1 c2 c3 c4 c5 c6
                  go_wp2
                  go_roundw
                  case rel =>
                    refine ⟨t + 1, by omega, by go_num, ?_, ?_⟩
                    · rw [HO.out]
                      unfold rnd
                      rw [HT1.out, HT2.out]
                      exact VAt.new8 wr _ _ 24 _ _ _ _ _ _ _ _ (Nat.le_trans HBZ.out.size HBW.out.size) _
                    · exact Below.alloc (below_drewN HBW.out _) HBW.out.size _
                  case measure => simp [intOf]; omega
                · obtain rfl : t = 64 := by omega
                  have hbz : Below wq.heap.size wq wr := HBZ.out.trans (hbw.mono HBZ.out.size)
                  obtain ⟨b, c, rfl, hBb, hbl, hc⟩ := hv
                  obtain ⟨Dl, hD⟩ : ∃ D, D = octL (rnds (octOf H) W 64) := ⟨_, rfl⟩
                  rw [← hD] at hc
                  have HDD := Lib.hid hD
                  have hR1 : Row32 wr bh 24 H := HR1b.out.below hbz HR1b.out.lt
                  have hR2 : Row32 wr bk 24 cuL := HR2b.out.below hbz HR2b.out.lt
                  have HST : Hid (AddV w bh bk b H Dl (.int .i64 0) wr) := Lib.hid ⟨0, by omega, rfl, hR1, hR2, hc, HBL2.out.trans (hbz.mono HBL2.out.size)⟩
                  have HNE : Hid (b ≠ bh ∧ bk ≠ bh ∧ w.heap.size ≤ bh) := Lib.hid (by have h1 := HWO.out; have h2 := HR1b.out.lt; exact ⟨by omega, by omega, h1.2.2.2.2⟩)
                  have HD8 : Hid (Dl.length = 8) := Lib.hid (by rw [hD]; rfl)
                  clear hD hc hBb hbl hbz hR1 hR2 hbw HBW ht h64
                  go_wp2_with fail
                  go_loopw [18] (fun i w' => AddV w bh bk b H Dl i w') (fun i _ => 8 - (intOf i).toNat)
                  case atStart => exact HST.out
                  case round =>
                    clear HST
                    obtain ⟨i, hi, rfl, hr1, hr2, hc, hbw⟩ := hrel
                    have HBW := Lib.hid hbw
                    have HR1c := Lib.hid hr1
                    have HR2c := Lib.hid hr2
                    have HC := Lib.hid hc
                    by_cases h8 : i < 8
                    · have h8I : (i : Int) < 8 := by omega
                      have hl : (addF H Dl i).length = 8 := by rw [addF_len, HHL.out]
                      have cc := hr1.cell (j := i) (by omega)
                      have cf := hr1.frozen i
                      have cv := hc i h8
                      have HLL := Lib.hid hl
                      have HNEB := Lib.hid HNE.out.1
                      have hnb := HNE.out.1
                      clear hr1 hr2 hc hbw hl
                      go_wp2_with fail
                      go_region
                      go_wp2
                      go_roundw
                      case rel =>
                        refine ⟨i + 1, by omega, by go_num, ?_, ?_, ?_, ?_⟩
                        · rw [addF]; exact (HR1c.out.set i _).drew
                        · exact (HR2c.out.set_other i _ HNE.out.2.1).drew
                        · intro j hj
                          exact (World.cell?_setCell_other _ _ _ _ (fun e => hnb (congrArg Addr.block e).symm)).trans (HC.out j hj)
                        · exact (HBW.out.setCell (p := ⟨bh, i, none⟩) HNE.out.2.2 _).drew
                      case measure => simp [intOf]; omega
                    · obtain rfl : i = 8 := by omega
                      have HF : Hid (Row32 wr bh 24 (hK P (k + 1))) := Lib.hid (by
                        rw [hK_succ]
                        unfold dK
                        rw [← HHH.out, ← HBB.out, ← HWW.out, ← HDD.out]
                        exact hr1)
                      have HA1 : Hid ((a : Int) + 64 = ((64 * (k + 1) : Nat) : Int)) := Lib.hid (by have := HA.out; omega)
                      have HA2 : Hid (64 * (k + 1) ≤ P.length) := Lib.hid (by have h1 := HA.out; have h2 := HA64.out; have h3 := HPL2.out; omega)
                      have hab : a ≤ 100001000 := HAB.out
                      have hltI := HA64.out
                      clear hr1 hr2 hc hbw
                      go_wp2_with fail
                      go_roundw
                      case rel => exact ⟨k + 1, HA2.out, by rw [← HA1.out], HF.out, HR2c.out, HBW.out⟩
                      case measure => have := HA1.out; simp [intOf]; omega
        · have hk64 : k = P.length / 64 := by have h1 := HPL2.out; have h2 := HPM.out; omega
          have HOV : Hid (OutV w bh (hK P k) (.string ⟨#[]⟩) (.int .i64 0) wr) := Lib.hid ⟨0, ⟨#[]⟩, by omega, rfl, rfl, rfl, HR1.out, HBL.out⟩
          have HK64 := Lib.hid hk64
          have hltI : ¬ ((64 * k : Nat) : Int) < (pq.size : Int) := by omega
          obtain ⟨H, hH⟩ : ∃ H, H = hK P k := ⟨_, rfl⟩
          rw [← hH] at HOV
          have hHl : H.length = 8 := by rw [hH]; exact hK_len P k
          have HHL := Lib.hid hHl
          have HHH := Lib.hid hH
          clear HR1 HR2 HBL hk64 hk hlt hH hHl
          go_wp2_with fail
          go_loopw [19, 20] (fun v i w' => OutV w bh H v i w') (fun _ i _ => 8 - (intOf i).toNat)
          case atStart => exact HOV.out
          case round =>
            clear HOV hltI
            obtain ⟨i, o, hi, rfl, rfl, hol, hr, hbw⟩ := hrel
            have HR := Lib.hid hr
            have HBW := Lib.hid hbw
            have HOL := Lib.hid hol
            have hos : o.size = 4 * i := by
              have : o.data.toList.length = 4 * i := by rw [hol, outK_len H i (by rw [HHL.out]; omega)]
              simpa using this
            by_cases h8 : i < 8
            · have h8I : (i : Int) < 8 := by omega
              have cc := hr.cell (j := i) (by rw [HHL.out]; exact h8)
              obtain ⟨x, hx⟩ : ∃ x, x = wd H i := ⟨_, rfl⟩
              rw [← hx] at cc
              have hxb : 0 ≤ x ∧ x < 4294967296 := by rw [hx, HHH.out]; exact hK_bd P k i
              have hx0 := hxb.1
              have hx1 := hxb.2
              have hcv : wrap64 x = x := by unfold wrap64; omega
              have HB4 := Lib.hid (fun w => refBytes4 x (by omega) (by omega) w)
              obtain ⟨q4, hq4⟩ : ∃ q, q = strL (beL 4 x) := ⟨_, rfl⟩
              rw [← hq4] at HB4
              have hq4l : q4.size = 4 := by rw [hq4]; show (beL 4 x).toArray.size = 4; simp [beL_len]
              have hcat3 : ¬ (9223372036854775807 < o.data.toList.length + q4.data.toList.length) := by simp; omega
              have HX := Lib.hid hx
              have HQ4 := Lib.hid hq4
              clear hr hbw hol hos hx hxb hq4 hq4l
              go_wp2_with fail
              refine (HB4.out _).mono ?_
              rintro e w9 ⟨rfl, hb⟩
              have HB9 := Lib.hid (HBW.out.trans (hb.mono HBW.out.size))
              have HR9 := Lib.hid (HR.out.below hb HR.out.lt)
              clear hb
              go_wp2_with fail
              go_roundw
              case rel => exact ⟨i + 1, _, by omega, by go_num, rfl, by rw [outK_step H i (by rw [HHL.out]; exact h8), ← HOL.out, ← HX.out]; have := HQ4.out; subst this; simp [strL], HR9.out, HB9.out⟩
              case measure => simp [intOf]; omega
            · obtain rfl : i = 8 := by omega
              have HFIN : Hid (o = strL (shaL s.data.toList)) := Lib.hid (by
                refine strL_of ?_
                rw [hol, sha_msg, HHH.out]
                unfold hK
                rw [HK64.out, HPP.out])
              clear hr hbw hol hos
              go_wp2_with fail
              go_ret
              exact ⟨by rw [HFIN.out]; rfl, HBW.out⟩
    · have hdI : ¬ (p.size : Int) % 64 = 56 := by omega
      have HP := Lib.hid hp
      have HJ : Hid (j + 1 ≤ zerosN s.data.toList.length) := Lib.hid (by
        have : j ≠ zerosN s.size := fun e => hd (by rw [hpl]; exact hzs.2 e)
        have : zerosN s.data.toList.length = zerosN s.size := by simp
        omega)
      have HPL := Lib.hid hpl
      have HZ := Lib.hid hz
      have HM := Lib.hid (show 200 + s.size - (p ++ ⟨#[0]⟩).size < 200 + s.size - p.size by have h1 := HPL.out; have h2 := HZ.out; have h3 := HJ.out; rw [show (p ++ ⟨#[0]⟩ : ByteArray).size = p.size + 1 by simp; rfl]; omega)
      clear hp hj hpl hz hzs hd
      go_wp2_with fail
      go_round
      case rel => exact ⟨j + 1, _, HJ.out, by simp [HP.out, List.replicate_succ'], rfl⟩
      case measure => have h1 := HPL.out; have h2 := HZ.out; have h3 := HJ.out; exact HM.out
end Go.Proofs.YthhaofdnbemogaaDoor
