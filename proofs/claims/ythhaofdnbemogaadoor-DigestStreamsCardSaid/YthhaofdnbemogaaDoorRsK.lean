/-
  acheronref03.Mac.
-/
import Derived.Test.YthhaofdnbemogaaDoorRsS
import Derived.Deep.RegionWith
set_option linter.unusedVariables false
namespace Go.Proofs.YthhaofdnbemogaaDoor
open Go.RowKit

theorem MRow.drewN {w : World} {b n : Nat} {f : Nat → Value} (h : MRow w b n f) (m : Nat) : MRow (w.drewN m) b n f := ⟨h.lt, h.cell, h.free⟩
theorem MRow.below {w w' : World} {b n : Nat} {f : Nat → Value} (h : MRow w b n f) (hb : Below w.heap.size w w') : MRow w' b n f :=
  ⟨Nat.lt_of_lt_of_le h.lt hb.size, fun i hi => (hb.cell (p := ⟨b, i, none⟩) h.lt).trans (h.cell i hi), fun i hi => (hb.frozen (p := ⟨b, i, none⟩) h.lt).trans (h.free i hi)⟩
theorem MRow.alloc {w : World} {b n : Nat} {f : Nat → Value} (h : MRow w b n f) (o : Obj) : MRow (w.alloc o) b n f := h.below ((Below.refl _ _).alloc (Nat.le_refl _) _)
theorem MRow.other {w : World} {b c n : Nat} {f : Nat → Value} (h : MRow w b n f) (k : Nat) (v : Value) (hne : b ≠ c) : MRow (w.setCell ⟨c, k, none⟩ v) b n f :=
  ⟨by simpa [World.setCell] using h.lt, fun i hi => (World.cell?_setCell_other _ _ _ _ (fun e => hne (congrArg Addr.block e).symm)).trans (h.cell i hi), fun i hi => by rw [World.frozen?_setCell]; exact h.free i hi⟩
theorem MRow.made (w : World) (T : TypeId) (n : Nat) : MRow (w.alloc (.cells (madeCells #[.int .u8 0] n) T)) w.heap.size n (fun _ => .int .u8 0) := by
  have h := World.rowIs_made w (.int .u8 0) n T
  exact ⟨by simp, fun i hi => h.cell hi, fun i _ => h.frozen i⟩

/-- The first k bytes of a key are masked with b. -/
def padF (b : UInt8) (K : List UInt8) (k j : Nat) : Value := if j < k then .int .u8 (((K.getD j 0) ^^^ b).toNat : Int) else .int .u8 0
theorem padF_step (b : UInt8) (K : List UInt8) (k j : Nat) {v : Int} (hv : v = (((K.getD k 0) ^^^ b).toNat : Int)) : (if j = k then Value.int .u8 v else padF b K k j) = padF b K (k + 1) j := by
  unfold padF
  by_cases h : j = k
  · subst h
    rw [if_pos rfl, if_pos (Nat.lt_succ_self _), hv]
  · rw [if_neg h]
    by_cases h2 : j < k
    · rw [if_pos h2, if_pos (by omega)]
    · rw [if_neg h2, if_neg (by omega)]
theorem padK_get (b : UInt8) (k : List UInt8) (j : Nat) (h : j < (padK b k).length) : (padK b k)[j] = (keyL k).getD j 0 ^^^ b := by
  have hj : j < 64 := by rw [padK_len] at h; exact h
  have hk : j < (keyL k).length := by rw [keyL_len]; exact hj
  simp only [padK, maskL, List.getElem_zipWith, List.getElem_replicate]
  rw [List.getD_eq_getElem?_getD, List.getElem?_eq_getElem hk]
  rfl

def PadsRel (w : World) (bi bo : Nat) (K : List UInt8) (i : Value) (wr : World) : Prop :=
  ∃ k : Nat, k ≤ 64 ∧ i = .int .i64 (k : Int) ∧ MRow wr bi 64 (padF 54 K k) ∧ MRow wr bo 64 (padF 92 K k) ∧ bi ≠ bo ∧ w.heap.size ≤ bi ∧ w.heap.size ≤ bo ∧ Below w.heap.size w wr

theorem pad_conv {W : World} {b : Nat} {B : UInt8} {key : List UInt8} (h : MRow W b 64 (padF B (keyL key) 64)) (c : Nat) : (convert 47 9 (.slice (some ⟨b, 0, none⟩) 64 c)).run Tryd.prog W = .ok (.string (strL (padK B key))) W := by
  have hl := padK_len B key
  rw [← hl]
  refine run_convert_bytes_back W _ _ _ ⟨b, 0, none⟩ _ (padK B key) Tryd.underlying47 Tryd.underlying5 Tryd.underlying9 (fun j hj => ?_)
  have hj' : j < 64 := by rw [hl] at hj; exact hj
  rw [addr_at, h.cell j hj', padF, if_pos hj', padK_get]

theorem two_made (w : World) (T : TypeId) (K : List UInt8) (b0 b1 : UInt8) :
    MRow (((w.alloc (.cells (madeCells #[.int .u8 0] 64) T)).alloc (.cells (madeCells #[.int .u8 0] 64) T)).drew) w.heap.size 64 (padF b0 K 0) ∧ MRow (((w.alloc (.cells (madeCells #[.int .u8 0] 64) T)).alloc (.cells (madeCells #[.int .u8 0] 64) T)).drew) (w.heap.size + 1) 64 (padF b1 K 0) := by
  have e : ∀ (b : UInt8) (i : Nat), i < 64 → (Value.int .u8 0) = padF b K 0 i := fun b i _ => by rw [padF, if_neg (Nat.not_lt_zero _)]
  refine ⟨(((MRow.made w T 64).alloc _).drew).congr (e b0), ?_⟩
  have h := ((MRow.made (w.alloc (.cells (madeCells #[.int .u8 0] 64) T)) T 64).drew).congr (e b1)
  rw [show (w.alloc (.cells (madeCells #[.int .u8 0] 64) T)).heap.size = w.heap.size + 1 by simp] at h
  exact h
set_option maxHeartbeats 4000000 in
set_option maxRecDepth 100000 in
theorem refMac_any (k s : ByteArray) (hk : k.size ≤ 10000000) (hs : s.size ≤ 10000000) (w : World) :
    Calls Tryd.prog 22 #[.string k, .string s] w fun e w' => e = .returned (.string (strL (macL k.data.toList s.data.toList))) ∧ Below w.heap.size w w' := by
  obtain ⟨c, hc⟩ : ∃ c, c = strL (if 64 < k.data.toList.length then shaL k.data.toList else k.data.toList) := ⟨_, rfl⟩
  have hcs : c.size ≤ 64 := by
    rw [hc, strL_size]
    split
    · rw [shaL_len]; omega
    · omega
  have hK : keyL k.data.toList = c.data.toList ++ List.replicate (64 - c.size) 0 := by rw [hc, strL_size, strL_data]; rfl
  have HSUM := Lib.hid (fun w => refSum_any k (by omega) w)
  have hmk : ∀ w, (Instr.makeSlice 47 (.int .i64 64) (.int .i64 64)).run Tryd.prog w = .ok (.slice (some ⟨w.heap.size, 0, none⟩) 64 64) (w.alloc (.cells (madeCells #[.int .u8 0] 64) 5)) := fun w =>
    run_make_row' (P := Tryd.prog) 47 5 (.int .u8 0) 1 Tryd.underlying47 infoU8 rfl .i64 .i64 64 (by omega) (by omega) w
  have HC := Lib.hid hc
  have HK := Lib.hid hK
  have HS := Lib.hid hs
  clear hc hK hs
  go_enter Tryd.func22, Tryd.ntmps22
  go_upto_if 11 with (fail)
  go_cut [0] (fun v wr => v = .string c ∧ Below w.heap.size w wr)
  case first =>
    by_cases hlong : 64 < k.size
    · have hlongI : (64 : Int) < (k.size : Int) := by omega
      have hcc : Hid (c = strL (shaL k.data.toList)) := Lib.hid (by have := HC.out; rw [if_pos (by simpa using hlong)] at this; exact this)
      clear hcs hmk hlong
      go_wp2_with fail
      refine (HSUM.out _).mono ?_
      rintro e w1 ⟨rfl, hb1⟩
      have HB1 := Lib.hid hb1
      clear hb1
      go_wp2_with fail
      go_meet
      exact ⟨by rw [hcc.out], HB1.out⟩
    · have hlongI : ¬ ((64 : Int) < (k.size : Int)) := by omega
      have hcc : Hid (c = k) := Lib.hid (by have := HC.out; rw [if_neg (by simpa using hlong)] at this; rw [this]; rfl)
      clear hcs hmk hlong
      go_wp2_with fail
      go_meet
      exact ⟨by rw [hcc.out], Below.refl _ _⟩
  case rest =>
    obtain ⟨rfl, hb0⟩ := hcut
    have HB0 := Lib.hid hb0
    clear hb0 HSUM
    go_upto_region 3 with (fail)
    go_cut [5, 6] (fun v5 v6 wr => ∃ bi bo, v5 = .slice (some ⟨bi, 0, none⟩) 64 64 ∧ v6 = .slice (some ⟨bo, 0, none⟩) 64 64 ∧ PadsRel w bi bo (keyL k.data.toList) (.int .i64 0) wr)
    case first =>
      go_region
      all_goals go_wp2_with fail
      all_goals go_meet
      · exact ⟨_, _, rfl, rfl, 0, by omega, rfl, (two_made wc _ _ 54 92).1, (two_made wc _ _ 54 92).2, by omega, HB0.out.size, by have := HB0.out.size; omega, ((HB0.out.alloc HB0.out.size _).alloc (by have := HB0.out.size; simp; omega) _).drew⟩
      · exact ⟨_, _, rfl, rfl, 0, by omega, rfl, (two_made wc _ _ 92 54).2, (two_made wc _ _ 92 54).1, by omega, by have := HB0.out.size; omega, HB0.out.size, ((HB0.out.alloc HB0.out.size _).alloc (by have := HB0.out.size; simp; omega) _).drew⟩
    case rest =>
      obtain ⟨bi, bo, rfl, rfl, hrel0⟩ := hcut
      have HR0 := Lib.hid hrel0
      clear hrel0 hmk HB0
      go_wp2_with fail
      go_loopw [7, 8] (fun i _ wr => PadsRel w bi bo (keyL k.data.toList) i wr) (fun i _ _ => 64 - (intOf i).toNat)
      case atStart => exact HR0.out
      case round =>
        clear HR0
        obtain ⟨j, hj, rfl, hi, ho, hne, hbi, hbo, hbel⟩ := hrel
        have HI := Lib.hid hi
        have HO := Lib.hid ho
        have HNE := Lib.hid hne
        have HBI := Lib.hid hbi
        have HBO := Lib.hid hbo
        have HBL := Lib.hid hbel
        by_cases h64 : j < 64
        · have h64I : (j : Int) < 64 := by omega
          have ci := hi.cell j h64
          have fi := hi.free j h64
          have co := ho.cell j h64
          have fo := ho.free j h64
          rw [padF, if_neg (Nat.lt_irrefl _)] at ci co
          have hne2 : bo ≠ bi := fun e => hne e.symm
          by_cases hjc : j < c.size
          · have hjcI : (j : Int) < (c.size : Int) := by omega
            have hkd : (keyL k.data.toList).getD j 0 = c[j] := by
              rw [HK.out, List.getD_eq_getElem?_getD, List.getElem?_append_left (by simpa using hjc), List.getElem?_eq_getElem (by simpa using hjc)]
              rfl
            have x1 : bits .xor .u8 (c[j].toNat : Int) 54 = ((c[j] ^^^ 54).toNat : Int) := xor_u8 c[j] 54
            have x2 : bits .xor .u8 (c[j].toNat : Int) 92 = ((c[j] ^^^ 92).toNat : Int) := xor_u8 c[j] 92
            have hs1 := Lib.hid (fun i => padF_step 54 (keyL k.data.toList) j i (v := ((c[j] ^^^ 54).toNat : Int)) (by rw [hkd]))
            have hs2 := Lib.hid (fun i => padF_step 92 (keyL k.data.toList) j i (v := ((c[j] ^^^ 92).toNat : Int)) (by rw [hkd]))
            clear hi ho hbi hbo hbel hkd hne
            go_wp2_with fail
            go_roundw
            case rel =>
              refine ⟨j + 1, by omega, by go_num, ?_, ?_, HNE.out, HBI.out, HBO.out, (HBL.out.setCell (p := ⟨bi, j, none⟩) HBI.out _).setCell (p := ⟨bo, j, none⟩) HBO.out _⟩
              · exact ((HI.out.set j _ h64).other j _ HNE.out).congr (fun i _ => hs1.out i)
              · exact ((HO.out.other j _ (fun e => HNE.out e.symm)).set j _ h64).congr (fun i _ => hs2.out i)
            case measure => simp [intOf]; omega
          · have hjcI : ¬ (j : Int) < (c.size : Int) := by omega
            have hkd : (keyL k.data.toList).getD j 0 = 0 := by
              rw [HK.out, List.getD_eq_getElem?_getD, List.getElem?_append_right (by simp; omega), List.getElem?_replicate]
              split <;> rfl
            have x1 : bits .xor .u8 0 54 = 54 := by decide
            have x2 : bits .xor .u8 0 92 = 92 := by decide
            have hs1 := Lib.hid (fun i => padF_step 54 (keyL k.data.toList) j i (v := 54) (by rw [hkd]; rfl))
            have hs2 := Lib.hid (fun i => padF_step 92 (keyL k.data.toList) j i (v := 92) (by rw [hkd]; rfl))
            clear hi ho hbi hbo hbel hkd hne
            go_wp2_with fail
            go_roundw
            case rel =>
              refine ⟨j + 1, by omega, by go_num, ?_, ?_, HNE.out, HBI.out, HBO.out, (HBL.out.setCell (p := ⟨bi, j, none⟩) HBI.out _).setCell (p := ⟨bo, j, none⟩) HBO.out _⟩
              · exact ((HI.out.set j _ h64).other j _ HNE.out).congr (fun i _ => hs1.out i)
              · exact ((HO.out.other j _ (fun e => HNE.out e.symm)).set j _ h64).congr (fun i _ => hs2.out i)
            case measure => simp [intOf]; omega
        · obtain rfl : j = 64 := by omega
          have hci := pad_conv hi.drew 64
          have hco := pad_conv ho.drew 64
          obtain ⟨I, hI⟩ : ∃ I, I = strL (padK 54 k.data.toList) := ⟨_, rfl⟩
          obtain ⟨O, hO⟩ : ∃ O, O = strL (padK 92 k.data.toList) := ⟨_, rfl⟩
          have hIs : I.size = 64 := by rw [hI, strL_size, padK_len]
          have hOs : O.size = 64 := by rw [hO, strL_size, padK_len]
          have HS1 := Lib.hid (fun w => refSum_any (I ++ s) (by rw [ByteArray.size_append]; have := HS.out; omega) w)
          obtain ⟨X, hX⟩ : ∃ X, X = strL (shaL (I ++ s).data.toList) := ⟨_, rfl⟩
          rw [← hX] at HS1
          have hXs : X.size = 32 := by rw [hX, strL_size, shaL_len]
          have HS2 := Lib.hid (fun w => refSum_any (O ++ X) (by rw [ByteArray.size_append]; omega) w)
          have hres : strL (shaL (O ++ X).data.toList) = strL (macL k.data.toList s.data.toList) := by
            have a1 : (O ++ X).data.toList = padK 92 k.data.toList ++ shaL (padK 54 k.data.toList ++ s.data.toList) := by
              have a2 : (I ++ s).data.toList = padK 54 k.data.toList ++ s.data.toList := by rw [hI]; simp [strL]
              rw [hO, hX, a2]; simp [strL]
            rw [a1]; rfl
          rw [hres] at HS2
          rw [← hI] at hci
          rw [← hO] at hco
          have hcat1 : ¬ (9223372036854775807 < I.data.toList.length + s.data.toList.length) := by have := HS.out; simp; omega
          have hcat2 : ¬ (9223372036854775807 < O.data.toList.length + X.data.toList.length) := by simp; omega
          have HCO : Hid (∀ W, Below wr.heap.size wr W → (convert 47 9 (.slice (some ⟨bo, 0, none⟩) 64 64)).run Tryd.prog W = .ok (.string O) W) := Lib.hid (fun W hb => by rw [hO]; exact pad_conv (HO.out.below hb) 64)
          obtain ⟨M, hM⟩ : ∃ M, M = strL (macL k.data.toList s.data.toList) := ⟨_, rfl⟩
          rw [← hM] at HS2
          have HMM := Lib.hid hM
          clear hi ho hbi hbo hbel hI hO hIs hOs hX hXs hres hM hne hcs
          go_wp2_with fail
          go_region_with (go_at_call 16; first
            | ((with_reducible refine (HS1.out _).mono ?_); rintro e w1 ⟨rfl, hb1⟩; have HB1 := Lib.hid hb1; have hcow := HCO.out w1 ((Below.refl _ _).drew.trans hb1); clear hb1)
            | ((with_reducible refine (HS2.out _).mono ?_); rintro e w2 ⟨rfl, hb2⟩; have HB2 := Lib.hid hb2; clear hb2))
          all_goals
            go_wp2
            go_ret
            exact ⟨by rw [← HMM.out]; rfl, HBL.out.drew.trans ((HB1.out.trans (HB2.out.mono HB1.out.size)).mono HBL.out.size)⟩
end Go.Proofs.YthhaofdnbemogaaDoor
