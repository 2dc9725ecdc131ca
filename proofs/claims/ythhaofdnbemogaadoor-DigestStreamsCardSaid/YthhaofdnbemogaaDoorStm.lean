/-
  digest.lock.stream: the keystream.
-/
import Derived.Test.YthhaofdnbemogaaDoorBld
import Derived.Deep.RegionHeld3
set_option linter.unusedVariables false
namespace Go.Proofs.YthhaofdnbemogaaDoor
open Go.RowKit

def ksB (key : List UInt8) (nonce i : Nat) : List UInt8 := macL key (beL 8 (nonce : Int) ++ beL 8 (i : Int))
theorem ksB_len (key : List UInt8) (nonce i : Nat) : (ksB key nonce i).length = 32 := by unfold ksB macL; rw [shaL_len]
def catB (key : List UInt8) (nonce i0 m : Nat) : List UInt8 := ((List.range m).map (fun j => ksB key nonce (i0 + j))).flatten
theorem catB_succ (key : List UInt8) (nonce i0 m : Nat) : catB key nonce i0 (m + 1) = catB key nonce i0 m ++ ksB key nonce (i0 + m) := by
  simp [catB, List.range_succ]
theorem catB_len (key : List UInt8) (nonce i0 m : Nat) : (catB key nonce i0 m).length = 32 * m := by
  induction m with
  | zero => simp [catB]
  | succ m ih => rw [catB_succ, List.length_append, ih, ksB_len]; omega
theorem catB_get (key : List UInt8) (nonce i0 m j : Nat) (h : j < 32 * m) : (catB key nonce i0 m)[j]? = (ksB key nonce (i0 + j / 32))[j % 32]? := by
  induction m with
  | zero => omega
  | succ m ih =>
    rw [catB_succ]
    by_cases hj : j < 32 * m
    · rw [List.getElem?_append_left (by rw [catB_len]; exact hj), ih hj]
    · rw [List.getElem?_append_right (by rw [catB_len]; omega), catB_len, show j / 32 = m by omega, show j % 32 = j - 32 * m by omega]
/-- Bytes of the keystream. -/
def ksL (key : List UInt8) (nonce f n : Nat) : List UInt8 := (List.range n).map (fun j => (ksB key nonce ((f + j) / 32)).getD ((f + j) % 32) 0)
theorem ksL_len (key : List UInt8) (nonce f n : Nat) : (ksL key nonce f n).length = n := by simp [ksL]
theorem ks_cut (key : List UInt8) (nonce f n m : Nat) (h : f % 32 + n ≤ 32 * m) : ((catB key nonce (f / 32) m).drop (f % 32)).take n = ksL key nonce f n := by
  apply List.ext_getElem?
  intro j
  by_cases hj : j < n
  · rw [List.getElem?_take_of_lt hj, List.getElem?_drop, catB_get _ _ _ _ _ (by omega), ksL, List.getElem?_map, List.getElem?_range hj]
    have e1 : f / 32 + (f % 32 + j) / 32 = (f + j) / 32 := by omega
    have e2 : (f % 32 + j) % 32 = (f + j) % 32 := by omega
    rw [e1, e2]
    have hl : (f + j) % 32 < (ksB key nonce ((f + j) / 32)).length := by rw [ksB_len]; omega
    simp [List.getD_eq_getElem?_getD, List.getElem?_eq_getElem hl]
  · rw [List.getElem?_eq_none (by simp; omega), List.getElem?_eq_none (by rw [ksL_len]; omega)]

/-- The call's memory: the key made ready, the builder with m blocks. -/
structure StmAt (key : List UInt8) (nonce i0 m : Nat) (w W : World) : Prop where
  bld : Lib.IsBuilderF 94 5 (w.heap.size + 1) (w.heap.size + 1) (Lib.byteCells (catB key nonce i0 m)) W
  row : W.heap[w.heap.size]? = some (.cells (lockV key) 79 (0, 0))
  below : Below w.heap.size w W
  lt : w.heap.size + 1 < W.heap.size
theorem StmAt.later {key : List UInt8} {nonce i0 m : Nat} {w W W' : World} (h : StmAt key nonce i0 m w W) (hb : Below W.heap.size W W') : StmAt key nonce i0 m w W' :=
  ⟨builder_below h.bld hb, (hb.block _ (by have := h.lt; omega)).trans h.row, h.below.trans (hb.mono h.below.size), Nat.lt_of_lt_of_le h.lt hb.size⟩
theorem StmAt.drew {key : List UInt8} {nonce i0 m : Nat} {w W : World} (h : StmAt key nonce i0 m w W) : StmAt key nonce i0 m w W.drew := h.later (Below.refl _ _).drew
theorem carryT {key : List UInt8} {nonce i0 m : Nat} {w W : World} {F : FuncId} {args : Array Value} {v : Value} (h : StmAt key nonce i0 m w W) (hc : Calls Tryd.prog F args W fun e w' => e = .returned v ∧ Below W.heap.size W w') :
    Calls Tryd.prog F args W fun e w' => e = .returned v ∧ StmAt key nonce i0 m w w' := hc.mono fun e w' ⟨he, hb⟩ => ⟨he, h.later hb⟩
theorem StmAt.write {key : List UInt8} {nonce i0 m : Nat} {w W : World} (h : StmAt key nonce i0 m w W) (hm : m ≤ 100000) (s : ByteArray) (hs : s.data.toList = ksB key nonce (i0 + m)) :
    Calls Tryd.prog 77 #[.pointer (some ⟨w.heap.size + 1, 0, none⟩), .string s] W fun e w' => e = .returned (.tuple #[.int .i64 s.size, .nilIface]) ∧ StmAt key nonce i0 (m + 1) w w' := by
  have hsl : s.data.toList.length = 32 := by rw [hs, ksB_len]
  have hss : s.size = 32 := by simpa using hsl
  refine (writeString_any (w.heap.size + 1) (w.heap.size + 1) _ s W h.bld (by rw [Lib.byteCells_length, catB_len, hss]; omega) (by have := h.lt; omega)).mono ?_
  rintro e w' ⟨he, hbl, hb, _⟩
  have e2 : Lib.byteCells (catB key nonce i0 m) ++ Lib.strCells s = Lib.byteCells (catB key nonce i0 (m + 1)) := by
    rw [catB_succ, ← hs]; simp [Lib.byteCells, Lib.strCells]
  rw [e2] at hbl
  exact ⟨he, .inr hbl, (hb.block _ (by omega)).trans h.row, h.below.trans (hb.mono (by omega)), Nat.lt_of_lt_of_le h.lt hb.size⟩
theorem yieldsIf_load_row {P : Program} {ops : Array Oper} {S : World → Prop} {op : Oper} {a : Act} (hw : Region.wanted op (yielded ops a.tmps) = true) (ty : TypeId) (x : Operand) (ho : op.op = .load ty x)
    (b : Nat) (hx : a.eval x = .pointer (some ⟨b, 0, none⟩)) (cs : Array Value) (t : TypeId) (fr : Nat × Nat) (d : TypeDesc) (hS : ∀ w, S w → w.heap[b]? = some (.cells cs t fr))
    (hu : P.underlying ty = some d) (hd : (match d with | .struct _ | .array _ _ => true | _ => false) = true) (hi : (P.info? ty).map (·.size) = some cs.size) : YieldsIf P ops S op (.agg cs) a :=
  .inl ⟨hw, fun w hw' => by
    unfold execOp
    simp only [ho, hx, Instr.loadAt, Instr.sureAddr, Sem.run_bind, Sem.run_pure, Result.andThen_ok, run_loadVar_row w b t ty cs fr d (hS w hw') hu hd hi]⟩
theorem lockV_size (key : List UInt8) : (lockV key).size = 20 := by
  unfold lockV
  rw [Array.size_append, hashV_size, hashV_size, absorb_len rfl, absorb_len rfl]
theorem StmAt.load {key : List UInt8} {nonce i0 m : Nat} {w W : World} (h : StmAt key nonce i0 m w W) : (loadVar 79 ⟨w.heap.size, 0, none⟩).run Tryd.prog W = .ok (.agg (lockV key)) W :=
  run_loadVar_row W w.heap.size 79 79 (lockV key) (0, 0) _ h.row Tryd.underlying79 rfl (by rw [lockV_size]; kernel_rfl)

def StmRel (key : List UInt8) (nonce i0 T : Nat) (w : World) (v : Value) (wr : World) : Prop :=
  ∃ m : Nat, 32 * m < T + 32 ∧ v = .int .i64 ((i0 + m : Nat) : Int) ∧ StmAt key nonce i0 m w wr

set_option maxHeartbeats 8000000 in
set_option maxRecDepth 100000 in
theorem stream_any (key : List UInt8) (nonce f n : Nat) (hno : nonce < 9223372036854775808) (hf : f ≤ 1048576) (hn : n ≤ 1048576) (w : World) (ht : TabD w) :
    Calls Tryd.prog 58 #[.agg (lockV key), .int .i64 (nonce : Int), .int .i64 (f : Int), .int .i64 (n : Int)] w fun e w' => e = .returned (.string (strL (ksL key nonce f n))) ∧ Below w.heap.size w w' := by
  have HT := Lib.hid ht
  obtain ⟨sk, hsk⟩ : ∃ z : Nat, z = f % 32 := ⟨_, rfl⟩
  obtain ⟨i0, hi0⟩ : ∃ z : Nat, z = f / 32 := ⟨_, rfl⟩
  have es1 : (f : Int) % 32 = (sk : Int) := by omega
  have es2 : (f : Int).tmod 32 = (sk : Int) := by rw [Int.tmod_eq_emod_of_nonneg (by omega)]; exact es1
  have ei1 : (f : Int) / 32 = (i0 : Int) := by omega
  have ei2 : (f : Int).tdiv 32 = (i0 : Int) := by rw [Int.tdiv_eq_ediv_of_nonneg (by omega)]; exact ei1
  obtain ⟨T, hT⟩ : ∃ z : Nat, z = sk + n := ⟨_, rfl⟩
  have eT : (sk : Int) + (n : Int) = (T : Int) := by omega
  have hTb : T ≤ 1048700 := by omega
  have hib : i0 ≤ 40000 := by omega
  have hSKT : sk ≤ T := by omega
  have hibI : (i0 : Int) ≤ 40000 := by omega
  have hTbI : (T : Int) ≤ 1048700 := by omega
  have HSK := Lib.hid hsk
  have HI0 := Lib.hid hi0
  have HTT := Lib.hid hT
  have HTB := Lib.hid hTb
  have HIB := Lib.hid hib
  have HSKT := Lib.hid hSKT
  have HNO := Lib.hid hno
  have hbox : ∀ (A : World), (A.alloc (.cells (lockV key) 79)).heap[A.heap.size]? = some (.cells (lockV key) 79 (0, 0)) := fun A => heap_alloc_new A _
  have HBOX := Lib.hid hbox
  clear hsk hi0 hT hTb hib ht hf hn hno hbox hSKT
  go_enter Tryd.func58, Tryd.ntmps58
  go_wp2_with fail
  obtain ⟨W0, hW0⟩ : ∃ z, z = (w.alloc (.cells (lockV key) 79)).alloc (.cells #[.pointer none, .slice none 0 0] 94) := ⟨_, rfl⟩
  have HS0 : Hid (StmAt key nonce i0 0 w W0) := Lib.hid (by
    have hI := Lib.IsBuilderF.of (Lib.fresh_isBuilder 94 5 (w.alloc (.cells (lockV key) 79)))
    rw [show (w.alloc (.cells (lockV key) 79)).heap.size = w.heap.size + 1 by simp] at hI
    refine ⟨by rw [hW0]; exact hI, ?_, ?_, ?_⟩
    · rw [hW0, heap_alloc_old _ _ (by simp)]; exact HBOX.out w
    · rw [hW0]; exact ((Below.refl _ _).alloc (Nat.le_refl _) _).alloc (by simp) _
    · rw [hW0]; simp)
  rw [← hW0]
  clear hW0 es1 es2 ei1 ei2
  go_loopw [11] (fun v wr => StmRel key nonce i0 T w v wr) (fun v _ => i0 + T + 2 - (intOf v).toNat)
  case atStart => exact ⟨0, by omega, rfl, HS0.out⟩
  case round =>
    clear HS0
    obtain ⟨m, hm, rfl, hS⟩ := hrel
    have hlen := Tryd.Builder_Len_f _ _ _ _ hS.bld
    rw [Lib.byteCells_length, catB_len] at hlen
    have HLN := Lib.hid hlen
    have HSS := Lib.hid hS
    have hmb : m ≤ 40000 := by have := HTB.out; omega
    clear hlen hS
    by_cases hlt : 32 * m < T
    · as_aux_lemma =>
      obtain ⟨im, him⟩ : ∃ z : Nat, z = i0 + m := ⟨_, rfl⟩
      rw [← him]
      have hltI : ((32 * m : Nat) : Int) < (T : Int) := by omega
      have himb : im ≤ 90000 := by have := HIB.out; omega
      have hno0 : (0 : Int) ≤ (nonce : Int) := by omega
      have HW1 := Lib.hid (fun w => word_any (nonce : Int) (by omega) (by have := HNO.out; omega) w)
      have HW2 := Lib.hid (fun w => word_any (im : Int) (by omega) (by omega) w)
      have hw1 : IntKind.u64.wrap (nonce : Int) = (nonce : Int) := by rw [IntKind.wrap_u64]; have := HNO.out; omega
      have hw2 : IntKind.u64.wrap (im : Int) = (im : Int) := by rw [IntKind.wrap_u64]; omega
      obtain ⟨q1, hq1⟩ : ∃ q, q = strL (beL 8 (nonce : Int)) := ⟨_, rfl⟩
      obtain ⟨q2, hq2⟩ : ∃ q, q = strL (beL 8 (im : Int)) := ⟨_, rfl⟩
      rw [← hq1] at HW1
      rw [← hq2] at HW2
      have hs1 : q1.size = 8 := by rw [hq1, strL_size, beL_len]
      have hs2 : q2.size = 8 := by rw [hq2, strL_size, beL_len]
      have hqd : (q1 ++ q2).data.toList = beL 8 (nonce : Int) ++ beL 8 (im : Int) := by rw [hq1, hq2]; simp [strL]
      have HMC := Lib.hid (fun w ht => mac_any key (q1 ++ q2) (by rw [ByteArray.size_append]; omega) w ht)
      rw [hqd] at HMC
      obtain ⟨K, hK⟩ : ∃ z, z = strL (macL key (beL 8 (nonce : Int) ++ beL 8 (im : Int))) := ⟨_, rfl⟩
      rw [← hK] at HMC
      have hKd : K.data.toList = ksB key nonce (i0 + m) := by rw [hK, strL_data, him]; rfl
      have hKs : K.size = 32 := by rw [hK, strL_size]; unfold macL; rw [shaL_len]
      have hcat : ¬ (9223372036854775807 < q1.data.toList.length + q2.data.toList.length) := by simp; omega
      have hcat2 : ¬ (9223372036854775807 < q1.size + q2.size) := by omega
      have HWR := Lib.hid (fun W (h : StmAt key nonce i0 m w W) => h.write (by omega) K hKd)
      have HIM := Lib.hid him
      clear hq1 hq2 hs1 hs2 hqd hK hKd hKs him
      go_wp2_with fail
      refine HLN.out.mono ?_
      rintro e w1 ⟨rfl, rfl⟩
      go_wp2_with fail
      have hS := HSS.out
      have hSd := hS.drew
      have hsz : (Tryd.prog.info? 79).map (·.size) = some (lockV key).size := by rw [lockV_size]; kernel_rfl
      refine wp_region_held_drew (S := fun W => W.heap[w.heap.size]? = some (.cells (lockV key) 79 (0, 0))) (by kernel_rfl) hSd.row (fun hHeld => ?_)
      refine wpAnyH_take (i := 0) (v := .agg (lockV key)) rfl (by kernel_rfl) (by kernel_rfl) (by kernel_rfl) (fun _ _ _ h => h) (yieldsIf_load_row (by rfl) 79 _ rfl w.heap.size rfl (lockV key) 79 (0, 0) _ (fun w h => h) Tryd.underlying79 rfl hsz) hHeld ?_
      try simp only [Act.put]
      try simp only [List.setIfInBounds_toArray]
      repeat (first | simp only [List.set_cons_succ] | simp only [List.set_cons_zero])
      refine wpAnyH_take (i := 1) (v := .int .i64 (nonce : Int)) rfl (by kernel_rfl) (by kernel_rfl) (by kernel_rfl) (fun _ _ _ h => h) (Or.inl ⟨by rfl, ?_⟩) hHeld ?_
      · (intro W hSw; clear hHeld; go_simp)
      try simp only [Act.put]
      try simp only [List.setIfInBounds_toArray]
      repeat (first | simp only [List.set_cons_succ] | simp only [List.set_cons_zero])
      refine wpAnyH_take (i := 2) (v := .int .u64 (nonce : Int)) rfl (by kernel_rfl) (by kernel_rfl) (by kernel_rfl) (fun _ _ _ h => h) (Or.inl ⟨by rfl, ?_⟩) hHeld ?_
      · (intro W hSw; clear hHeld; go_simp)
      try simp only [Act.put]
      try simp only [List.setIfInBounds_toArray]
      repeat (first | simp only [List.set_cons_succ] | simp only [List.set_cons_zero])
      refine wpAnyH_take (i := 4) (v := .int .i64 (im : Int)) rfl (by kernel_rfl) (by kernel_rfl) (by kernel_rfl) (fun _ _ _ h => h) (Or.inl ⟨by rfl, ?_⟩) hHeld ?_
      · (intro W hSw; clear hHeld; go_simp)
      try simp only [Act.put]
      try simp only [List.setIfInBounds_toArray]
      repeat (first | simp only [List.set_cons_succ] | simp only [List.set_cons_zero])
      refine wpAnyH_take (i := 5) (v := .int .u64 (im : Int)) rfl (by kernel_rfl) (by kernel_rfl) (by kernel_rfl) (fun _ _ _ h => h) (Or.inl ⟨by rfl, ?_⟩) hHeld ?_
      · (intro W hSw; clear hHeld; go_simp)
      try simp only [Act.put]
      try simp only [List.setIfInBounds_toArray]
      repeat (first | simp only [List.set_cons_succ] | simp only [List.set_cons_zero])
      refine wpAnyH_ready (rs := [3]) (by kernel_rfl) (by simp) ?_
      refine AllReadyH.cons rfl (fun K hK => ?_) AllReadyH.nil
      clear hHeld
      go_simp
      refine (carryT hSd (HW1.out _)).mono ?_
      rintro e w4 ⟨rfl, hS4⟩
      refine hK.out _ _ hS4.row (fun hHeld => ?_)
      clear hK
      try simp only [Act.put]
      try simp only [List.setIfInBounds_toArray]
      repeat (first | simp only [List.set_cons_succ] | simp only [List.set_cons_zero])
      refine wpAnyH_ready (rs := [6]) (by kernel_rfl) (by simp) ?_
      refine AllReadyH.cons rfl (fun K hK => ?_) AllReadyH.nil
      clear hHeld
      go_simp
      refine (carryT hS4 (HW2.out _)).mono ?_
      rintro e w7 ⟨rfl, hS5⟩
      refine hK.out _ _ hS5.row (fun hHeld => ?_)
      clear hK
      try simp only [Act.put]
      try simp only [List.setIfInBounds_toArray]
      repeat (first | simp only [List.set_cons_succ] | simp only [List.set_cons_zero])
      refine wpAnyH_take (i := 7) (v := .string (q1 ++ q2)) rfl (by kernel_rfl) (by kernel_rfl) (by kernel_rfl) (fun _ _ _ h => h) (Or.inl ⟨by rfl, ?_⟩) hHeld ?_
      · (intro W hSw; clear hHeld; go_simp)
      try simp only [Act.put]
      try simp only [List.setIfInBounds_toArray]
      repeat (first | simp only [List.set_cons_succ] | simp only [List.set_cons_zero])
      refine wpAnyH_ready (rs := [8]) (by kernel_rfl) (by simp) ?_
      refine AllReadyH.cons rfl (fun K hK => ?_) AllReadyH.nil
      clear hHeld
      go_simp
      refine (carryT hS5 (HMC.out _ (HT.out.below hS5.below HT.out.pos))).mono ?_
      rintro e w9 ⟨rfl, hS6⟩
      refine hK.out _ _ hS6.row (fun hHeld => ?_)
      clear hK
      try simp only [Act.put]
      try simp only [List.setIfInBounds_toArray]
      repeat (first | simp only [List.set_cons_succ] | simp only [List.set_cons_zero])
      refine wpAnyH_ready (rs := [9]) (by kernel_rfl) (by simp) ?_
      refine AllReadyH.cons rfl (fun K hK => ?_) AllReadyH.nil
      clear hHeld
      go_simp
      refine (HWR.out _ hS6).mono ?_
      rintro e w10 ⟨rfl, hS7⟩
      refine hK.out _ _ hS7.row (fun hHeld => ?_)
      clear hK
      try simp only [Act.put]
      try simp only [List.setIfInBounds_toArray]
      repeat (first | simp only [List.set_cons_succ] | simp only [List.set_cons_zero])
      refine wpAnyH_done (by kernel_rfl) ?_ _
      clear hHeld
      have HS7 := Lib.hid hS7
      clear hS hSd hS4 hS5 hS6 hS7
      go_wp2_with fail
      go_roundw
      case rel => exact ⟨m + 1, by omega, by rw [HIM.out]; go_num, HS7.out⟩
      case measure => have := HIM.out; simp [intOf]; omega
    · as_aux_lemma =>
      have hltI : ¬ ((32 * m : Nat) : Int) < (T : Int) := by omega
      have HST := Lib.hid (fun W (h : StmAt key nonce i0 m w W) => Tryd.Builder_String_any_f _ _ _ _ h.bld (by have := h.lt; omega))
      obtain ⟨Z, hZ⟩ : ∃ z, z = strL (catB key nonce i0 m) := ⟨_, rfl⟩
      have hZZ : (⟨(catB key nonce i0 m).toArray⟩ : ByteArray) = Z := hZ.symm
      rw [hZZ] at HST
      have hZs : Z.size = 32 * m := by rw [hZ, strL_size, catB_len]
      have hZI : (T : Int) ≤ (Z.size : Int) := by omega
      have hZd : Z.data.toList = catB key nonce i0 m := by rw [hZ, strL_data]
      have HRES : Hid (Z.extract sk T = strL (ksL key nonce f n)) := Lib.hid (by
        refine strL_of ?_
        rw [Lib.extract_data, hZd, HTT.out, HI0.out, HSK.out, show f % 32 + n - f % 32 = n by omega]
        exact ks_cut key nonce f n m (by have h1 := HTT.out; have h2 := HSK.out; omega))
      have hskI : (sk : Int) ≤ (T : Int) := by have := HSKT.out; omega
      clear hlt hm hZ hZZ hZs hZd
      go_wp2_with fail
      refine HLN.out.mono ?_
      rintro e w1 ⟨rfl, rfl⟩
      go_wp2_with fail
      refine (HST.out _ HSS.out).mono ?_
      rintro e w2 ⟨rfl, hbl, hb⟩
      have HB := Lib.hid (HSS.out.below.trans (hb.mono (by omega)))
      clear hbl hb
      go_wp2_with fail
      go_ret
      exact ⟨by rw [← HRES.out]; rfl, HB.out⟩
end Go.Proofs.YthhaofdnbemogaaDoor
