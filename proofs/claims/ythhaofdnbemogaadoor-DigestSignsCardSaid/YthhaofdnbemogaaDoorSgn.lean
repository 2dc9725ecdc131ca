/-
  digest.challenge, Sign, Verify; acheronref03.number, Sign, Verify.
-/
import Derived.Test.YthhaofdnbemogaaDoorRefPow
import Derived.Test.YthhaofdnbemogaaDoorRsS
import Derived.Test.YthhaofdnbemogaaDoorGrpS
import Derived.Deep.RegionWith
set_option linter.unusedVariables false
namespace Go.Proofs.YthhaofdnbemogaaDoor
open Go.RowKit

def foldN (d : List UInt8) : Nat → Int
  | 0 => 0
  | k + 1 => bits .or .u64 (foldN d k * 256 % 18446744073709551616) (byt d k)
theorem bits64 (op : BinOp) (x y : Int) : 0 ≤ bits op .u64 x y ∧ bits op .u64 x y < 18446744073709551616 := by
  unfold bits
  rw [IntKind.wrap_u64]
  omega
theorem foldN_bd (d : List UInt8) (k : Nat) : 0 ≤ foldN d k ∧ foldN d k < 18446744073709551616 := by
  cases k with
  | zero => exact ⟨Int.le_refl _, by unfold foldN; decide⟩
  | succ k => exact bits64 _ _ _
/-- The number E for the key of a nonce and a message. -/
noncomputable def chal (r : Int) (s : List UInt8) : Int := foldN (shaL (beL 8 r ++ s)) 8 % 1152921504606845789
theorem chal_bd (r : Int) (s : List UInt8) : 0 ≤ chal r s ∧ chal r s < 1152921504606845789 := by unfold chal; omega
theorem byt_at64 (s : ByteArray) (k : Nat) (h : k < s.size) : (s[k].toNat : Int) = byt s.data.toList k ∧ (s[k].toNat : Int) % 18446744073709551616 = byt s.data.toList k := by
  have h1 : s.data.toList.getD k 0 = s[k] := by
    rw [List.getD_eq_getElem?_getD, List.getElem?_eq_getElem (by simpa using h)]
    rfl
  unfold byt
  rw [h1]
  have := s[k].toNat_lt
  omega
def ChalRel (d : List UInt8) (n i : Value) : Prop := ∃ k : Nat, k ≤ 8 ∧ i = .int .i64 (k : Int) ∧ n = .int .u64 (foldN d k)

set_option maxHeartbeats 2000000 in
set_option maxRecDepth 100000 in
theorem challenge_any (r : Int) (h0 : 0 ≤ r) (h1 : r < 9223372036854775808) (s : ByteArray) (hs : s.size ≤ 1000000) (w : World) (ht : TabD w) :
    Calls Tryd.prog 67 #[.int .i64 r, .string s] w fun e w' => e = .returned (.int .i64 (chal r s.data.toList)) ∧ Below w.heap.size w w' := by
  have hw : IntKind.u64.wrap r = r := by rw [IntKind.wrap_u64]; omega
  have HW := Lib.hid (fun w => word_any r (by omega) (by omega) w)
  obtain ⟨q, hq⟩ : ∃ q, q = strL (beL 8 r) := ⟨_, rfl⟩
  rw [← hq] at HW
  have hql : q.size = 8 := by rw [hq, strL_size, beL_len]
  have hqs : (q ++ s).data.toList = beL 8 r ++ s.data.toList := by rw [hq]; simp [strL]
  have HS := Lib.hid (fun w ht => sum_any (q ++ s) (by rw [ByteArray.size_append]; omega) w ht)
  rw [hqs] at HS
  obtain ⟨D, hD⟩ : ∃ D, D = strL (shaL (beL 8 r ++ s.data.toList)) := ⟨_, rfl⟩
  rw [← hD] at HS
  have hDs : D.size = 32 := by rw [hD, strL_size, shaL_len]
  have hDd : D.data.toList = shaL (beL 8 r ++ s.data.toList) := by rw [hD, strL_data]
  have hcat : ¬ (9223372036854775807 < q.data.toList.length + s.data.toList.length) := by simp; omega
  have HE : Hid (chal r s.data.toList = foldN D.data.toList 8 % 1152921504606845789) := Lib.hid (by rw [hDd]; rfl)
  have HT := Lib.hid ht
  clear ht
  have HDS := Lib.hid hDs
  clear hq hql hqs hD hDs hDd hs
  go_enter Tryd.func67, Tryd.ntmps67
  go_wp2_with fail
  refine (HW.out _).mono ?_
  rintro e w1 ⟨rfl, hb⟩
  have HB1 := Lib.hid hb
  clear hb
  go_wp2_with fail
  refine (HS.out _ (HT.out.below HB1.out HT.out.pos)).mono ?_
  rintro e w2 ⟨rfl, hb⟩
  have HB2 := Lib.hid (HB1.out.trans (hb.mono HB1.out.size))
  clear hb hw hcat h0 h1
  go_wp2_with fail
  go_loop [6, 14] (fun n i => ChalRel D.data.toList n i) (fun _ i => 8 - (intOf i).toNat)
  case atStart => exact ⟨0, by omega, rfl, rfl⟩
  case round =>
    obtain ⟨k, hk, rfl, rfl⟩ := hrel
    have hbd := foldN_bd D.data.toList k
    by_cases hlt : k < 8
    · have hltI : (k : Int) < 8 := by omega
      have hkD : k < D.size := by rw [HDS.out]; omega
      have hkDI : (k : Int) < (D.size : Int) := by omega
      have hbt := byt_at64 D k hkD
      have HST : Hid (foldN D.data.toList (k + 1) = bits .or .u64 (foldN D.data.toList k * 256 % 18446744073709551616) (byt D.data.toList k)) := Lib.hid rfl
      have HB0 := Lib.hid hbt.1
      have HB8 : Hid (byt D.data.toList k % 18446744073709551616 = byt D.data.toList k) := Lib.hid (by rw [← hbt.1]; rw [hbt.2]; exact hbt.1.symm)
      generalize foldN D.data.toList k = x at *
      have hx0 := hbd.1
      have hx1 := hbd.2
      clear hbt hbd
      go_wp2_with fail
      go_round
      case rel => exact ⟨k + 1, by omega, by go_num, by rw [HST.out, HB0.out, IntKind.wrap_u64, IntKind.wrap_u64, HB8.out]⟩
      case measure => simp [intOf]; omega
    · obtain rfl : k = 8 := by omega
      generalize foldN D.data.toList 8 = x at *
      have hx0 := hbd.1
      have hx1 := hbd.2
      have ht1 : x.tmod 1152921504606845789 = x % 1152921504606845789 := Int.tmod_eq_emod_of_nonneg hx0
      have ht2 : wrap64 (x % 1152921504606845789) = x % 1152921504606845789 := by unfold wrap64; omega
      clear hbd
      go_wp2_with fail
      go_ret
      exact ⟨by rw [HE.out]; first | rfl | simp [ht2], HB2.out⟩

set_option maxHeartbeats 2000000 in
set_option maxRecDepth 100000 in
theorem number_any (r : Int) (h0 : 0 ≤ r) (h1 : r < 9223372036854775808) (s : ByteArray) (hs : s.size ≤ 1000000) (w : World) :
    Calls Tryd.prog 68 #[.int .i64 r, .string s] w fun e w' => e = .returned (.int .i64 (chal r s.data.toList)) ∧ Below w.heap.size w w' := by
  have hw : IntKind.u64.wrap r = r := by rw [IntKind.wrap_u64]; omega
  have HW := Lib.hid (fun w => refBytes8 r h0 h1 w)
  obtain ⟨q, hq⟩ : ∃ q, q = strL (beL 8 r) := ⟨_, rfl⟩
  rw [← hq] at HW
  have hql : q.size = 8 := by rw [hq, strL_size, beL_len]
  have hqs : (q ++ s).data.toList = beL 8 r ++ s.data.toList := by rw [hq]; simp [strL]
  have HS := Lib.hid (fun w => refSum_any (q ++ s) (by rw [ByteArray.size_append]; omega) w)
  rw [hqs] at HS
  obtain ⟨D, hD⟩ : ∃ D, D = strL (shaL (beL 8 r ++ s.data.toList)) := ⟨_, rfl⟩
  rw [← hD] at HS
  have hDs : D.size = 32 := by rw [hD, strL_size, shaL_len]
  have hDd : D.data.toList = shaL (beL 8 r ++ s.data.toList) := by rw [hD, strL_data]
  have hcat : ¬ (9223372036854775807 < q.data.toList.length + s.data.toList.length) := by simp; omega
  have HE : Hid (chal r s.data.toList = foldN D.data.toList 8 % 1152921504606845789) := Lib.hid (by rw [hDd]; rfl)
  have HDS := Lib.hid hDs
  clear hq hql hqs hD hDs hDd hs
  go_enter Tryd.func68, Tryd.ntmps68
  go_wp2_with fail
  refine (HW.out _).mono ?_
  rintro e w1 ⟨rfl, hb⟩
  have HB1 := Lib.hid hb
  clear hb
  go_wp2_with fail
  refine (HS.out _).mono ?_
  rintro e w2 ⟨rfl, hb⟩
  have HB2 := Lib.hid (HB1.out.trans (hb.mono HB1.out.size))
  clear hb hw hcat h0 h1
  go_wp2_with fail
  go_loop [6, 7] (fun n i => ChalRel D.data.toList n i) (fun _ i => 8 - (intOf i).toNat)
  case atStart => exact ⟨0, by omega, rfl, rfl⟩
  case round =>
    obtain ⟨k, hk, rfl, rfl⟩ := hrel
    have hbd := foldN_bd D.data.toList k
    by_cases hlt : k < 8
    · have hltI : (k : Int) < 8 := by omega
      have hkD : k < D.size := by rw [HDS.out]; omega
      have hkDI : (k : Int) < (D.size : Int) := by omega
      have hbt := byt_at64 D k hkD
      have HST : Hid (foldN D.data.toList (k + 1) = bits .or .u64 (foldN D.data.toList k * 256 % 18446744073709551616) (byt D.data.toList k)) := Lib.hid rfl
      have HB0 := Lib.hid hbt.1
      have HB8 : Hid (byt D.data.toList k % 18446744073709551616 = byt D.data.toList k) := Lib.hid (by rw [← hbt.1]; rw [hbt.2]; exact hbt.1.symm)
      generalize foldN D.data.toList k = x at *
      have hx0 := hbd.1
      have hx1 := hbd.2
      clear hbt hbd
      go_wp2_with fail
      go_round
      case rel => exact ⟨k + 1, by omega, by go_num, by rw [HST.out, HB0.out, IntKind.wrap_u64, IntKind.wrap_u64, HB8.out]⟩
      case measure => simp [intOf]; omega
    · obtain rfl : k = 8 := by omega
      generalize foldN D.data.toList 8 = x at *
      have hx0 := hbd.1
      have hx1 := hbd.2
      have ht1 : x.tmod 1152921504606845789 = x % 1152921504606845789 := Int.tmod_eq_emod_of_nonneg hx0
      have ht2 : wrap64 (x % 1152921504606845789) = x % 1152921504606845789 := by unfold wrap64; omega
      clear hbd
      go_wp2_with fail
      go_ret
      exact ⟨by rw [HE.out]; first | rfl | simp [ht2], HB2.out⟩

theorem results_cell_row2 {P : Program} {fn : Func} {p q : Tmp} {ty : TypeId} (h : fn.results = #[.cell p ty, .tmp q]) (tmps : Array Value) (w : World) (g : Nat) (t : TypeId) (cs : Array Value) (fr : Nat × Nat) (d : TypeDesc) (v : Value)
    (hp : tmps.getD p undef = .pointer (some ⟨g, 0, none⟩)) (hq : tmps.getD q undef = v) (hg : w.heap[g]? = some (.cells cs t fr))
    (hu : P.underlying ty = some d) (hd : (match d with | .struct _ | .array _ _ => true | _ => false) = true) (hi : (P.info? ty).map (·.size) = some cs.size) :
    (results fn tmps).run P w = .ok (.tuple #[.agg cs, v]) w := by
  have hp' : tmps[p]?.getD undef = .pointer (some ⟨g, 0, none⟩) := by simpa using hp
  have hq' : tmps[q]?.getD undef = v := by simpa using hq
  simp [results, h, hp', hq', asAddr, run_loadVar_row w g t ty cs fr d hg hu hd hi]
theorem sig_size : (Tryd.prog.info? 58).map (·.size) = some 2 := by kernel_rfl
noncomputable def chalN (r : Nat) (s : List UInt8) : Nat := (chal (r : Int) s).toNat
theorem chalN_eq (r : Nat) (s : List UInt8) : (chalN r s : Int) = chal (r : Int) s := by
  have := chal_bd (r : Int) s
  unfold chalN
  omega
theorem chalN_lt (r : Nat) (s : List UInt8) : chalN r s < 1152921504606845789 := by
  have := chal_bd (r : Int) s
  unfold chalN
  omega
theorem challengeN (r : Nat) (h1 : r < 9223372036854775808) (s : ByteArray) (hs : s.size ≤ 1000000) (w : World) (ht : TabD w) :
    Calls Tryd.prog 67 #[.int .i64 (r : Int), .string s] w fun e w' => e = .returned (.int .i64 (chalN r s.data.toList : Int)) ∧ Below w.heap.size w w' := by
  rw [chalN_eq]; exact challenge_any (r : Int) (by omega) (by omega) s hs w ht
theorem numberN (r : Nat) (h1 : r < 9223372036854775808) (s : ByteArray) (hs : s.size ≤ 1000000) (w : World) :
    Calls Tryd.prog 68 #[.int .i64 (r : Int), .string s] w fun e w' => e = .returned (.int .i64 (chalN r s.data.toList : Int)) ∧ Below w.heap.size w w' := by
  rw [chalN_eq]; exact number_any (r : Int) (by omega) (by omega) s hs w
/-- The number S of a signature. -/
noncomputable def sigN (x n : Nat) (s : List UInt8) : Nat := (n + x * chalN (powP 4 n) s % 1152921504606845789) % 1152921504606845789

set_option maxHeartbeats 1000000 in
set_option maxRecDepth 100000 in
theorem Sign_no1 (x n : Int) (s : ByteArray) (h : secretB x = false) (w : World) :
    Calls Tryd.prog 41 #[.int .i64 x, .int .i64 n, .string s] w fun e w' => e = .returned (.tuple #[.agg #[.int .i64 0, .int .i64 0], .int .i64 11]) ∧ Below w.heap.size w w' := by
  have HU := Lib.hid (fun w => secret_no x h w)
  clear h
  go_enter Tryd.func41, Tryd.ntmps41
  go_wp2_with fail
  refine (HU.out _).mono ?_
  rintro e w1 ⟨rfl, rfl⟩
  go_wp2_with fail
  exact bodyPost_ret (results_cell_row2 rfl _ _ w.heap.size 58 #[.int .i64 0, .int .i64 0] (0, 0) _ _ rfl rfl (heap_alloc_new w _) Tryd.underlying58 rfl sig_size) rfl ⟨rfl, (Below.refl _ _).alloc (Nat.le_refl _) _⟩
set_option maxHeartbeats 1000000 in
set_option maxRecDepth 100000 in
theorem Sign_no2 (x n : Int) (s : ByteArray) (hx : secretB x = true) (h : secretB n = false) (w : World) :
    Calls Tryd.prog 41 #[.int .i64 x, .int .i64 n, .string s] w fun e w' => e = .returned (.tuple #[.agg #[.int .i64 0, .int .i64 0], .int .i64 11]) ∧ Below w.heap.size w w' := by
  have HU := Lib.hid (fun w => secret_yes x hx w)
  have HV := Lib.hid (fun w => secret_no n h w)
  clear hx h
  go_enter Tryd.func41, Tryd.ntmps41
  go_wp2_with fail
  refine (HU.out _).mono ?_
  rintro e w1 ⟨rfl, rfl⟩
  go_wp2_with fail
  refine (HV.out _).mono ?_
  rintro e w2 ⟨rfl, rfl⟩
  go_wp2_with fail
  exact bodyPost_ret (results_cell_row2 rfl _ _ w.heap.size 58 #[.int .i64 0, .int .i64 0] (0, 0) _ _ rfl rfl (heap_alloc_new w _) Tryd.underlying58 rfl sig_size) rfl ⟨rfl, (Below.refl _ _).alloc (Nat.le_refl _) _⟩

theorem sig_facts (x n : Nat) (s : List UInt8) (hn : n < 1152921504606845789) : ∃ p S : Nat, p = x * chalN (powP 4 n) s % 1152921504606845789 ∧ S = sigN x n s ∧ ((n : Int) + (p : Int)) % 1152921504606845789 = (S : Int) ∧ ((n : Int) + (p : Int)).tmod 1152921504606845789 = (S : Int) ∧ p < 1152921504606845789 ∧ S < 1152921504606845789 := by
  refine ⟨_, _, rfl, rfl, ?_, ?_, Nat.mod_lt _ (by decide), Nat.mod_lt _ (by decide)⟩
  · unfold sigN
    generalize x * chalN (powP 4 n) s % 1152921504606845789 = p
    omega
  · rw [Int.tmod_eq_emod_of_nonneg (by omega)]
    unfold sigN
    generalize x * chalN (powP 4 n) s % 1152921504606845789 = p
    omega
set_option maxHeartbeats 2000000 in
set_option maxRecDepth 100000 in
theorem Sign_yes (x n : Nat) (s : ByteArray) (hs : s.size ≤ 1000000) (hx : secretB (x : Int) = true) (hn : secretB (n : Int) = true) (w : World) (ht : TabD w) :
    Calls Tryd.prog 41 #[.int .i64 (x : Int), .int .i64 (n : Int), .string s] w fun e w' => e = .returned (.tuple #[.agg #[.int .i64 (chalN (powP 4 n) s.data.toList : Int), .int .i64 (sigN x n s.data.toList : Int)], .int .i64 0]) ∧ Below w.heap.size w w' := by
  have bx := secretB_of hx
  have bn := secretB_of hn
  have HU := Lib.hid (fun w => secret_yes (x : Int) hx w)
  have HV := Lib.hid (fun w => secret_yes (n : Int) hn w)
  have HP := Lib.hid (fun w => power_any 4 n (by omega) (by omega) w)
  have HC := Lib.hid (fun w ht => challengeN (powP 4 n) (by have := powP_lt 4 n; omega) s hs w ht)
  have HM := Lib.hid (fun w => product_o x (chalN (powP 4 n) s.data.toList) (by omega) (by have := chalN_lt (powP 4 n) s.data.toList; omega) w)
  obtain ⟨p, S, hp, hS, e1, e2, hpl, hSl⟩ := sig_facts x n s.data.toList (by omega)
  rw [← hp] at HM
  rw [← hS]
  have h4 : ((4 : Nat) : Int) = 4 := rfl
  rw [h4] at HP
  have bn0 : 0 ≤ (n : Int) := by omega
  have bp0 : 0 ≤ (p : Int) := by omega
  have bnI : (n : Int) < 1152921504606845789 := bn.2
  have bpI : (p : Int) < 1152921504606845789 := by omega
  have HT := Lib.hid ht
  generalize chalN (powP 4 n) s.data.toList = E at *
  generalize powP 4 n = R at *
  clear bx bn hx hn ht hp hS hpl hSl h4 hs
  generalize (n : Int) = ni at *
  generalize (p : Int) = pi at *
  go_enter Tryd.func41, Tryd.ntmps41
  go_wp2_with fail
  refine (HU.out _).mono ?_
  rintro e w1 ⟨rfl, rfl⟩
  go_wp2_with fail
  refine (HV.out _).mono ?_
  rintro e w2 ⟨rfl, rfl⟩
  obtain ⟨w0, hw0⟩ : ∃ x, x = w.alloc (.cells #[.int .i64 0, .int .i64 0] 58) := ⟨_, rfl⟩
  have HR0 : Hid (w0.heap[w.heap.size]? = some (.cells #[.int .i64 0, .int .i64 0] 58 (0, 0))) := Lib.hid (by rw [hw0]; exact heap_alloc_new w _)
  have HB0 : Hid (Below w.heap.size w w0) := Lib.hid (by rw [hw0]; exact (Below.refl _ _).alloc (Nat.le_refl _) _)
  go_wp2_with fail
  rw [← hw0]
  clear hw0
  refine (HP.out _).mono ?_
  rintro e w3 ⟨rfl, hb⟩
  have HB3 := Lib.hid (HB0.out.trans (hb.mono HB0.out.size))
  have HR3 := Lib.hid ((hb.block _ (Array.getElem?_eq_some_iff.1 HR0.out).1).trans HR0.out)
  clear hb
  go_wp2_with fail
  refine (HC.out _ (HT.out.below HB3.out HT.out.pos)).mono ?_
  rintro e w4 ⟨rfl, hb⟩
  have HB4 := Lib.hid (HB3.out.trans (hb.mono HB3.out.size))
  have HR4 := Lib.hid ((hb.block _ (Array.getElem?_eq_some_iff.1 HR3.out).1).trans HR3.out)
  clear hb
  go_wp2_with fail
  refine (HM.out _).mono ?_
  rintro e w5 ⟨rfl, hb⟩
  have HB5 := Lib.hid (HB4.out.trans (hb.mono HB4.out.size))
  have HR5 := Lib.hid ((hb.block _ (Array.getElem?_eq_some_iff.1 HR4.out).1).trans HR4.out)
  clear hb
  go_wp2_with (refine wpList_store_row rfl 58 _ _ rfl w.heap.size #[.int .i64 (E : Int), .int .i64 (S : Int)] rfl rfl 58 _ HR5.out ?z2 ?z3 ?z4 ?_; (case z2 => exact sig_size); (case z3 => rfl); (case z4 => simp [Value.oneCell']))
  go_wp2_with fail
  exact bodyPost_ret (results_cell_row2 rfl _ _ w.heap.size 58 #[.int .i64 (E : Int), .int .i64 (S : Int)] (0, 0) _ _ rfl rfl (setRow_heap _ _ _ _ _ _ HR5.out) Tryd.underlying58 rfl sig_size) rfl ⟨rfl, below_setRow HB5.out (Nat.le_refl _) _⟩

set_option maxHeartbeats 2000000 in
set_option maxRecDepth 100000 in
theorem refSign_yes (x n : Nat) (s : ByteArray) (hs : s.size ≤ 1000000) (hx : secretB (x : Int) = true) (hn : secretB (n : Int) = true) (w : World) :
    Calls Tryd.prog 42 #[.int .i64 (x : Int), .int .i64 (n : Int), .string s] w fun e w' => e = .returned (.tuple #[.int .i64 (chalN (powP 4 n) s.data.toList : Int), .int .i64 (sigN x n s.data.toList : Int)]) ∧ Below w.heap.size w w' := by
  have bx := secretB_of hx
  have bn := secretB_of hn
  have HP := Lib.hid (fun w => refPower_any 4 n (by omega) (by omega) w)
  have HC := Lib.hid (fun w => numberN (powP 4 n) (by have := powP_lt 4 n; omega) s hs w)
  have HM := Lib.hid (fun w => reftimes_any x (chalN (powP 4 n) s.data.toList) 1152921504606845789 (by omega) (by omega) (by omega) (by have := chalN_lt (powP 4 n) s.data.toList; omega) w)
  obtain ⟨p, S, hp, hS, e1, e2, hpl, hSl⟩ := sig_facts x n s.data.toList (by omega)
  rw [← hp] at HM
  rw [← hS]
  have h4 : ((4 : Nat) : Int) = 4 := rfl
  rw [h4] at HP
  have hq : ((1152921504606845789 : Nat) : Int) = 1152921504606845789 := rfl
  rw [hq] at HM
  have bn0 : 0 ≤ (n : Int) := by omega
  have bp0 : 0 ≤ (p : Int) := by omega
  have bnI : (n : Int) < 1152921504606845789 := bn.2
  have bpI : (p : Int) < 1152921504606845789 := by omega
  generalize chalN (powP 4 n) s.data.toList = E at *
  generalize powP 4 n = R at *
  clear bx bn hx hn hp hS hpl hSl h4 hs hq
  generalize (n : Int) = ni at *
  generalize (p : Int) = pi at *
  go_enter Tryd.func42, Tryd.ntmps42
  go_wp2_with fail
  refine (HP.out _).mono ?_
  rintro e w1 ⟨rfl, rfl⟩
  go_wp2_with fail
  refine (HC.out _).mono ?_
  rintro e w2 ⟨rfl, hb⟩
  have HB2 := Lib.hid hb
  clear hb
  go_wp2_with fail
  refine (HM.out _).mono ?_
  rintro e w3 ⟨rfl, rfl⟩
  go_wp2_with fail
  go_ret2
  exact ⟨rfl, HB2.out⟩
end Go.Proofs.YthhaofdnbemogaaDoor
