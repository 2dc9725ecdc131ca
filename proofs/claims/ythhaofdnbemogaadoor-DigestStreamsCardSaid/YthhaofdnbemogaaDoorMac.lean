/-
  digest.Sum, lockOf, lock.mac, Mac.
-/
import Derived.Test.YthhaofdnbemogaaDoorSum
import Derived.Test.YthhaofdnbemogaaDoorMask
set_option linter.unusedVariables false
namespace Go.Proofs.YthhaofdnbemogaaDoor
open Go.RowKit

def zero8 : List Int := List.replicate 8 0
/-- The digest of a message. -/
def shaL (l : List UInt8) : List UInt8 := outL (absorb (absorb zero8 l) (restL l ++ padL l.length))

theorem restL_len (l : List UInt8) : (restL l).length = l.length % 64 := by unfold restL; rw [List.length_drop]; omega
theorem strL_data (l : List UInt8) : (strL l).data.toList = l := rfl
theorem strL_size (l : List UInt8) : (strL l).size = l.length := by show l.toArray.size = _; simp
theorem absorb_len {A : List Int} (hA : A.length = 8) (l : List UInt8) : (absorb A l).length = 8 := absK_len hA l _

set_option maxHeartbeats 2000000 in
theorem sum_any (s : ByteArray) (hs : s.size ≤ 10000000000) (w : World) (ht : TabD w) :
    Calls Tryd.prog 14 #[.string s] w fun e w' => e = .returned (.string (strL (shaL s.data.toList))) ∧ Below w.heap.size w w' := by
  have HT := Lib.hid ht
  have HA := Lib.hid (add_any zero8 ⟨#[]⟩ 0 s rfl (by omega) (by omega) (by omega) (by decide) w ht)
  have e0 : (⟨#[]⟩ : ByteArray).data.toList ++ s.data.toList = s.data.toList := rfl
  rw [e0, Int.zero_add] at HA
  have HS := Lib.hid (fun w ht => hsum_any (absorb zero8 s.data.toList) (strL (restL s.data.toList)) s.size (absorb_len rfl _) (by omega) (by rw [strL_size, restL_len]; simp) w ht)
  have e1 : outL (absorb (absorb zero8 s.data.toList) ((strL (restL s.data.toList)).data.toList ++ padL s.size)) = shaL s.data.toList := by
    unfold shaL; rw [strL_data]; simp
  rw [e1] at HS
  clear ht e0 e1
  go_enter Tryd.func14, Tryd.ntmps14
  go_wp2_with fail
  refine HA.out.mono ?_
  rintro e w1 ⟨rfl, hb1⟩
  have HB1 := Lib.hid hb1
  clear hb1
  go_wp2_with fail
  refine (HS.out _ (HT.out.below HB1.out HT.out.pos)).mono ?_
  rintro e w2 ⟨rfl, hb2⟩
  have HB2 := Lib.hid (HB1.out.trans (hb2.mono HB1.out.size))
  clear hb2
  go_wp2_with fail
  go_ret
  exact ⟨rfl, HB2.out⟩

theorem shaL_len (l : List UInt8) : (shaL l).length = 32 := by
  unfold shaL outL
  rw [outK_len _ 8 (by rw [addL_len (absorb_len (absorb_len rfl _) _) rfl]; omega)]
theorem repeat1 (b : UInt8) (z : Nat) (hz : z ≤ 1000) (w : World) : Calls Tryd.prog 47 #[.string ⟨#[b]⟩, .int .i64 (z : Int)] w fun e w' => e = .returned (.string (strL (List.replicate z b))) ∧ Below w.heap.size w w' := by
  have h : Lib.repeatL (⟨#[b]⟩ : ByteArray).data.toList z = List.replicate z b := by
    clear hz
    induction z with
    | zero => rfl
    | succ z ih => rw [Lib.repeatL, ih]; rfl
  have := Tryd.strings_Repeat ⟨#[b]⟩ z w (by omega) (by show 1 * z ≤ _; omega)
  rw [h] at this
  exact this

/-- A key of 64 bytes. -/
def keyL (k : List UInt8) : List UInt8 := (if 64 < k.length then shaL k else k) ++ List.replicate (64 - (if 64 < k.length then shaL k else k).length) 0
theorem keyL_len (k : List UInt8) : (keyL k).length = 64 := by
  unfold keyL
  have : (if 64 < k.length then shaL k else k).length ≤ 64 := by
    split
    · rw [shaL_len]; omega
    · omega
  rw [List.length_append, List.length_replicate]
  omega
def padK (b : UInt8) (k : List UInt8) : List UInt8 := maskL (keyL k) (List.replicate 64 b)
theorem padK_len (b : UInt8) (k : List UInt8) : (padK b k).length = 64 := by simp [padK, maskL, keyL_len]
def lockV (k : List UInt8) : Array Value := hashV (absorb zero8 (padK 54 k)) ⟨#[]⟩ 64 ++ hashV (absorb zero8 (padK 92 k)) ⟨#[]⟩ 64

theorem add64 (m : ByteArray) (hm : m.size = 64) (w : World) (ht : TabD w) :
    Calls Tryd.prog 12 #[.agg #[.int .u32 0, .int .u32 0, .int .u32 0, .int .u32 0, .int .u32 0, .int .u32 0, .int .u32 0, .int .u32 0, .string ⟨#[]⟩, .int .i64 0], .string m] w fun e w' => e = .returned (.agg (hashV (absorb zero8 m.data.toList) ⟨#[]⟩ 64)) ∧ Below w.heap.size w w' := by
  have h := add_any zero8 ⟨#[]⟩ 0 m rfl (by omega) (by omega) (by omega) (by decide) w ht
  have e0 : (⟨#[]⟩ : ByteArray).data.toList ++ m.data.toList = m.data.toList := rfl
  have e1 : strL (restL m.data.toList) = ⟨#[]⟩ := by
    have : restL m.data.toList = [] := List.eq_nil_of_length_eq_zero (by rw [restL_len]; simp; omega)
    rw [this]; rfl
  rw [e0, e1, Int.zero_add, hm] at h
  exact h

def Zero20 (w : World) (b : Nat) : Prop := ∃ cs : Array Value, cs.size = 20 ∧ w.heap[b]? = some (.cells cs 79 (0, 0))
theorem Zero20.below {w w' : World} {b : Nat} (h : Zero20 w b) (hb : Below (b + 1) w w') : Zero20 w' b := by
  obtain ⟨cs, h1, h2⟩ := h
  exact ⟨cs, h1, (hb.block b (by omega)).trans h2⟩

set_option maxHeartbeats 4000000 in
set_option maxRecDepth 100000 in
theorem lockOf_any (k : ByteArray) (hk : k.size ≤ 1000000000) (w : World) (ht : TabD w) :
    Calls Tryd.prog 56 #[.string k] w fun e w' => e = .returned (.agg (lockV k.data.toList)) ∧ Below w.heap.size w w' := by
  obtain ⟨c, hc⟩ : ∃ c, c = strL (if 64 < k.data.toList.length then shaL k.data.toList else k.data.toList) := ⟨_, rfl⟩
  have hcs : c.size ≤ 64 := by
    rw [hc, strL_size]
    split
    · rw [shaL_len]; omega
    · omega
  obtain ⟨z, hz⟩ : ∃ z : Nat, z = 64 - c.size := ⟨_, rfl⟩
  have hzi : 64 - (c.size : Int) = (z : Int) := by omega
  obtain ⟨p, hp⟩ : ∃ p, p = strL (List.replicate z (0 : UInt8)) := ⟨_, rfl⟩
  have hps : p.size ≤ 64 := by rw [hp, strL_size, List.length_replicate]; omega
  have HREP := Lib.hid (fun w => repeat1 0 z (by omega) w)
  rw [← hp] at HREP
  have hcp : (c ++ p).data.toList = keyL k.data.toList := by
    have : (c ++ p).data.toList = c.data.toList ++ p.data.toList := by simp
    rw [this, hp, strL_data, hz, hc, strL_size, strL_data]; rfl
  have hcpl : (c ++ p).size = 64 := by
    have : (c ++ p).data.toList.length = 64 := by rw [hcp, keyL_len]
    simpa using this
  have HP := Lib.hid hcp
  have HR1 := Lib.hid (fun w => repeat1 54 64 (by omega) w)
  have HR2 := Lib.hid (fun w => repeat1 92 64 (by omega) w)
  have e64 : ((64 : Nat) : Int) = 64 := rfl
  rw [e64] at HR1 HR2
  have HM1 := Lib.hid (fun w => masked_any (c ++ p) (strL (List.replicate 64 54)) (by omega) (by rw [strL_size, List.length_replicate]; omega) w)
  have HM2 := Lib.hid (fun w => masked_any (c ++ p) (strL (List.replicate 64 92)) (by omega) (by rw [strL_size, List.length_replicate]; omega) w)
  rw [hcp, strL_data] at HM1 HM2
  have HA1 := Lib.hid (fun w ht => add64 (strL (padK 54 k.data.toList)) (by rw [strL_size, padK_len]) w ht)
  have HA2 := Lib.hid (fun w ht => add64 (strL (padK 92 k.data.toList)) (by rw [strL_size, padK_len]) w ht)
  rw [strL_data] at HA1 HA2
  have HM1' : Hid (∀ w, Calls Tryd.prog 59 #[.string (c ++ p), .string (strL (List.replicate 64 54))] w fun e w' => e = .returned (.string (strL (padK 54 k.data.toList))) ∧ Below w.heap.size w w') := HM1
  have HM2' : Hid (∀ w, Calls Tryd.prog 59 #[.string (c ++ p), .string (strL (List.replicate 64 92))] w fun e w' => e = .returned (.string (strL (padK 92 k.data.toList))) ∧ Below w.heap.size w w') := HM2
  clear HM1 HM2
  have hlk : lockV k.data.toList = hashV (absorb zero8 (padK 54 k.data.toList)) ⟨#[]⟩ 64 ++ hashV (absorb zero8 (padK 92 k.data.toList)) ⟨#[]⟩ 64 := rfl
  obtain ⟨m1, hm1⟩ : ∃ m, m = strL (padK 54 k.data.toList) := ⟨_, rfl⟩
  obtain ⟨m2, hm2⟩ : ∃ m, m = strL (padK 92 k.data.toList) := ⟨_, rfl⟩
  obtain ⟨r1, hr1⟩ : ∃ m, m = strL (List.replicate 64 (54 : UInt8)) := ⟨_, rfl⟩
  obtain ⟨r2, hr2⟩ : ∃ m, m = strL (List.replicate 64 (92 : UInt8)) := ⟨_, rfl⟩
  rw [← hm1] at HA1 HM1'
  rw [← hm2] at HA2 HM2'
  rw [← hr1] at HR1 HM1'
  rw [← hr2] at HR2 HM2'
  obtain ⟨L, hL⟩ : ∃ L, L = lockV k.data.toList := ⟨_, rfl⟩
  rw [← hL]
  rw [← hL] at hlk
  have hl1 : (absorb zero8 (padK 54 k.data.toList)).length = 8 := absorb_len rfl _
  have hl2 : (absorb zero8 (padK 92 k.data.toList)).length = 8 := absorb_len rfl _
  generalize absorb zero8 (padK 54 k.data.toList) = A1 at *
  generalize absorb zero8 (padK 92 k.data.toList) = A2 at *
  obtain ⟨a1, b1, c1, d1, e1, f1, g1, i1, rfl⟩ := eight hl1
  obtain ⟨a2, b2, c2, d2, e2, f2, g2, i2, rfl⟩ := eight hl2
  have hl20 : L = #[.int .u32 a1, .int .u32 b1, .int .u32 c1, .int .u32 d1, .int .u32 e1, .int .u32 f1, .int .u32 g1, .int .u32 i1, .string ⟨#[]⟩, .int .i64 64, .int .u32 a2, .int .u32 b2, .int .u32 c2, .int .u32 d2, .int .u32 e2, .int .u32 f2, .int .u32 g2, .int .u32 i2, .string ⟨#[]⟩, .int .i64 64] := hlk
  have HL := Lib.hid hl20
  have el : ∀ (a b c d e f g i : Int), (.agg (hashV [a, b, c, d, e, f, g, i] ⟨#[]⟩ 64) : Value) = .agg #[.int .u32 a, .int .u32 b, .int .u32 c, .int .u32 d, .int .u32 e, .int .u32 f, .int .u32 g, .int .u32 i, .string ⟨#[]⟩, .int .i64 64] := fun _ _ _ _ _ _ _ _ => rfl
  rw [el] at HA1 HA2
  have HSUM := Lib.hid (fun w ht => sum_any k (by omega) w ht)
  have HC := Lib.hid hc
  have HT := Lib.hid ht
  clear hc hlk hL hl20 el hcp hcpl hz hp hm1 hm2 hr1 hr2 e64 hl1 hl2 ht
  go_enter Tryd.func56, Tryd.ntmps56
  go_upto_if 5 with (fail)
  go_cut [0] (fun s wr => s = .string c ∧ Zero20 wr w.heap.size ∧ Below w.heap.size w wr)
  case first =>
    by_cases hlong : 64 < k.size
    · have hlongI : (64 : Int) < (k.size : Int) := by omega
      have hcc : Hid (c = strL (shaL k.data.toList)) := Lib.hid (by have := HC.out; rw [if_pos (by simpa using hlong)] at this; exact this)
      rw [← hcc.out] at HSUM
      have hba : Below w.heap.size w (w.alloc (.cells #[.int .u32 0, .int .u32 0, .int .u32 0, .int .u32 0, .int .u32 0, .int .u32 0, .int .u32 0, .int .u32 0, .string ⟨#[]⟩, .int .i64 0, .int .u32 0, .int .u32 0, .int .u32 0, .int .u32 0, .int .u32 0, .int .u32 0, .int .u32 0, .int .u32 0, .string ⟨#[]⟩, .int .i64 0] 79)) := (Below.refl _ _).alloc (Nat.le_refl _) _
      have HBA := Lib.hid hba
      have hza : Zero20 (w.alloc (.cells #[.int .u32 0, .int .u32 0, .int .u32 0, .int .u32 0, .int .u32 0, .int .u32 0, .int .u32 0, .int .u32 0, .string ⟨#[]⟩, .int .i64 0, .int .u32 0, .int .u32 0, .int .u32 0, .int .u32 0, .int .u32 0, .int .u32 0, .int .u32 0, .int .u32 0, .string ⟨#[]⟩, .int .i64 0] 79)) w.heap.size := ⟨_, rfl, heap_alloc_new w _⟩
      have HZA := Lib.hid hza
      clear hba hza
      go_wp2_with fail
      refine (HSUM.out _ (HT.out.below HBA.out HT.out.pos)).mono ?_
      rintro e w1 ⟨rfl, hb1⟩
      have HB1 := Lib.hid hb1
      clear hb1
      go_wp2_with fail
      go_meet
      exact ⟨by rw [hcc.out], HZA.out.below (HB1.out.mono (by simp)), HBA.out.trans (HB1.out.mono (by simp))⟩
    · have hlongI : ¬ ((64 : Int) < (k.size : Int)) := by omega
      have hcc : Hid (c = k) := Lib.hid (by have := HC.out; rw [if_neg (by simpa using hlong)] at this; rw [this]; rfl)
      go_wp2_with fail
      go_meet
      exact ⟨by rw [hcc.out], ⟨_, rfl, heap_alloc_new w _⟩, (Below.refl _ _).alloc (Nat.le_refl _) _⟩
  case rest =>
    obtain ⟨rfl, hz0, hb0⟩ := hcut
    have HZ0 := Lib.hid hz0
    have HB0 := Lib.hid hb0
    clear hz0 hb0
    go_wp2_with fail

    (with_reducible refine (HREP.out _).mono ?_)
    rintro e w1 ⟨rfl, hb⟩
    have HZ1 := Lib.hid (HZ0.out.below (hb.mono (by obtain ⟨cs, _, h⟩ := HZ0.out; have := (Array.getElem?_eq_some_iff.1 h).1; omega)))
    have HB1 := Lib.hid (HB0.out.trans (hb.mono HB0.out.size))
    clear hb
    go_wp2_with fail
    refine (HR1.out _).mono ?_
    rintro e w2 ⟨rfl, hb⟩
    have HZ2 := Lib.hid (HZ1.out.below (hb.mono (by obtain ⟨cs, _, h⟩ := HZ1.out; have := (Array.getElem?_eq_some_iff.1 h).1; omega)))
    have HB2 := Lib.hid (HB1.out.trans (hb.mono HB1.out.size))
    clear hb
    go_wp2_with fail
    refine (HM1'.out _).mono ?_
    rintro e w3 ⟨rfl, hb⟩
    have HZ3 := Lib.hid (HZ2.out.below (hb.mono (by obtain ⟨cs, _, h⟩ := HZ2.out; have := (Array.getElem?_eq_some_iff.1 h).1; omega)))
    have HB3 := Lib.hid (HB2.out.trans (hb.mono HB2.out.size))
    clear hb
    go_wp2_with fail
    refine (HA1.out _ (HT.out.below HB3.out HT.out.pos)).mono ?_
    rintro e w4 ⟨rfl, hb⟩
    have HZ4 := Lib.hid (HZ3.out.below (hb.mono (by obtain ⟨cs, _, h⟩ := HZ3.out; have := (Array.getElem?_eq_some_iff.1 h).1; omega)))
    have HB4 := Lib.hid (HB3.out.trans (hb.mono HB3.out.size))
    clear hb
    go_wp2_with fail
    refine (HR2.out _).mono ?_
    rintro e w5 ⟨rfl, hb⟩
    have HZ5 := Lib.hid (HZ4.out.below (hb.mono (by obtain ⟨cs, _, h⟩ := HZ4.out; have := (Array.getElem?_eq_some_iff.1 h).1; omega)))
    have HB5 := Lib.hid (HB4.out.trans (hb.mono HB4.out.size))
    clear hb
    go_wp2_with fail
    refine (HM2'.out _).mono ?_
    rintro e w6 ⟨rfl, hb⟩
    have HZ6 := Lib.hid (HZ5.out.below (hb.mono (by obtain ⟨cs, _, h⟩ := HZ5.out; have := (Array.getElem?_eq_some_iff.1 h).1; omega)))
    have HB6 := Lib.hid (HB5.out.trans (hb.mono HB5.out.size))
    clear hb
    go_wp2_with fail
    refine (HA2.out _ (HT.out.below HB6.out HT.out.pos)).mono ?_
    rintro e w7 ⟨rfl, hb⟩
    have HZ7 := Lib.hid (HZ6.out.below (hb.mono (by obtain ⟨cs, _, h⟩ := HZ6.out; have := (Array.getElem?_eq_some_iff.1 h).1; omega)))
    have HB7 := Lib.hid (HB6.out.trans (hb.mono HB6.out.size))
    clear hb
    obtain ⟨cs, hcs20, hbk⟩ := HZ7.out
    have HBK := Lib.hid hbk
    have HCS := Lib.hid hcs20
    clear hbk hcs20
    dsimp only
    refine ‹∀ (a : Act) (w : World), wpList _ _ _ _ a w → _› _ _ ?_
    refine wpList_build rfl 79 _ rfl ?b1 ?b2
    case b1 => kernel_rfl
    refine wpList_store_row rfl 79 _ _ rfl w.heap.size #[.int .u32 a1, .int .u32 b1, .int .u32 c1, .int .u32 d1, .int .u32 e1, .int .u32 f1, .int .u32 g1, .int .u32 i1, .string ⟨#[]⟩, .int .i64 64, .int .u32 a2, .int .u32 b2, .int .u32 c2, .int .u32 d2, .int .u32 e2, .int .u32 f2, .int .u32 g2, .int .u32 i2, .string ⟨#[]⟩, .int .i64 64] rfl ?hy 79 cs HBK.out ?z2 ?z3 ?z4 ?_
    case hy => kernel_rfl
    case z2 => kernel_rfl
    case z3 => exact HCS.out
    case z4 => kernel_rfl
    go_wp2_with fail
    refine bodyPost_ret (results_cell_row rfl _ _ w.heap.size 79 #[.int .u32 a1, .int .u32 b1, .int .u32 c1, .int .u32 d1, .int .u32 e1, .int .u32 f1, .int .u32 g1, .int .u32 i1, .string ⟨#[]⟩, .int .i64 64, .int .u32 a2, .int .u32 b2, .int .u32 c2, .int .u32 d2, .int .u32 e2, .int .u32 f2, .int .u32 g2, .int .u32 i2, .string ⟨#[]⟩, .int .i64 64] (0, 0) _ rfl (setRow_heap _ _ _ _ _ _ HBK.out) Tryd.underlying79 rfl ?z1) rfl ⟨by rw [HL.out], ?_⟩
    case z1 => kernel_rfl
    exact below_setRow HB7.out (by omega) _

/-- Hashes that go on. -/
theorem absK_app (A : List Int) (L M : List UInt8) (k : Nat) (h : 64 * k ≤ L.length) : absK A (L ++ M) k = absK A L k := by
  induction k with
  | zero => rfl
  | succ k ih =>
    rw [absK, absK, ih (by omega)]
    congr 1
    unfold blk
    rw [List.drop_append_of_le_length (by omega), List.take_append_of_le_length (by rw [List.length_drop]; omega)]
theorem absK_add (A : List Int) (L : List UInt8) (k j : Nat) : absK A L (k + j) = absK (absK A L k) (L.drop (64 * k)) j := by
  induction j with
  | zero => rfl
  | succ j ih =>
    rw [← Nat.add_assoc, absK, absK, ih]
    congr 1
    unfold blk
    rw [List.drop_drop]
    congr 2
    omega
theorem absorb_app (A : List Int) (L M : List UInt8) : absorb (absorb A L) (restL L ++ M) = absorb A (L ++ M) := by
  have hl := restL_len L
  have e : (L ++ M).drop (64 * (L.length / 64)) = restL L ++ M := by
    unfold restL
    rw [List.drop_append_of_le_length (by omega)]
  unfold absorb
  have h1 : (L ++ M).length / 64 = L.length / 64 + (restL L ++ M).length / 64 := by
    rw [List.length_append, List.length_append, hl]; omega
  rw [h1, absK_add, absK_app A L M _ (by omega), e]
theorem restL_app (L M : List UInt8) : restL (restL L ++ M) = restL (L ++ M) := by
  have hl := restL_len L
  have e : (L ++ M).drop (64 * (L.length / 64)) = restL L ++ M := by
    unfold restL
    rw [List.drop_append_of_le_length (by omega)]
  have h1 : (L ++ M).length / 64 = L.length / 64 + (restL L ++ M).length / 64 := by
    rw [List.length_append, List.length_append, hl]; omega
  rw [restL, ← e, List.drop_drop, restL, h1, e]
  congr 1
  omega
/-- The digest, by any state on the way. -/
theorem sha_state (L M : List UInt8) : outL (absorb (absorb (absorb zero8 L) (restL L ++ M)) (restL (restL L ++ M) ++ padL (L.length + M.length))) = shaL (L ++ M) := by
  have h1 := absorb_app zero8 L M
  have h2 := restL_app L M
  unfold shaL
  rw [h1, h2, List.length_append]

theorem restL_of64 (L : List UInt8) (h : L.length = 64) : restL L = [] := List.eq_nil_of_length_eq_zero (by rw [restL_len]; omega)
theorem sha_inner (K M : List UInt8) (h : K.length = 64) : outL (absorb (absorb (absorb zero8 K) M) (restL M ++ padL (64 + M.length))) = shaL (K ++ M) := by
  have := sha_state K M
  rw [restL_of64 K h, h] at this
  exact this
def macL (k s : List UInt8) : List UInt8 := shaL (padK 92 k ++ shaL (padK 54 k ++ s))

theorem lock_range (a b : Array Value) {w : World} {g : Nat} {T : TypeId} (ha : a.size = 10) (h : w.heap[g]? = some (.cells (a ++ b) T (0, 0))) : w.rangeAt g 0 a.toList ∧ w.rangeAt g 10 b.toList := by
  refine ⟨fun j v hv => ?_, fun j v hv => ?_⟩
  · have hj : j < a.toList.length := (List.getElem?_eq_some_iff.1 hv).1
    rw [Nat.zero_add, cell_of_row w g j _ _ _ h, Array.getElem?_append_left (by simpa using hj)]
    simpa using hv
  · rw [cell_of_row w g (10 + j) _ _ _ h, Array.getElem?_append_right (by omega), ha, show 10 + j - 10 = j by omega]
    simpa using hv

/-- The world is as it was below block h, which holds a key made ready. -/
structure Lock (h : Nat) (V : Array Value) (w w' : World) : Prop where
  below : Below h w w'
  blk : w'.heap[h]? = some (.cells V 79 (0, 0))
theorem Lock.lt {h : Nat} {V : Array Value} {w w' : World} (k : Lock h V w w') : h < w'.heap.size := (Array.getElem?_eq_some_iff.1 k.blk).1
theorem Lock.later {h : Nat} {V : Array Value} {w w' w'' : World} (k : Lock h V w w') (hb : Below w'.heap.size w' w'') : Lock h V w w'' :=
  ⟨k.below.trans (hb.mono (Nat.le_of_lt k.lt)), (hb.block h k.lt).trans k.blk⟩
set_option maxHeartbeats 4000000 in
theorem Lock.cells {h : Nat} {a1 b1 c1 d1 e1 f1 g1 i1 a2 b2 c2 d2 e2 f2 g2 i2 : Int} {w w' : World} (k : Lock h (hashV [a1, b1, c1, d1, e1, f1, g1, i1] ⟨#[]⟩ 64 ++ hashV [a2, b2, c2, d2, e2, f2, g2, i2] ⟨#[]⟩ 64) w w') :
    w'.cell? ⟨h, 0, none⟩ = some (.int .u32 a1) ∧ w'.cell? ⟨h, 1, none⟩ = some (.int .u32 b1) ∧ w'.cell? ⟨h, 2, none⟩ = some (.int .u32 c1) ∧ w'.cell? ⟨h, 3, none⟩ = some (.int .u32 d1) ∧ w'.cell? ⟨h, 4, none⟩ = some (.int .u32 e1) ∧ w'.cell? ⟨h, 5, none⟩ = some (.int .u32 f1) ∧ w'.cell? ⟨h, 6, none⟩ = some (.int .u32 g1) ∧ w'.cell? ⟨h, 7, none⟩ = some (.int .u32 i1) ∧ w'.cell? ⟨h, 8, none⟩ = some (.string ⟨#[]⟩) ∧ w'.cell? ⟨h, 9, none⟩ = some (.int .i64 64) ∧ w'.cell? ⟨h, 10, none⟩ = some (.int .u32 a2) ∧ w'.cell? ⟨h, 11, none⟩ = some (.int .u32 b2) ∧ w'.cell? ⟨h, 12, none⟩ = some (.int .u32 c2) ∧ w'.cell? ⟨h, 13, none⟩ = some (.int .u32 d2) ∧ w'.cell? ⟨h, 14, none⟩ = some (.int .u32 e2) ∧ w'.cell? ⟨h, 15, none⟩ = some (.int .u32 f2) ∧ w'.cell? ⟨h, 16, none⟩ = some (.int .u32 g2) ∧ w'.cell? ⟨h, 17, none⟩ = some (.int .u32 i2) ∧ w'.cell? ⟨h, 18, none⟩ = some (.string ⟨#[]⟩) ∧ w'.cell? ⟨h, 19, none⟩ = some (.int .i64 64) ∧ Lock h (hashV [a1, b1, c1, d1, e1, f1, g1, i1] ⟨#[]⟩ 64 ++ hashV [a2, b2, c2, d2, e2, f2, g2, i2] ⟨#[]⟩ 64) w w' := by
  have hl : hashV [a1, b1, c1, d1, e1, f1, g1, i1] ⟨#[]⟩ 64 ++ hashV [a2, b2, c2, d2, e2, f2, g2, i2] ⟨#[]⟩ 64 = #[.int .u32 a1, .int .u32 b1, .int .u32 c1, .int .u32 d1, .int .u32 e1, .int .u32 f1, .int .u32 g1, .int .u32 i1, .string ⟨#[]⟩, .int .i64 64, .int .u32 a2, .int .u32 b2, .int .u32 c2, .int .u32 d2, .int .u32 e2, .int .u32 f2, .int .u32 g2, .int .u32 i2, .string ⟨#[]⟩, .int .i64 64] := rfl
  have hb := k.blk
  rw [hl] at hb
  have c := fun (j : Nat) => cell_of_row w' h j _ _ _ hb
  exact ⟨(c 0).trans rfl, (c 1).trans rfl, (c 2).trans rfl, (c 3).trans rfl, (c 4).trans rfl, (c 5).trans rfl, (c 6).trans rfl, (c 7).trans rfl, (c 8).trans rfl, (c 9).trans rfl, (c 10).trans rfl, (c 11).trans rfl, (c 12).trans rfl, (c 13).trans rfl, (c 14).trans rfl, (c 15).trans rfl, (c 16).trans rfl, (c 17).trans rfl, (c 18).trans rfl, (c 19).trans rfl, k⟩
theorem Lock.tab {h : Nat} {V : Array Value} {w w' : World} (k : Lock h V w w') (ht : TabD w) (hh : 1 < h) : TabD w' := ht.below k.below hh

set_option maxHeartbeats 4000000 in
set_option maxRecDepth 100000 in
theorem mac_any (k : List UInt8) (s : ByteArray) (hs : s.size ≤ 1000000000) (w : World) (ht : TabD w) :
    Calls Tryd.prog 57 #[.agg (lockV k), .string s] w fun e w' => e = .returned (.string (strL (macL k s.data.toList))) ∧ Below w.heap.size w w' := by
  have HT := Lib.hid ht
  have e0 : ∀ t : ByteArray, (⟨#[]⟩ : ByteArray).data.toList ++ t.data.toList = t.data.toList := fun _ => rfl
  have hl1 : (absorb zero8 (padK 54 k)).length = 8 := absorb_len rfl _
  have hl2 : (absorb zero8 (padK 92 k)).length = 8 := absorb_len rfl _
  have hlk : lockV k = hashV (absorb zero8 (padK 54 k)) ⟨#[]⟩ 64 ++ hashV (absorb zero8 (padK 92 k)) ⟨#[]⟩ 64 := rfl
  obtain ⟨d, hd⟩ : ∃ d, d = strL (shaL (padK 54 k ++ s.data.toList)) := ⟨_, rfl⟩
  have hds : d.size = 32 := by rw [hd, strL_size, shaL_len]
  have hdd : d.data.toList = shaL (padK 54 k ++ s.data.toList) := by rw [hd, strL_data]
  have HA1 := fun w ht => add_any (absorb zero8 (padK 54 k)) ⟨#[]⟩ 64 s hl1 (by omega) (by omega) (by omega) (by decide) w ht
  have HS1 := fun w ht => hsum_any (absorb (absorb zero8 (padK 54 k)) s.data.toList) (strL (restL s.data.toList)) (64 + s.size) (absorb_len hl1 _) (by omega) (by rw [strL_size, restL_len]; simp) w ht
  have HA2 := fun w ht => add_any (absorb zero8 (padK 92 k)) ⟨#[]⟩ 64 d hl2 (by omega) (by omega) (by omega) (by decide) w ht
  have HS2 := fun w ht => hsum_any (absorb (absorb zero8 (padK 92 k)) d.data.toList) (strL (restL d.data.toList)) (64 + d.size) (absorb_len hl2 _) (by omega) (by rw [strL_size, restL_len]; simp) w ht
  have r1 : strL (outL (absorb (absorb (absorb zero8 (padK 54 k)) s.data.toList) ((strL (restL s.data.toList)).data.toList ++ padL (64 + s.size)))) = d := by
    rw [hd, strL_data, ← sha_inner _ _ (padK_len 54 k)]; simp
  have r2 : strL (outL (absorb (absorb (absorb zero8 (padK 92 k)) d.data.toList) ((strL (restL d.data.toList)).data.toList ++ padL (64 + d.size)))) = strL (macL k s.data.toList) := by
    rw [strL_data, macL, ← hdd, ← sha_inner _ _ (padK_len 92 k)]; simp
  have c1 : ((64 + s.size : Nat) : Int) = 64 + (s.size : Int) := by omega
  have c2 : ((64 + d.size : Nat) : Int) = 64 + (d.size : Int) := by omega
  rw [e0] at HA1 HA2
  rw [r1, c1] at HS1
  rw [r2, c2] at HS2
  obtain ⟨B1, hB1⟩ : ∃ B, B = absorb (absorb zero8 (padK 54 k)) s.data.toList := ⟨_, rfl⟩
  obtain ⟨B2, hB2⟩ : ∃ B, B = absorb (absorb zero8 (padK 92 k)) d.data.toList := ⟨_, rfl⟩
  obtain ⟨R1, hR1⟩ : ∃ B, B = strL (restL s.data.toList) := ⟨_, rfl⟩
  obtain ⟨R2, hR2⟩ : ∃ B, B = strL (restL d.data.toList) := ⟨_, rfl⟩
  obtain ⟨M, hM⟩ : ∃ B, B = strL (macL k s.data.toList) := ⟨_, rfl⟩
  rw [← hB1, ← hR1] at HA1 HS1
  rw [← hB2, ← hR2] at HA2 HS2
  rw [← hM] at HS2
  rw [← hM, hlk]
  obtain ⟨n1, hn1⟩ : ∃ n : Int, n = 64 + (s.size : Int) := ⟨_, rfl⟩
  obtain ⟨n2, hn2⟩ : ∃ n : Int, n = 64 + (d.size : Int) := ⟨_, rfl⟩
  rw [← hn1] at HA1 HS1
  rw [← hn2] at HA2 HS2
  clear hlk r1 r2 c1 c2 hB1 hB2 hR1 hR2 hM hn1 hn2 hd hdd hds e0
  generalize absorb zero8 (padK 54 k) = A1 at *
  generalize absorb zero8 (padK 92 k) = A2 at *
  obtain ⟨a1, b1, c1, d1, e1, f1, g1, i1, rfl⟩ := eight hl1
  obtain ⟨a2, b2, c2, d2, e2, f2, g2, i2, rfl⟩ := eight hl2
  have HA1' : Hid (∀ w, TabD w → Calls Tryd.prog 12 #[.agg #[.int .u32 a1, .int .u32 b1, .int .u32 c1, .int .u32 d1, .int .u32 e1, .int .u32 f1, .int .u32 g1, .int .u32 i1, .string ⟨#[]⟩, .int .i64 64], .string s] w fun e w' => e = .returned (.agg (hashV B1 R1 n1)) ∧ Below w.heap.size w w') := HA1
  have HA2' : Hid (∀ w, TabD w → Calls Tryd.prog 12 #[.agg #[.int .u32 a2, .int .u32 b2, .int .u32 c2, .int .u32 d2, .int .u32 e2, .int .u32 f2, .int .u32 g2, .int .u32 i2, .string ⟨#[]⟩, .int .i64 64], .string d] w fun e w' => e = .returned (.agg (hashV B2 R2 n2)) ∧ Below w.heap.size w w') := HA2
  have HS1' := Lib.hid HS1
  have HS2' := Lib.hid HS2
  have HK0 : Hid (Lock w.heap.size (hashV [a1, b1, c1, d1, e1, f1, g1, i1] ⟨#[]⟩ 64 ++ hashV [a2, b2, c2, d2, e2, f2, g2, i2] ⟨#[]⟩ 64) w (w.alloc (.cells (hashV [a1, b1, c1, d1, e1, f1, g1, i1] ⟨#[]⟩ 64 ++ hashV [a2, b2, c2, d2, e2, f2, g2, i2] ⟨#[]⟩ 64) 79)).drew) := Lib.hid ⟨((Below.refl _ _).alloc (Nat.le_refl _) _).drew, heap_alloc_new w _⟩
  clear HA1 HA2 HS1 HS2 ht hl1 hl2
  go_enter Tryd.func57, Tryd.ntmps57
  go_wp2_with fail
  go_region_held3 (fun w' => w'.cell? ⟨w.heap.size, 0, none⟩ = some (.int .u32 a1) ∧ w'.cell? ⟨w.heap.size, 1, none⟩ = some (.int .u32 b1) ∧ w'.cell? ⟨w.heap.size, 2, none⟩ = some (.int .u32 c1) ∧ w'.cell? ⟨w.heap.size, 3, none⟩ = some (.int .u32 d1) ∧ w'.cell? ⟨w.heap.size, 4, none⟩ = some (.int .u32 e1) ∧ w'.cell? ⟨w.heap.size, 5, none⟩ = some (.int .u32 f1) ∧ w'.cell? ⟨w.heap.size, 6, none⟩ = some (.int .u32 g1) ∧ w'.cell? ⟨w.heap.size, 7, none⟩ = some (.int .u32 i1) ∧ w'.cell? ⟨w.heap.size, 8, none⟩ = some (.string ⟨#[]⟩) ∧ w'.cell? ⟨w.heap.size, 9, none⟩ = some (.int .i64 64) ∧ w'.cell? ⟨w.heap.size, 10, none⟩ = some (.int .u32 a2) ∧ w'.cell? ⟨w.heap.size, 11, none⟩ = some (.int .u32 b2) ∧ w'.cell? ⟨w.heap.size, 12, none⟩ = some (.int .u32 c2) ∧ w'.cell? ⟨w.heap.size, 13, none⟩ = some (.int .u32 d2) ∧ w'.cell? ⟨w.heap.size, 14, none⟩ = some (.int .u32 e2) ∧ w'.cell? ⟨w.heap.size, 15, none⟩ = some (.int .u32 f2) ∧ w'.cell? ⟨w.heap.size, 16, none⟩ = some (.int .u32 g2) ∧ w'.cell? ⟨w.heap.size, 17, none⟩ = some (.int .u32 i2) ∧ w'.cell? ⟨w.heap.size, 18, none⟩ = some (.string ⟨#[]⟩) ∧ w'.cell? ⟨w.heap.size, 19, none⟩ = some (.int .i64 64) ∧ Lock w.heap.size (hashV [a1, b1, c1, d1, e1, f1, g1, i1] ⟨#[]⟩ 64 ++ hashV [a2, b2, c2, d2, e2, f2, g2, i2] ⟨#[]⟩ 64) w w')
    (first
      | exact HK0.out.cells
      | (go_split_ands; exact (Lock.later (by assumption) hb3).cells)
      | go_keep)
    (first
      | (go_at_call 12; go_split_ands; ((with_reducible refine (HA1'.out _ ?_).mono ?_); refine Lock.tab (h := w.heap.size) (V := hashV [a1, b1, c1, d1, e1, f1, g1, i1] ⟨#[]⟩ 64 ++ hashV [a2, b2, c2, d2, e2, f2, g2, i2] ⟨#[]⟩ 64) (w := w) ?_ HT.out HT.out.pos; assumption; rintro e w3 ⟨rfl, hb3⟩))
      | (go_at_call 13; go_split_ands; ((with_reducible refine (HS1'.out _ ?_).mono ?_); refine Lock.tab (h := w.heap.size) (V := hashV [a1, b1, c1, d1, e1, f1, g1, i1] ⟨#[]⟩ 64 ++ hashV [a2, b2, c2, d2, e2, f2, g2, i2] ⟨#[]⟩ 64) (w := w) ?_ HT.out HT.out.pos; assumption; rintro e w3 ⟨rfl, hb3⟩))
      | (go_at_call 12; go_split_ands; ((with_reducible refine (HA2'.out _ ?_).mono ?_); refine Lock.tab (h := w.heap.size) (V := hashV [a1, b1, c1, d1, e1, f1, g1, i1] ⟨#[]⟩ 64 ++ hashV [a2, b2, c2, d2, e2, f2, g2, i2] ⟨#[]⟩ 64) (w := w) ?_ HT.out HT.out.pos; assumption; rintro e w3 ⟨rfl, hb3⟩))
      | (go_at_call 13; go_split_ands; ((with_reducible refine (HS2'.out _ ?_).mono ?_); refine Lock.tab (h := w.heap.size) (V := hashV [a1, b1, c1, d1, e1, f1, g1, i1] ⟨#[]⟩ 64 ++ hashV [a2, b2, c2, d2, e2, f2, g2, i2] ⟨#[]⟩ 64) (w := w) ?_ HT.out HT.out.pos; assumption; rintro e w3 ⟨rfl, hb3⟩)))
  all_goals
    go_wp2
    go_ret
    go_split_ands
    refine ⟨rfl, Lock.below (V := hashV [a1, b1, c1, d1, e1, f1, g1, i1] ⟨#[]⟩ 64 ++ hashV [a2, b2, c2, d2, e2, f2, g2, i2] ⟨#[]⟩ 64) ?_⟩
    assumption

set_option maxHeartbeats 1000000 in
theorem Mac_any (k s : ByteArray) (hk : k.size ≤ 1000000000) (hs : s.size ≤ 1000000000) (w : World) (ht : TabD w) :
    Calls Tryd.prog 21 #[.string k, .string s] w fun e w' => e = .returned (.string (strL (macL k.data.toList s.data.toList))) ∧ Below w.heap.size w w' := by
  have HL := Lib.hid (lockOf_any k hk w ht)
  have HM := Lib.hid (fun w ht => mac_any k.data.toList s hs w ht)
  have HT := Lib.hid ht
  clear ht
  go_enter Tryd.func21, Tryd.ntmps21
  go_wp2_with fail
  refine HL.out.mono ?_
  rintro e w1 ⟨rfl, hb1⟩
  have HB1 := Lib.hid hb1
  clear hb1
  go_wp2_with fail
  refine (HM.out _ (HT.out.below HB1.out HT.out.pos)).mono ?_
  rintro e w2 ⟨rfl, hb2⟩
  have HB2 := Lib.hid (HB1.out.trans (hb2.mono HB1.out.size))
  clear hb2
  go_wp2_with fail
  go_ret
  exact ⟨rfl, HB2.out⟩
end Go.Proofs.YthhaofdnbemogaaDoor
