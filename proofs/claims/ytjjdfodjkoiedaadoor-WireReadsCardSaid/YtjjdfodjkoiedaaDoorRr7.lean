/-
  The reference's readers: ReadBits. Written by gen_rr7.py.
-/
import Derived.Test.YtjjdfodjkoiedaaDoorRr6
import Derived.Test.YtjjdfodjkoiedaaDoorRBits
import Derived.RegionTactic
import Derived.Maps.AppendAt
set_option linter.unusedVariables false
namespace Go.Proofs.YtjjdfodjkoiedaaDoor
open Go.RowKit

def bls (l : List Bool) : List Value := l.map Value.bool
theorem bls_len (l : List Bool) : (bls l).length = l.length := by simp [bls]
theorem own_bools {w : World} {B : Nat} {v : Value} {l : List Bool} (h : w.ownsRow B 4 1 v l.length (bls l)) : BoolsAt (fun b => B ≤ b) w v l := by
  have hrow := h
  rcases h with ⟨hl, ⟨hv, h0⟩ | ⟨g, cap, cur, hv, hg, hc, r⟩⟩
  · obtain rfl : l = [] := List.eq_nil_of_length_eq_zero h0
    exact ⟨none, 0, hv, .inl rfl⟩
  · refine ⟨_, cap, hv, .inr ⟨g, 0, rfl, hg, lt_of_block hc, fun j hj => ?_⟩⟩
    have := hrow.cells (g := g) (by rw [hv]; rfl) j (.bool l[j]) (by simp [bls, hj])
    rw [add_none] at this
    exact this

set_option maxRecDepth 100000 in
theorem bit_eq (c r : Nat) (hc : c < 256) (hr : r < 8) : (bits .and .u8 ((c : Int) / 2 ^ (7 - r)) 1 == 1) = bitB c r := by
  have key : ∀ r : Fin 8, ∀ c : Fin 256, (bits .and .u8 ((c.val : Int) / 2 ^ (7 - r.val)) 1 == 1) = bitB c.val r.val := by decide +kernel
  exact key ⟨r, hr⟩ ⟨c, hc⟩

/-- The bits of a text from its first on. -/
def bitAt (s : ByteArray) (k : Nat) : Bool := bitB (bt s (k / 8)) (k % 8)
def bitsTo (s : ByteArray) (n : Nat) : List Bool := (List.range n).map (bitAt s)
theorem bitsTo_len (s : ByteArray) (n : Nat) : (bitsTo s n).length = n := by simp [bitsTo]
theorem bitsTo_succ (s : ByteArray) (n : Nat) : bitsTo s (n + 1) = bitsTo s n ++ [bitAt s n] := by simp [bitsTo, List.range_succ]

def BRel (X : World) (s : ByteArray) (v p : Nat) (l i : Value) (wr : World) : Prop :=
  ∃ k : Nat, k ≤ 8 * p ∧ i = .int .i64 k ∧ wr.ownsRow X.heap.size 4 1 l (min k v) (bls (bitsTo s (min k v))) ∧ (∀ t, v ≤ t → t < k → bitAt s t = false) ∧ Below X.heap.size X wr
/-- The answer: the bits, or the error of a bit behind them. -/
def BPostR (w : World) (S s : ByteArray) (i0 j v p : Nat) (en : Ending) (w' : World) : Prop :=
  ((∀ t, v ≤ t → t < 8 * p → bitAt s t = false) ∧ ∃ a ll lc, en = .returned (.tuple #[.slice a ll lc, .agg #[.string S, .int .i64 ((j : Int) + (p : Int)), .int .i64 0]]) ∧ Below w.heap.size w w' ∧ BoolsAt (fun b => w.heap.size ≤ b) w' (.slice a ll lc) (bitsTo s v)) ∨
  ((∃ t, v ≤ t ∧ t < 8 * p ∧ bitAt s t = true) ∧ en = .returned (.tuple #[.slice none 0 0, .agg #[.string S, .int .i64 (i0 : Int), .int .i64 2]]) ∧ Below w.heap.size w w')
theorem end_box {w2 wr : World} {S : ByteArray} {n e : Int} (hb : Below (w2.alloc (.cells #[.string S, .int .i64 n, .int .i64 e] 40)).heap.size (w2.alloc (.cells #[.string S, .int .i64 n, .int .i64 e] 40)) wr) : Par3 wr w2.heap.size S n e := by
  have h1 : wr.heap[w2.heap.size]? = some (.cells #[.string S, .int .i64 n, .int .i64 e] 40 (0, 0)) := by
    rw [hb.block _ (by simp)]
    exact heap_alloc_new w2 _
  unfold Par3
  simp [World.cell?, h1]
theorem infoBool' : (Tryd.prog.info? 4).map (fun i => (i.zero, i.size, i.bytes)) = some (some (.bool false), 1, 1) := by kernel_rfl
theorem news_b (W : World) (b : Bool) (T : TypeId) : ∀ j u, [Value.bool b][j]? = some u → (W.alloc (.cells #[.bool b] T)).cell? ((⟨W.heap.size, 0, none⟩ : Addr).add j) = some u := news_one W (.bool b) T
theorem one_b (b : Bool) : ∀ u ∈ [Value.bool b], u.oneCell' = true := by
  intro u hu; simp at hu; subst hu; rfl


set_option maxHeartbeats 4000000 in
set_option maxRecDepth 100000 in
theorem bitr_err (S : ByteArray) (i0 j : Nat) (e x most m : Int) (v p : Nat) (w : World) (hS : S.size ≤ 1000000000) (hm : (most ≤ 65536 ∧ m = most) ∨ (65536 < most ∧ m = 65536)) (hv : v ≤ 65536) (hp : p = (v + 7) / 8)
    (hn : ∀ w, Calls Tryd.prog 53 #[rdr S i0 e, .int .i64 m] w fun en w' => en = .returned (.tuple #[.int .i64 (v : Int), rdr S j x]) ∧ Below w.heap.size w w') (hx : x ≠ 0) :
    Calls Tryd.prog 52 #[rdr S i0 e, .int .i64 most] w fun en w' => en = .returned (.tuple #[.slice none 0 0, rdr S j x]) ∧ Below w.heap.size w w' := by
  unfold rdr at *
  have hq : (x != 0) = true := by rw [bne_iff_ne]; exact hx
  clear hx
  have HN := Lib.hid hn
  have HP := Lib.hid hp
  clear hn hp
  rcases hm with ⟨hm, rfl⟩ | ⟨hm, rfl⟩
  all_goals
    go_enter Tryd.func52, Tryd.ntmps52
    go_wp2_with fail
    refine (HN.out _).mono ?_
    rintro en w1 ⟨rfl, hb⟩
    obtain ⟨⟨p0, p1, p2⟩, ⟨⟨a0, a1, a2⟩, ⟨g0, g1, g2⟩⟩, hlt, hbel⟩ := w0_facts (S := S) (i := i0) (e := e) hb
    obtain ⟨z0, z1, z2⟩ := res_alloc (.cells #[.string S, .int .i64 (j : Int), .int .i64 x] 40) (.string S) (.int .i64 (j : Int)) (.int .i64 x) (h := (w0_facts (S := S) (i := i0) (e := e) hb).2.1)
    have hlt0 : w.heap.size < w1.heap.size := by omega
    have HB := Lib.hid hb
    have HBEL := Lib.hid hbel
    clear hbel hb
    go_wp2_with fail
    go_region
    all_goals
      go_wp2
      refine bodyPost_ret (v := .tuple #[.slice none 0 0, .agg #[.string S, .int .i64 (j : Int), .int .i64 x]]) (by simp [results, Tryd.results52, go_sem, z0, z1, z2]) rfl ?_
      exact ⟨rfl, (below_al (three_cells HBEL.out _ (by omega) _ _ _)).drew⟩


set_option maxHeartbeats 4000000 in
set_option maxRecDepth 100000 in
theorem bitr_short (S : ByteArray) (i0 j : Nat) (e x most m : Int) (v p : Nat) (w : World) (hS : S.size ≤ 1000000000) (hm : (most ≤ 65536 ∧ m = most) ∨ (65536 < most ∧ m = 65536)) (hv : v ≤ 65536) (hp : p = (v + 7) / 8)
    (hn : ∀ w, Calls Tryd.prog 53 #[rdr S i0 e, .int .i64 m] w fun en w' => en = .returned (.tuple #[.int .i64 (v : Int), rdr S j x]) ∧ Below w.heap.size w w') (hx : x = 0) (hj : j ≤ S.size) (h : (S.size : Int) - (j : Int) < (p : Int)) :
    Calls Tryd.prog 52 #[rdr S i0 e, .int .i64 most] w fun en w' => en = .returned (.tuple #[.slice none 0 0, rdr S i0 16]) ∧ Below w.heap.size w w' := by
  subst hx
  have hvI : (v : Int) ≤ 65536 := by omega
  have hpd : ((v : Int) + 7) / 8 = (p : Int) := by omega
  have hpd2 : ((v : Int) + 7).tdiv 8 = (p : Int) := by rw [Int.tdiv_eq_ediv_of_nonneg (by omega)]; omega
  have htk := fun w => take_no S j 0 (p : Int) hS hj h w
  have hst := fun w => stop_any S i0 e 16 w
  unfold rdr at *
  have HTK := Lib.hid htk
  have HST := Lib.hid hst
  clear htk hst h hj
  have HN := Lib.hid hn
  have HP := Lib.hid hp
  clear hn hp
  rcases hm with ⟨hm, rfl⟩ | ⟨hm, rfl⟩
  all_goals
    go_enter Tryd.func52, Tryd.ntmps52
    go_wp2_with fail
    refine (HN.out _).mono ?_
    rintro en w1 ⟨rfl, hb⟩
    obtain ⟨⟨p0, p1, p2⟩, ⟨⟨a0, a1, a2⟩, ⟨g0, g1, g2⟩⟩, hlt, hbel⟩ := w0_facts (S := S) (i := i0) (e := e) hb
    obtain ⟨z0, z1, z2⟩ := res_alloc (.cells #[.string S, .int .i64 (j : Int), .int .i64 0] 40) (.string S) (.int .i64 (j : Int)) (.int .i64 0) (h := (w0_facts (S := S) (i := i0) (e := e) hb).2.1)
    have hlt0 : w.heap.size < w1.heap.size := by omega
    have HB := Lib.hid hb
    have HBEL := Lib.hid hbel
    clear hbel hb
    go_wp2_with fail
    refine (HTK.out _).mono ?_
    rintro en w2 ⟨rfl, hb⟩
    have hb2 := w0_chain HB.out hb
    obtain ⟨⟨q0, q1, q2⟩, ⟨⟨b0, b1, b2⟩, ⟨f0, f1, f2⟩⟩, hlt2, hbel2⟩ := w0_facts (S := S) (i := i0) (e := e) hb2
    have hlt20 : w.heap.size < w2.heap.size := by omega
    have HB2 := Lib.hid hb2
    have HBEL2 := Lib.hid hbel2
    clear hb hb2 hbel2 a0 a1 a2 g0 g1 g2 p0 p1 p2 z0 z1 z2
    go_wp2_with fail
    refine (HST.out _).mono ?_
    rintro en w3 ⟨rfl, hb⟩
    have hb3 := w0_chain HB2.out hb
    obtain ⟨_, ⟨⟨c0, c1, c2⟩, ⟨k0, k1, k2⟩⟩, hlt3, hbel3⟩ := w0_facts (S := S) (i := i0) (e := e) hb3
    have HB3 := Lib.hid hbel3
    clear hb hb3 hbel3 b0 b1 b2 f0 f1 f2 q0 q1 q2
    go_wp2
    refine bodyPost_ret (v := .tuple #[.slice none 0 0, .agg #[.string S, .int .i64 (i0 : Int), .int .i64 16]]) (by simp [results, Tryd.results52, go_sem, c0, c1, c2]) rfl ?_
    exact ⟨rfl, three_cells HB3.out _ (by omega) _ _ _⟩


set_option maxHeartbeats 4000000 in
set_option maxRecDepth 100000 in
theorem bitr_ok (S : ByteArray) (i0 j : Nat) (e x most m : Int) (v p : Nat) (w : World) (hS : S.size ≤ 1000000000) (hm : (most ≤ 65536 ∧ m = most) ∨ (65536 < most ∧ m = 65536)) (hv : v ≤ 65536) (hp : p = (v + 7) / 8)
    (hn : ∀ w, Calls Tryd.prog 53 #[rdr S i0 e, .int .i64 m] w fun en w' => en = .returned (.tuple #[.int .i64 (v : Int), rdr S j x]) ∧ Below w.heap.size w w') (hx : x = 0) (h : j + p ≤ S.size) :
    Calls Tryd.prog 52 #[rdr S i0 e, .int .i64 most] w fun en w' => BPostR w S (S.extract j (j + p)) i0 j v p en w' := by
  have hst := fun w => stop_any S i0 e 2 w
  obtain ⟨i1, hi1, hz0, hz1, hz2⟩ := info_parts infoBool'
  subst hx
  have hvI : (v : Int) ≤ 65536 := by omega
  have hpd : ((v : Int) + 7) / 8 = (p : Int) := by omega
  have hpd2 : ((v : Int) + 7).tdiv 8 = (p : Int) := by rw [Int.tdiv_eq_ediv_of_nonneg (by omega)]; omega
  have htk := fun w => take_ok S j p 0 hS h w
  have HJP := Lib.hid h
  unfold rdr at *
  have HTK := Lib.hid htk
  have HST := Lib.hid hst
  clear htk h hst
  have HN := Lib.hid hn
  have HP := Lib.hid hp
  clear hn hp
  rcases hm with ⟨hm, rfl⟩ | ⟨hm, rfl⟩
  all_goals
    go_enter Tryd.func52, Tryd.ntmps52
    go_wp2_with fail
    refine (HN.out _).mono ?_
    rintro en w1 ⟨rfl, hb⟩
    obtain ⟨⟨p0, p1, p2⟩, ⟨⟨a0, a1, a2⟩, ⟨g0, g1, g2⟩⟩, hlt, hbel⟩ := w0_facts (S := S) (i := i0) (e := e) hb
    obtain ⟨z0, z1, z2⟩ := res_alloc (.cells #[.string S, .int .i64 (j : Int), .int .i64 0] 40) (.string S) (.int .i64 (j : Int)) (.int .i64 0) (h := (w0_facts (S := S) (i := i0) (e := e) hb).2.1)
    have hlt0 : w.heap.size < w1.heap.size := by omega
    have HB := Lib.hid hb
    have HBEL := Lib.hid hbel
    clear hbel hb
    go_wp2_with fail
    refine (HTK.out _).mono ?_
    rintro en w2 ⟨rfl, hb⟩
    have hb2 := w0_chain HB.out hb
    obtain ⟨⟨q0, q1, q2⟩, ⟨⟨b0, b1, b2⟩, ⟨f0, f1, f2⟩⟩, hlt2, hbel2⟩ := w0_facts (S := S) (i := i0) (e := e) hb2
    have hlt20 : w.heap.size < w2.heap.size := by omega
    have HB2 := Lib.hid hb2
    have HBEL2 := Lib.hid hbel2
    clear hb hb2 hbel2 a0 a1 a2 g0 g1 g2 p0 p1 p2 z0 z1 z2
    have HS2 : Hid ((S.extract j (j + p)).size = p) := ext_size S j p (by have := HJP.out; omega)
    generalize hse : S.extract j (j + p) = s at *
    have HSE := Lib.hid hse
    clear hse
    obtain ⟨X, hX⟩ : ∃ X, X = w2.alloc (.cells #[.string S, .int .i64 ((j : Int) + (p : Int)), .int .i64 0] 40) := ⟨_, rfl⟩
    have hXs : X.heap.size = w2.heap.size + 1 := by rw [hX]; simp
    have HXS := Lib.hid hXs
    have HXE := Lib.hid hX
    have HBT := Lib.hid (fun k h => bt_in s k h)
    have hvp : v ≤ 8 * p := by have := HP.out; omega
    have HVP := Lib.hid hvp
    clear hX hXs hvp b0 b1 b2 f0 f1 f2 q0 q1 q2
    go_wp2
    rw [← HXE.out]
    go_loopw [10, 11] (fun l i wr => BRel X s v p l i wr) (fun _ i _ => 8 * p - (intOf i).toNat)
    case atStart =>
      refine ⟨0, Nat.zero_le _, rfl, ?_, fun t h1 h2 => absurd h2 (Nat.not_lt_zero _), below_al (Below.refl _ _)⟩
      rw [← HXS.out, Nat.zero_min]
      exact World.ownsRow_made X #[] 0 (Nat.le_refl _) (by decide) rfl
    case round =>
      obtain ⟨k, hk, rfl, hown, hno, hbw⟩ := hrel
      have HNO := Lib.hid hno
      have HBW := Lib.hid hbw
      have hbw2 := hbw
      rw [HXE.out] at hbw2
      obtain ⟨⟨q0, q1, q2⟩, ⟨⟨b0, b1, b2⟩, ⟨f0, f1, f2⟩⟩, hlt2, hbel2⟩ := w0_facts (S := S) (i := i0) (e := e) (w0_chain HB2.out hbw2)
      have HBR := Lib.hid hbel2
      have HCH := Lib.hid (w0_chain HB2.out hbw2)
      clear hno hbel2
      by_cases hlt : k < 8 * p
      · obtain ⟨q, hq⟩ : ∃ q : Nat, q = k / 8 := ⟨_, rfl⟩
        have hqp : q < p := by omega
        have hkI : (k : Int) < 8 * (p : Int) := by omega
        have hdv : (k : Int) / 8 = (q : Int) := by omega
        have hdv2 : (k : Int).tdiv 8 = (q : Int) := by rw [Int.tdiv_eq_ediv_of_nonneg (by omega)]; omega
        have hq0 : (0 : Int) ≤ (q : Int) := by omega
        have hs2 := HS2.out
        have hqI : (q : Int) < (p : Int) := by omega
        have hqs : q < s.size := by omega
        have hbit : (bits .and .u8 ((s[q].toNat : Int) / 2 ^ (7 - k % 8)) 1 == 1) = bitAt s k := by
          have hb := HBT.out q hqs
          have := s[q].toNat_lt
          unfold bitAt
          rw [← hq, hb]
          exact bit_eq _ _ (by omega) (by omega)
        have HQ := Lib.hid hq
        clear hq hbw hbw2
        by_cases hkv : k < v
        · have hkvI : (k : Int) < (v : Int) := by omega
          have hmin : min k v = k := by omega
          rw [hmin] at hown
          have hlk : (bls (bitsTo s k)).length = k := by rw [bls_len, bitsTo_len]
          have hen : Hid (bls (bitsTo s (k + 1)) = bls (bitsTo s k) ++ [.bool (bitAt s k)]) := by show _ = _; rw [bitsTo_succ]; simp [bls]
          have hba := HBW.out.size
          have hXl := HXS.out
          go_wp2_with (at_builtin; refine wpList_append_own _ rfl _ _ 29 rfl X.heap.size 4 i1 (.bool false) 1 1 Tryd.underlying29 hi1 hz0 hz1 hz2 rfl (by decide) _ _ _ rfl (hown.alloc _) ⟨wr.heap.size, 0, none⟩ 1 1 [.bool (bitAt s k)] rfl rfl ?c1 ?c2 ?c3 ?c4 ?c5 ?_)
          case c1 => exact news_b _ _ _
          case c2 => exact one_b _
          case c3 => unfold maxLen; omega
          case c4 => omega
          case c5 => simp; omega
          intro v' w4 hown' hgrow _
          have HO := Lib.hid hown'
          have HG4 := Lib.hid (((HBW.out.alloc hba _).grown hgrow (by simp; omega) (fun g hg => (hown.lt g hg).1)))
          clear hown' hgrow hown hlk hba b0 b1 b2 f0 f1 f2 q0 q1 q2
          go_wp2
          go_roundw
          case rel => exact ⟨k + 1, by omega, by go_num, by rw [show min (k + 1) v = k + 1 by omega, hen.out, HXS.out]; exact HO.out, fun t h1 h2 => by omega, HG4.out⟩
          case measure => simp [intOf]; omega
        · have hkvI : ¬ (k : Int) < (v : Int) := by omega
          have hmin : min k v = v := by omega
          rw [hmin] at hown
          have HOWN := Lib.hid hown
          clear hown
          cases hbb : bitAt s k
          · rw [hbb] at hbit
            have HBB := Lib.hid hbb
            clear hbb
            go_wp2
            go_roundw
            case rel =>
              refine ⟨k + 1, by omega, by go_num, by rw [show min (k + 1) v = v by omega]; exact HOWN.out, fun t h1 h2 => ?_, HBW.out⟩
              by_cases e : t = k
              · rw [e]; exact HBB.out
              · exact HNO.out t h1 (by omega)
            case measure => simp [intOf]; omega
          · rw [hbb] at hbit
            have HBB := Lib.hid hbb
            clear hbb
            go_wp2_with fail
            refine (HST.out _).mono ?_
            rintro en w5 ⟨rfl, hb5⟩
            have hb6 := w0_chain2 HCH.out hb5
            obtain ⟨_, ⟨⟨c0, c1, c2⟩, ⟨k0, k1, k2⟩⟩, hlt5, hbel5⟩ := w0_facts (S := S) (i := i0) (e := e) hb6
            have HB5 := Lib.hid hbel5
            clear hb5 hb6 hbel5 b0 b1 b2 f0 f1 f2 q0 q1 q2
            go_wp2
            refine bodyPost_ret (v := .tuple #[.slice none 0 0, .agg #[.string S, .int .i64 (i0 : Int), .int .i64 2]]) (by simp [results, Tryd.results52, go_sem, c0, c1, c2]) rfl ?_
            rw [HSE.out]
            exact .inr ⟨⟨k, by omega, hlt, HBB.out⟩, rfl, three_cells HB5.out _ (by omega) _ _ _⟩
      · obtain rfl : k = 8 * p := by omega
        have hmin : min (8 * p) v = v := by have := HVP.out; omega
        rw [hmin] at hown
        obtain ⟨e0, e1, e2⟩ := end_box hbw2
        have hfin := own_bools (l := bitsTo s v) (by rw [bitsTo_len]; exact hown)
        have hs2 := HS2.out
        have HFIN := Lib.hid (hfin.mono (Q := fun b => w.heap.size + 1 + 1 ≤ b) fun b hb => by have : X.heap.size ≤ b := hb; have := HXS.out; omega)
        obtain ⟨a9, l9, rfl, _⟩ := hfin
        clear hown hbw hbw2
        go_wp2_with fail
        go_region
        all_goals
          go_wp2
          refine bodyPost_ret (v := .tuple #[.slice a9 (bitsTo s v).length l9, .agg #[.string S, .int .i64 ((j : Int) + (p : Int)), .int .i64 0]]) (by simp [results, Tryd.results52, go_sem, b0, b1, b2]) rfl ?_
          rw [HSE.out]
          refine .inl ⟨HNO.out, a9, _, l9, rfl, (three_cells HBR.out _ (by omega) _ _ _).drew, ?_⟩
          exact (((HFIN.out.far (p := ⟨w.heap.size + 1, 0, none⟩) (fun b hb => by show b ≠ w.heap.size + 1; have : w.heap.size + 1 + 1 ≤ b := hb; omega)).far (p := ⟨w.heap.size + 1, 1, none⟩) (fun b hb => by show b ≠ w.heap.size + 1; have : w.heap.size + 1 + 1 ≤ b := hb; omega)).far (p := ⟨w.heap.size + 1, 2, none⟩) (fun b hb => by show b ≠ w.heap.size + 1; have : w.heap.size + 1 + 1 ≤ b := hb; omega)).mono fun b hb => by omega


theorem bt_ext2 (S : ByteArray) (i n p k : Nat) (hk : k < p) (h : i + n + p ≤ S.size) : bt (S.extract (i + n) (i + n + p)) k = bt (rest S i) (n + k) := by
  have h1 : k < (S.extract (i + n) (i + n + p)).size := by rw [ext_size S (i + n) p h]; exact hk
  have h2 : n + k < (rest S i).size := by rw [rest_size]; omega
  rw [bt_in _ k h1, bt_in _ _ h2]
  have e1 : (S.extract (i + n) (i + n + p))[k]'h1 = S[i + n + k] := by simp [ByteArray.getElem_extract]
  have e2 : (rest S i)[n + k]'h2 = S[i + n + k] := by simp [rest, ByteArray.getElem_extract, Nat.add_assoc]
  rw [e1, e2]

theorem bitL_ext (S : ByteArray) (i n v p : Nat) (hp : p = (v + 7) / 8) (h : i + n + p ≤ S.size) : bitL (rest S i) n v = bitsTo (S.extract (i + n) (i + n + p)) v := by
  unfold bitL bitsTo
  refine List.map_congr_left fun k hk => ?_
  have hk' : k < v := by simpa using hk
  unfold bitAt
  rw [bt_ext2 S i n p (k / 8) (by omega) h]

set_option maxRecDepth 100000 in
theorem low_bits (c r : Nat) (hc : c < 256) (hr : r < 8) (h0 : 0 < r) : (c * 2 ^ r % 256 = 0) ↔ ∀ t, r ≤ t → t < 8 → bitB (c : Int) t = false := by
  have key : ∀ r : Fin 8, ∀ c : Fin 256, 0 < r.val → ((c.val * 2 ^ r.val % 256 = 0) ↔ ∀ t : Fin 8, r.val ≤ t.val → bitB (c.val : Int) t.val = false) := by decide +kernel
  rw [key ⟨r, hr⟩ ⟨c, hc⟩ h0]
  exact ⟨fun h t h1 h2 => h ⟨t, h2⟩ h1, fun h t h1 => h t.val h1 t.isLt⟩

theorem tail_iff (s : ByteArray) (v p : Nat) (hp : p = (v + 7) / 8) : (0 < v % 8 ∧ bt s (p - 1) * 2 ^ (v % 8) % 256 ≠ 0) ↔ ∃ t, v ≤ t ∧ t < 8 * p ∧ bitAt s t = true := by
  have hb := bt_bd s (p - 1)
  obtain ⟨c, hc⟩ : ∃ c : Nat, bt s (p - 1) = (c : Int) := ⟨(bt s (p - 1)).toNat, by omega⟩
  have hcn : (bt s (p - 1) * 2 ^ (v % 8) % 256 = 0) ↔ (c * 2 ^ (v % 8) % 256 = 0) := by
    rw [hc]
    have : ((c : Int) * 2 ^ (v % 8) % 256) = ((c * 2 ^ (v % 8) % 256 : Nat) : Int) := by rw [Int.natCast_emod, Int.natCast_mul, Int.natCast_pow]; rfl
    rw [this]
    omega
  constructor
  · rintro ⟨h0, h1⟩
    have h2 : ¬ (c * 2 ^ (v % 8) % 256 = 0) := fun h => h1 (hcn.2 h)
    rw [low_bits c (v % 8) (by omega) (by omega) h0] at h2
    refine Classical.byContradiction fun hno => h2 fun t ht ht8 => ?_
    cases hbt : bitB (c : Int) t
    · rfl
    · exfalso
      refine hno ⟨8 * (p - 1) + t, by omega, by omega, ?_⟩
      unfold bitAt
      rw [show (8 * (p - 1) + t) / 8 = p - 1 by omega, show (8 * (p - 1) + t) % 8 = t by omega, hc]
      exact hbt
  · rintro ⟨t, h1, h2, h3⟩
    have h0 : 0 < v % 8 := by omega
    refine ⟨h0, fun h => ?_⟩
    have h4 := (low_bits c (v % 8) (by omega) (by omega) h0).1 (hcn.1 h) (t % 8) (by omega) (by omega)
    unfold bitAt at h3
    rw [show t / 8 = p - 1 by omega, hc] at h3
    rw [h3] at h4
    cases h4
end Go.Proofs.YtjjdfodjkoiedaaDoor
