/-
  For every text s and all questions l the law WireReads returns true and leaves its arguments as they were. No condition.
-/
import Derived.Test.YtjjdfodjkoiedaaDoorRows
import Derived.Test.YtjjdfodjkoiedaaDoorAwakeW
import Derived.Test.YtjjdfodjkoiedaaDoorRrd3
import Derived.Test.YtjjdfodjkoiedaaDoorOpen
import Derived.WalkKit
import Derived.ProofKit
import Derived.OpenShut
import Derived.ShutString
import Derived.ChangeOld
import Derived.Carry
import Derived.SevenTiedAt
import Derived.Deep.RegionHeld3
import Derived.Test.YtjjdfodjkoiedaaDoorCards
import Derived.Test.YtjjdfodjkoiedaaDoorTie
set_option linter.unusedVariables false
namespace Go.Proofs.YtjjdfodjkoiedaaDoor.wireReads
open Go.ChangeShapes Go.WideShapes Go.ChangeAt Go.RowKit
open Go.ChangeMaps (open_string shut_string)

theorem own : ownKnob Tryd.prog.godebug = none := by kernel_rfl
theorem laidOut : laidOutB Tryd.prog = true := by kernel_rfl

theorem carry {P : Program} {f : FuncId} {args : Array Value} {w W : World} {r : Value} (h : Calls P f args W fun e w' => e = .returned r ∧ Below W.heap.size W w') (hB : Below w.heap.size w W) :
    Calls P f args W fun e w' => e = .returned r ∧ Below w.heap.size w w' :=
  h.mono fun e w' ⟨he, hb⟩ => ⟨he, hB.trans (hb.mono hB.size)⟩
theorem still {P : Program} {f : FuncId} {args : Array Value} {W : World} {r : Value} (h : Calls P f args W fun e w' => e = .returned r ∧ W = w') : Calls P f args W fun e w' => e = .returned r ∧ Below W.heap.size W w' :=
  h.mono fun e w' ⟨he, hb⟩ => ⟨he, hb ▸ Below.refl _ _⟩
/-- The reference's reader in its box. -/
def KB (w : World) (b : Nat) (s : ByteArray) (j : Nat) (er : Int) : Prop := Trip w b (.string s) (.int .i64 (j : Int)) (.int .i64 er)
theorem KB.of_block {w w' : World} {b : Nat} {s : ByteArray} {j : Nat} {er : Int} (h : KB w b s j er) (hb : w'.heap[b]? = w.heap[b]?) : KB w' b s j er := trip_same hb h
theorem trip_lt {w : World} {b : Nat} {u0 u1 u2 : Value} (h : Trip w b u0 u1 u2) : b < w.heap.size := World.block_lt_of_cell? w _ h.1.1
theorem KB.below {w w' : World} {b : Nat} {s : ByteArray} {j : Nat} {er : Int} (h : KB w b s j er) (hb : Below w.heap.size w w') : KB w' b s j er := h.of_block (hb.block b (trip_lt h))
/-- An item's five cells in a box, not frozen. -/
def FI (w : World) (b : Nat) (u0 u1 u2 u3 u4 : Value) : Prop :=
  w.cell? ⟨b, 0, none⟩ = some u0 ∧ w.cell? ⟨b, 1, none⟩ = some u1 ∧ w.cell? ⟨b, 2, none⟩ = some u2 ∧ w.cell? ⟨b, 3, none⟩ = some u3 ∧ w.cell? ⟨b, 4, none⟩ = some u4
theorem FI.of_block {w w' : World} {b : Nat} {u0 u1 u2 u3 u4 : Value} (h : FI w b u0 u1 u2 u3 u4) (hb : w'.heap[b]? = w.heap[b]?) : FI w' b u0 u1 u2 u3 u4 := by
  unfold FI at *
  simpa only [fun i => World.cell?_of_block (w := w) (w' := w') (a := ⟨b, i, none⟩) hb] using h
theorem FI.lt {w : World} {b : Nat} {u0 u1 u2 u3 u4 : Value} (h : FI w b u0 u1 u2 u3 u4) : b < w.heap.size := World.block_lt_of_cell? w _ h.1
theorem FI.below {w w' : World} {b : Nat} {u0 u1 u2 u3 u4 : Value} (h : FI w b u0 u1 u2 u3 u4) (hb : Below w.heap.size w w') : FI w' b u0 u1 u2 u3 u4 := h.of_block (hb.block b h.lt)
theorem fi_alloc (w : World) (u0 u1 u2 u3 u4 : Value) (T : TypeId) : FI (w.alloc (.cells #[u0, u1, u2, u3, u4] T)) w.heap.size u0 u1 u2 u3 u4 := by
  unfold FI
  rw [World.cell?_alloc_at _ _ _ _ rfl, World.cell?_alloc_at _ _ _ _ rfl, World.cell?_alloc_at _ _ _ _ rfl, World.cell?_alloc_at _ _ _ _ rfl, World.cell?_alloc_at _ _ _ _ rfl]
  exact ⟨rfl, rfl, rfl, rfl, rfl⟩
theorem st8_0_block {w : World} {b c k : Nat} {u0 u1 u2 u3 u4 s0 s1 s2 : Value} (h1 : b ≠ k) (h2 : c ≠ k) : (st8_0 w b c u0 u1 u2 u3 u4 s0 s1 s2).heap[k]? = w.heap[k]? := by
  unfold st8_0
  rw [set_other h2, set_other h2, set_other h2, set_other h1, set_other h1, set_other h1, set_other h1, set_other h1]
theorem st8_0_frozen {w : World} {b c : Nat} {u0 u1 u2 u3 u4 s0 s1 s2 : Value} (p : Addr) : (st8_0 w b c u0 u1 u2 u3 u4 s0 s1 s2).frozen? p = w.frozen? p := by
  unfold st8_0
  simp only [World.frozen?_setCell]

theorem bools_lt {P : Nat → Prop} {w : World} {v : Value} {l : List Bool} (h : BoolsAt P w v l) : BoolsAt (fun b => P b ∧ b < w.heap.size) w v l := by
  obtain ⟨a, cap, hv, h⟩ := h
  refine ⟨a, cap, hv, ?_⟩
  rcases h with h | ⟨b, o, ha, hb, hlt, hc⟩
  · exact .inl h
  · exact .inr ⟨b, o, ha, ⟨hb, hlt⟩, hlt, hc⟩
theorem st8_0_far {P : Nat → Prop} {w : World} {b c : Nat} {v u0 u1 u2 u3 u4 s0 s1 s2 : Value} {l : List Bool} (h : BoolsAt P w v l) (hb : ∀ k, P k → k ≠ b) (hc : ∀ k, P k → k ≠ c) : BoolsAt P (st8_0 w b c u0 u1 u2 u3 u4 s0 s1 s2) v l := by
  unfold st8_0
  exact (((((((h.far (p := ⟨b, 0, none⟩) hb).far (p := ⟨b, 1, none⟩) hb).far (p := ⟨b, 2, none⟩) hb).far (p := ⟨b, 3, none⟩) hb).far (p := ⟨b, 4, none⟩) hb).far (p := ⟨c, 0, none⟩) hc).far (p := ⟨c, 1, none⟩) hc).far (p := ⟨c, 2, none⟩) hc
theorem eff_small (k n er : Int) (S : ByteArray) (hs : S.size ≤ 5000) : ((rdv k n S).eff er).L.length ≤ 1000000000 := by
  unfold Rd.eff
  by_cases he : er ≠ 0
  · rw [if_pos he]; simp
  · rw [if_neg he]
    by_cases hx : (rdv k n S).x = 0
    · have := (rdv_small k n S hs hx).2
      omega
    · rw [(rdv_err k n S hx).2.2]; simp

def RRel (w : World) (rb kb : Nat) (s : ByteArray) (len : Nat) (i : Value) (wr : World) : Prop :=
  ∃ (k j : Nat) (er : Int), k ≤ len ∧ i = .int .i64 k ∧ RAt wr rb s j er ∧ KB wr kb s j er ∧ Below w.heap.size w wr

set_option maxHeartbeats 8000000 in
set_option maxRecDepth 100000 in
theorem walk (s : ByteArray) (v1 : Value) (xs : List (Int × Int)) (w : World) (hx : AsksAt w v1 xs) (ht : Tab w) :
    Calls Tryd.prog 4 #[.string s, v1] w fun e w' => e = .returned (.bool true) ∧ Below w.heap.size w w' := by
  have hpos := ht.pos
  have HAW := Lib.hid (awake_any w ht)
  obtain ⟨a1, cap1, rfl, hx⟩ := hx
  by_cases hbig : (5000 : Int) < (s.size : Int)
  · clear hx
    go_enter Tryd.func4, Tryd.ntmps4
    go_wp2_with fail
    refine HAW.out.mono ?_
    rintro e w1 ⟨rfl, B1⟩
    go_wp2
    go_ret
    exact ⟨rfl, B1⟩
  by_cases hbx : (40 : Int) < (xs.length : Int)
  · clear hx
    go_enter Tryd.func4, Tryd.ntmps4
    go_wp2_with fail
    refine HAW.out.mono ?_
    rintro e w1 ⟨rfl, B1⟩
    go_wp2
    go_ret
    exact ⟨rfl, B1⟩
  have hs9 : s.size ≤ 1000000000 := by omega
  have HT := Lib.hid ht
  have HX := Lib.hid hx
  have HS9 := Lib.hid hs9
  clear ht hx hs9
  go_enter Tryd.func4, Tryd.ntmps4
  go_wp2_with fail
  refine HAW.out.mono ?_
  rintro e w1 ⟨rfl, B1⟩
  have HNR := Lib.hid (newReader_any s w1)
  go_wp2_with fail
  refine HNR.out.mono ?_
  rintro e w2 ⟨rfl, B2, hr2⟩
  have BB2 := B1.trans (B2.mono B1.size)
  have hrb := B1.size
  have hrb2 := hr2.lt
  have HK : Hid (KB (w2.alloc (.cells #[.string s, .int .i64 0, .int .i64 0] 40)) w2.heap.size s 0 0) := trip_of (T := 40) (heap_alloc_new w2 _)
  have HR := Lib.hid (hr2.below (below_al (o := .cells #[.string s, .int .i64 0, .int .i64 0] 40) (Below.refl w2.heap.size w2)))
  have HB := Lib.hid (below_al (o := .cells #[.string s, .int .i64 0, .int .i64 0] 40) BB2)
  have hkb := BB2.size
  have hrk : w1.heap.size ≠ w2.heap.size := by omega
  clear hr2 B2 B1 BB2 HNR
  go_wp2_with fail
  generalize w2.alloc (.cells #[.string s, .int .i64 0, .int .i64 0] 40) = w3 at HK HR HB ⊢
  generalize w1.heap.size = rb at *
  generalize w2.heap.size = kb at *
  go_loopw [30] (fun i wr => RRel w rb kb s xs.length i wr) (fun i _ => xs.length - (intOf i).toNat)
  case atStart => exact ⟨0, 0, 0, Nat.zero_le _, rfl, HR.out, HK.out, HB.out⟩
  case round =>
    clear HK HR HB
    obtain ⟨k, j, er, hk, rfl, hr, hkbx, hbel⟩ := hrel
    have HR := Lib.hid hr
    have HK := Lib.hid hkbx
    have HBEL := Lib.hid hbel
    have hjs := hr.le
    by_cases hlt : k < xs.length
    · have hltI : (k : Int) < (xs.length : Int) := by omega
      rcases HX.out with hnil | ⟨b, o, rfl, hbl, hc⟩
      · rw [hnil] at hlt; exact absurd hlt (Nat.not_lt_zero _)
      obtain ⟨c0, c1⟩ := hc k hlt
      simp only [← fun i => hbel.cell (p := ⟨b, i, none⟩) hbl] at c0 c1
      clear hc
      generalize xs[k] = q at c0 c1
      obtain ⟨qk, qn⟩ := q
      simp only at c0 c1
      have hbelA := below_al (o := .cells #[.int .i64 qk, .int .i64 qn] 42) hbel
      have hbA : Below wr.heap.size wr (wr.alloc (.cells #[.int .i64 qk, .int .i64 qn] 42)) := (Below.refl _ _).alloc (Nat.le_refl _) _
      have hrA := hr.below hbA
      have hkA := hkbx.below hbA
      have htA := HT.out.below hbelA hpos
      have k0 : (wr.alloc (.cells #[.int .i64 qk, .int .i64 qn] 42)).cell? ⟨wr.heap.size, 0, none⟩ = some (.int .i64 qk) := by rw [World.cell?_alloc_at _ _ _ _ rfl]; rfl
      have k1 : (wr.alloc (.cells #[.int .i64 qk, .int .i64 qn] 42)).cell? ⟨wr.heap.size, 1, none⟩ = some (.int .i64 qn) := by rw [World.cell?_alloc_at _ _ _ _ rfl]; rfl
      have HRD := Lib.hid (read_any rb s j er qk qn HS9.out _ hrA htA)
      have hszA : (wr.alloc (.cells #[.int .i64 qk, .int .i64 qn] 42)).heap.size = wr.heap.size + 1 := by simp
      have K0 := Lib.hid k0
      have K1 := Lib.hid k1
      have HKA := Lib.hid hkA
      have HBA := Lib.hid hbelA
      have HSZA := Lib.hid hszA
      have hklt := trip_lt hkbx
      have HDL := Lib.hid (eff_small qk qn er (rest s j) (by rw [rest_size]; omega))
      have HRF := Lib.hid (fun w => referRead_any s j er qk qn HS9.out hjs w)
      clear hr hkbx hbel hbelA hbA hrA hkA htA k0 k1 hszA HR HK
      unfold RdPost at HRD
      unfold RefPost at HRF
      generalize rdN j er (rdv qk qn (rest s j)).n (rdv qk qn (rest s j)).x = jx at *
      generalize (rdv qk qn (rest s j)).eff er = d at *
      obtain ⟨j2, er2⟩ := jx
      obtain ⟨dN, dS, dL, dn, dx⟩ := d
      unfold It.val at HRD HRF
      unfold rdr at HRF
      simp only at *
      have HLB : Hid True := trivial
      go_wp2_with fail
      refine HRD.out.mono ?_
      rintro e w4 ⟨a, ll, lc, rfl, hr4, hs4, hv4⟩
      have hsz4 := hs4.size
      rw [HSZA.out] at hsz4
      have HK4 : Hid (KB w4 kb s j er) := HKA.out.of_block (hs4.block kb (by rw [HSZA.out]; omega) (fun e => hrk e.symm))
      have d0 := (World.cell?_of_block (w' := w4) (a := ⟨wr.heap.size, 0, none⟩) (hs4.block wr.heap.size (by rw [HSZA.out]; omega) (by have := HBEL.out; omega))).trans K0.out
      have d1 := (World.cell?_of_block (w' := w4) (a := ⟨wr.heap.size, 1, none⟩) (hs4.block wr.heap.size (by rw [HSZA.out]; omega) (by have := HBEL.out; omega))).trans K1.out
      have HB4 := Lib.hid (below_rstep HBA.out hs4 hrb HBA.out.size)
      have HR4 := Lib.hid hr4
      have HV4 := Lib.hid hv4
      clear hr4 hs4 hv4 c0 c1 HRD K0 K1 HKA HBA HBEL
      obtain ⟨⟨p0, p1, p2⟩, ⟨t0, t1, t2⟩⟩ := HK4.out
      have hkb4 := trip_lt HK4.out
      have hxb4 : wr.heap.size < w4.heap.size := by omega
      go_wp2_with fail
      refine (HRF.out _).mono ?_
      rintro e w6 ⟨a2, ll2, lc2, rfl, hb6, hv6⟩
      have hb45 : Below w4.heap.size w4 ((w4.alloc (.cells #[.int .i64 0, .int .i64 0, .int .i64 dN, .string dS, .slice a ll lc] 31)).alloc (.cells #[.int .i64 0, .int .i64 0, .int .i64 0, .string ⟨#[]⟩, .slice none 0 0] 31)) := below_al (below_al (Below.refl _ _))
      have hs5 : ((w4.alloc (.cells #[.int .i64 0, .int .i64 0, .int .i64 dN, .string dS, .slice a ll lc] 31)).alloc (.cells #[.int .i64 0, .int .i64 0, .int .i64 0, .string ⟨#[]⟩, .slice none 0 0] 31)).heap.size = w4.heap.size + 1 + 1 := by simp
      have hFA5 : FI ((w4.alloc (.cells #[.int .i64 0, .int .i64 0, .int .i64 dN, .string dS, .slice a ll lc] 31)).alloc (.cells #[.int .i64 0, .int .i64 0, .int .i64 0, .string ⟨#[]⟩, .slice none 0 0] 31)) w4.heap.size (.int .i64 0) (.int .i64 0) (.int .i64 dN) (.string dS) (.slice a ll lc) :=
        (fi_alloc w4 _ _ _ _ _ 31).below (below_al (Below.refl _ _))
      have hFB5 : Five ((w4.alloc (.cells #[.int .i64 0, .int .i64 0, .int .i64 dN, .string dS, .slice a ll lc] 31)).alloc (.cells #[.int .i64 0, .int .i64 0, .int .i64 0, .string ⟨#[]⟩, .slice none 0 0] 31)) (w4.heap.size + 1) := by
        have h := heap_alloc_new (w4.alloc (.cells #[.int .i64 0, .int .i64 0, .int .i64 dN, .string dS, .slice a ll lc] 31)) (.cells #[.int .i64 0, .int .i64 0, .int .i64 0, .string ⟨#[]⟩, .slice none 0 0] 31)
        exact five_of (by simpa [z5] using h)
      have hA6 := hFA5.below hb6
      have hF6 := five_same (hb6.block (w4.heap.size + 1) (by rw [hs5]; omega)) hFB5
      have hb46 := hb45.trans (hb6.mono hb45.size)
      have hK6 := HK4.out.below hb46
      have hR6 := HR4.out.below hb46
      have hV6 := (bools_lt HV4.out).below hb46
      have hB6 := HB4.out.trans (hb46.mono HB4.out.size)
      have hs6 := hb6.size
      rw [hs5] at hs6
      have hrlt4 := HR4.out.lt
      have hBw4 := HB4.out.size
      rw [hs5] at hv6
      obtain ⟨⟨f0, f1, f2, f3, f4⟩, ⟨g0, g1, g2, g3, g4⟩⟩ := hF6
      obtain ⟨⟨p0, p1, p2⟩, ⟨t0, t1, t2⟩⟩ := hK6
      have HC7 := Lib.hid (st8_0_cells (w := w6) (b := w4.heap.size + 1) (c := kb) (u0 := .int .i64 0) (u1 := .int .i64 0) (u2 := .int .i64 dN) (u3 := .string dS) (u4 := .slice a2 ll2 lc2) (s0 := .string s) (s1 := .int .i64 (j2 : Int)) (s2 := .int .i64 er2) (by omega) f0 f1 f2 f3 f4 p0 p1 p2)
      have HR7 := Lib.hid (hR6.of_block (st8_0_block (w := w6) (b := w4.heap.size + 1) (c := kb) (k := rb) (u0 := .int .i64 0) (u1 := .int .i64 0) (u2 := .int .i64 dN) (u3 := .string dS) (u4 := .slice a2 ll2 lc2) (s0 := .string s) (s1 := .int .i64 (j2 : Int)) (s2 := .int .i64 er2) (by omega) (fun e => hrk e.symm)))
      have HA7 := Lib.hid (hA6.of_block (st8_0_block (w := w6) (b := w4.heap.size + 1) (c := kb) (k := w4.heap.size) (u0 := .int .i64 0) (u1 := .int .i64 0) (u2 := .int .i64 dN) (u3 := .string dS) (u4 := .slice a2 ll2 lc2) (s0 := .string s) (s1 := .int .i64 (j2 : Int)) (s2 := .int .i64 er2) (by omega) (by omega)))
      have HV7 := Lib.hid (st8_0_far (b := w4.heap.size + 1) (c := kb) (u0 := .int .i64 0) (u1 := .int .i64 0) (u2 := .int .i64 dN) (u3 := .string dS) (u4 := .slice a2 ll2 lc2) (s0 := .string s) (s1 := .int .i64 (j2 : Int)) (s2 := .int .i64 er2) hV6 (fun q hq => by have := hq.2; omega) (fun q hq => by have h1 : _ ≤ q := hq.1; rw [HSZA.out] at h1; omega))
      have HW7 := Lib.hid (st8_0_bools (b := w4.heap.size + 1) (c := kb) (u0 := .int .i64 0) (u1 := .int .i64 0) (u2 := .int .i64 dN) (u3 := .string dS) (u4 := .slice a2 ll2 lc2) (s0 := .string s) (s1 := .int .i64 (j2 : Int)) (s2 := .int .i64 er2) hv6 (by omega) (by omega))
      have HB7 := Lib.hid (st8_0_below (b := w4.heap.size + 1) (c := kb) (u0 := .int .i64 0) (u1 := .int .i64 0) (u2 := .int .i64 dN) (u3 := .string dS) (u4 := .slice a2 ll2 lc2) (s0 := .string s) (s1 := .int .i64 (j2 : Int)) (s2 := .int .i64 er2) hB6 (by omega) hkb)
      have HT7 : Hid ((st8_0 w6 (w4.heap.size + 1) kb (.int .i64 0) (.int .i64 0) (.int .i64 dN) (.string dS) (.slice a2 ll2 lc2) (.string s) (.int .i64 (j2 : Int)) (.int .i64 er2)).frozen? ⟨kb, 0, none⟩ = false ∧ (st8_0 w6 (w4.heap.size + 1) kb (.int .i64 0) (.int .i64 0) (.int .i64 dN) (.string dS) (.slice a2 ll2 lc2) (.string s) (.int .i64 (j2 : Int)) (.int .i64 er2)).frozen? ⟨kb, 1, none⟩ = false ∧ (st8_0 w6 (w4.heap.size + 1) kb (.int .i64 0) (.int .i64 0) (.int .i64 dN) (.string dS) (.slice a2 ll2 lc2) (.string s) (.int .i64 (j2 : Int)) (.int .i64 er2)).frozen? ⟨kb, 2, none⟩ = false) :=
        ⟨(st8_0_frozen _).trans t0, (st8_0_frozen _).trans t1, (st8_0_frozen _).trans t2⟩
      have hjl := HR4.out.le
      clear d0 d1 hb45 hFA5 hFB5 hA6 hb46 hR6 hV6 hB6 hv6 hb6 HK4 HR4 HV4 HB4
      go_wp2_with fail
      rw [show (((((((w6.setCell ⟨w4.heap.size + 1, 0, none⟩ (.int .i64 0)).setCell ⟨w4.heap.size + 1, 1, none⟩ (.int .i64 0)).setCell ⟨w4.heap.size + 1, 2, none⟩ (.int .i64 dN)).setCell ⟨w4.heap.size + 1, 3, none⟩ (.string dS)).setCell ⟨w4.heap.size + 1, 4, none⟩ (.slice a2 ll2 lc2)).setCell ⟨kb, 0, none⟩ (.string s)).setCell ⟨kb, 1, none⟩ (.int .i64 (j2 : Int))).setCell ⟨kb, 2, none⟩ (.int .i64 er2) = st8_0 w6 (w4.heap.size + 1) kb (.int .i64 0) (.int .i64 0) (.int .i64 dN) (.string dS) (.slice a2 ll2 lc2) (.string s) (.int .i64 (j2 : Int)) (.int .i64 er2) from rfl]
      generalize st8_0 w6 (w4.heap.size + 1) kb (.int .i64 0) (.int .i64 0) (.int .i64 dN) (.string dS) (.slice a2 ll2 lc2) (.string s) (.int .i64 (j2 : Int)) (.int .i64 er2) = w7 at HC7 HR7 HA7 HV7 HW7 HB7 HT7 ⊢
      clear p0 p1 p2 t0 t1 t2 f0 f1 f2 f3 f4 g0 g1 g2 g3 g4 hs6 hs5
      have HK7 : Hid (KB w7 kb s j2 er2) := ⟨⟨HC7.out.2.2.2.2.2.1, HC7.out.2.2.2.2.2.2.1, HC7.out.2.2.2.2.2.2.2⟩, HT7.out⟩
      have HF7 : Hid (FI w7 (w4.heap.size + 1) (.int .i64 0) (.int .i64 0) (.int .i64 dN) (.string dS) (.slice a2 ll2 lc2)) := ⟨HC7.out.1, HC7.out.2.1, HC7.out.2.2.1, HC7.out.2.2.2.1, HC7.out.2.2.2.2.1⟩
      have HKEEP : Hid (∀ W, Below w7.heap.size w7 W → W.cell? ⟨kb, 1, none⟩ = some (.int .i64 (j2 : Int)) ∧ W.cell? ⟨kb, 2, none⟩ = some (.int .i64 er2) ∧
          W.cell? ⟨w4.heap.size, 0, none⟩ = some (.int .i64 0) ∧ W.cell? ⟨w4.heap.size, 1, none⟩ = some (.int .i64 0) ∧ W.cell? ⟨w4.heap.size, 2, none⟩ = some (.int .i64 dN) ∧ W.cell? ⟨w4.heap.size, 3, none⟩ = some (.string dS) ∧ W.cell? ⟨w4.heap.size, 4, none⟩ = some (.slice a ll lc) ∧
          W.cell? ⟨w4.heap.size + 1, 0, none⟩ = some (.int .i64 0) ∧ W.cell? ⟨w4.heap.size + 1, 1, none⟩ = some (.int .i64 0) ∧ W.cell? ⟨w4.heap.size + 1, 2, none⟩ = some (.int .i64 dN) ∧ W.cell? ⟨w4.heap.size + 1, 3, none⟩ = some (.string dS) ∧ W.cell? ⟨w4.heap.size + 1, 4, none⟩ = some (.slice a2 ll2 lc2)) := fun W hb => by
        obtain ⟨q0, q1, q2, q3, q4⟩ := HA7.out.below hb
        obtain ⟨r0, r1, r2, r3, r4⟩ := HF7.out.below hb
        obtain ⟨⟨_, h1, h2⟩, _⟩ := HK7.out.below hb
        exact ⟨h1, h2, q0, q1, q2, q3, q4, r0, r1, r2, r3, r4⟩
      have HSM : Hid (∀ W, Below w7.heap.size w7 W → Calls Tryd.prog 20 #[.agg #[.int .i64 0, .int .i64 0, .int .i64 dN, .string dS, .slice a ll lc], .agg #[.int .i64 0, .int .i64 0, .int .i64 dN, .string dS, .slice a2 ll2 lc2]] W fun e w' => e = .returned (.bool true) ∧ Below W.heap.size W w') := fun W hb => by
        have h := same_any _ _ ⟨0, 0, dN, dS, a, ll, lc⟩ ⟨0, 0, dN, dS, a2, ll2, lc2⟩ dL dL HDL.out W (HV7.out.below hb) (HW7.out.below hb)
        rw [show sameB ⟨0, 0, dN, dS, a, ll, lc⟩ ⟨0, 0, dN, dS, a2, ll2, lc2⟩ dL dL = true by simp [sameB]] at h
        exact h
      have HAT := Lib.hid (fun (W : World) (hb : Below w7.heap.size w7 W) => still (at_any rb s j2 er2 W (HR7.out.below hb)))
      have HER := Lib.hid (fun (W : World) (hb : Below w7.heap.size w7 W) => still (err_any rb s j2 er2 W (HR7.out.below hb)))
      have HLE := Lib.hid (fun (W : World) (hb : Below w7.heap.size w7 W) => left_any rb s j2 er2 HS9.out W (HR7.out.below hb))
      have hwl : IntKind.i64.wrap ((s.size : Int) - (j2 : Int)) = (s.size : Int) - (j2 : Int) := IntWalk.i64_in _ (by omega)
      have hBR : Below w7.heap.size w7 w7 := Below.refl _ _
      have hBRd : Below w7.heap.size w7 w7.drew := hBR.drew
      obtain ⟨h1, h2, q0, q1, q2, q3, q4, r0, r1, r2, r3, r4⟩ := HKEEP.out _ hBR
      have hkd := HKEEP.out _ hBRd
      clear HC7 HT7 hjl hkb4 hxb4 hrlt4 hBw4
      generalize w4.heap.size + 1 = bb at *
      generalize w4.heap.size = ab at *
      go_region_held3 (fun W => W.cell? ⟨kb, 1, none⟩ = some (.int .i64 (j2 : Int)) ∧ W.cell? ⟨kb, 2, none⟩ = some (.int .i64 er2) ∧
          W.cell? ⟨ab, 0, none⟩ = some (.int .i64 0) ∧ W.cell? ⟨ab, 1, none⟩ = some (.int .i64 0) ∧ W.cell? ⟨ab, 2, none⟩ = some (.int .i64 dN) ∧ W.cell? ⟨ab, 3, none⟩ = some (.string dS) ∧ W.cell? ⟨ab, 4, none⟩ = some (.slice a ll lc) ∧
          W.cell? ⟨bb, 0, none⟩ = some (.int .i64 0) ∧ W.cell? ⟨bb, 1, none⟩ = some (.int .i64 0) ∧ W.cell? ⟨bb, 2, none⟩ = some (.int .i64 dN) ∧ W.cell? ⟨bb, 3, none⟩ = some (.string dS) ∧ W.cell? ⟨bb, 4, none⟩ = some (.slice a2 ll2 lc2))
        (first
          | (refine HKEEP.out _ ?_; assumption)
          | (refine HKEEP.out _ (Below.drew ?_); assumption)
          | go_keep)
        (first
          | (go_at_call 21; refine (carry (w := w7) (HAT.out _ ?_) ?_).mono ?_; (first | assumption | (refine Below.drew ?_; assumption)); (first | assumption | (refine Below.drew ?_; assumption)); rintro e w8 ⟨rfl, hB8⟩)
          | (go_at_call 22; refine (carry (w := w7) (HLE.out _ ?_) ?_).mono ?_; (first | assumption | (refine Below.drew ?_; assumption)); (first | assumption | (refine Below.drew ?_; assumption)); rintro e w8 ⟨rfl, hB8⟩)
          | (go_at_call 23; refine (carry (w := w7) (HER.out _ ?_) ?_).mono ?_; (first | assumption | (refine Below.drew ?_; assumption)); (first | assumption | (refine Below.drew ?_; assumption)); rintro e w8 ⟨rfl, hB8⟩)
          | (go_at_call 20; refine (carry (w := w7) (HSM.out _ ?_) ?_).mono ?_; (first | assumption | (refine Below.drew ?_; assumption)); (first | assumption | (refine Below.drew ?_; assumption)); rintro e w8 ⟨rfl, hB8⟩))
      have hB9 := hB8
      have HR9 := Lib.hid (HR7.out.below hB9)
      have HK9 := Lib.hid (HK7.out.below hB9)
      have HB9 := Lib.hid (HB7.out.trans (hB9.mono HB7.out.size))
      clear hB8 h1 h2 q0 q1 q2 q3 q4 r0 r1 r2 r3 r4 hkd hwl
      go_wp2
      go_roundw
      case rel => exact ⟨k + 1, j2, er2, by omega, by go_num, HR9.out, HK9.out, HB9.out⟩
      case measure => simp [intOf]; omega
    · obtain rfl : k = xs.length := by omega
      have HRE := Lib.hid (fun w => refReadEnd_any s j er HS9.out hjs w)
      unfold rdr at HRE
      obtain ⟨⟨p0, p1, p2⟩, ⟨t0, t1, t2⟩⟩ := hkbx
      have hklt := trip_lt HK.out
      clear hr hbel
      go_wp2_with fail
      refine (HRE.out _).mono ?_
      rintro e w4 ⟨rfl, hb4⟩
      have HK4 := Lib.hid (HK.out.below hb4)
      have HR4 := Lib.hid (HR.out.below hb4)
      have HB4 := Lib.hid (HBEL.out.trans (hb4.mono HBEL.out.size))
      clear p0 p1 p2 t0 t1 t2 hb4 HK HR HBEL
      obtain ⟨⟨p0, p1, p2⟩, ⟨t0, t1, t2⟩⟩ := HK4.out
      obtain ⟨y, hy⟩ : ∃ y, y = (if er = 0 ∧ j < s.size then 2 else er) := ⟨_, rfl⟩
      have hye : (rdN j er (endR (rest s j)).2.1 (endR (rest s j)).2.2).2 = y := by
        rw [hy]
        unfold rdN endR
        rw [rest_size]
        by_cases he : er = 0
        · subst he
          by_cases hjl : j < s.size
          · rw [if_neg (by omega : ¬ s.size - j = 0)]; simp [hjl]
          · rw [if_pos (by omega : s.size - j = 0)]; simp [hjl]
        · simp [he]
      have HEND := Lib.hid (fun (W : World) (hr : RAt W rb s j er) => rEnd rb s j er HS9.out W hr)
      rw [hye] at HEND
      rw [← hy]
      have HYE := Lib.hid hye
      clear hye hy
      go_wp2_with fail
      have hR9 := ((HR4.out.far (p := ⟨kb, 0, none⟩) hrk (.string s)).far (p := ⟨kb, 1, none⟩) hrk (.int .i64 (j : Int))).far (p := ⟨kb, 2, none⟩) hrk (.int .i64 y)
      have hB9 := ((HB4.out.setCell (p := ⟨kb, 0, none⟩) hkb (.string s)).setCell (p := ⟨kb, 1, none⟩) hkb (.int .i64 (j : Int))).setCell (p := ⟨kb, 2, none⟩) hkb (.int .i64 y)
      have h9 : ((((w4.setCell ⟨kb, 0, none⟩ (.string s)).setCell ⟨kb, 1, none⟩ (.int .i64 (j : Int))).setCell ⟨kb, 2, none⟩ (.int .i64 y))).cell? ⟨kb, 2, none⟩ = some (.int .i64 y) := cs_same (cs_off (.inr (by decide)) (cs_off (.inr (by decide)) p2))
      generalize ((w4.setCell ⟨kb, 0, none⟩ (.string s)).setCell ⟨kb, 1, none⟩ (.int .i64 (j : Int))).setCell ⟨kb, 2, none⟩ (.int .i64 y) = w9 at hR9 hB9 h9 ⊢
      clear p0 p1 p2 t0 t1 t2
      have hR9d : RAt w9.drew rb s j er := ⟨hR9.blk, hR9.le⟩
      have h9d : w9.drew.cell? ⟨kb, 2, none⟩ = some (.int .i64 y) := h9
      have hk9 : kb < w9.heap.size := World.block_lt_of_cell? w9 _ h9
      have hB9d : Below w.heap.size w w9.drew := hB9.drew
      have HAFT : Hid (∀ W W', Below w.heap.size w W → W.cell? ⟨kb, 2, none⟩ = some (.int .i64 y) → RStep rb W W' → W'.cell? ⟨kb, 2, none⟩ = some (.int .i64 y) ∧ Below w.heap.size w W') := fun W W' hB hc hs =>
        ⟨(World.cell?_of_block (hs.block kb (World.block_lt_of_cell? W _ hc) (fun e => hrk e.symm))).trans hc, below_rstep hB hs hrb hB.size⟩
      generalize (rdN j er (endR (rest s j)).2.1 (endR (rest s j)).2.2).1 = j3 at *
      have HERR := Lib.hid (fun (W : World) (hr : RAt W rb s j3 y) => err_any rb s j3 y W hr)
      clear HYE HRE HR4 HB4 HK4
      go_region_with (first
        | (go_at_call 25; refine (HEND.out _ hR9d).mono ?_; rintro e w10 ⟨rfl, hr10, hs10⟩; obtain ⟨c2, B10⟩ := HAFT.out _ _ hB9d h9d hs10)
        | (go_at_call 23; refine (HERR.out _ hr10).mono ?_; rintro e w11 ⟨rfl, rfl⟩))
      all_goals
        go_wp2
        go_ret
        first
          | exact ⟨rfl, B10⟩
          | exact ⟨rfl, B10.drew⟩

set_option maxRecDepth 100000 in
theorem lifted (os : Os) (started : os.Started) (H : Type) (enc : TypeId × Value → H) :
    ReturnsInHanded {} Tryd.checked os 4 .any (fun w args => (Rows.wireReadsSpec.pre enc Tryd.prog Tryd.f4 [] false w args ∧ laidMetH Tryd.prog laid1 w) ∧ sizedMet enc Tryd.prog Tryd.f4 (OpenSpec.ofChange Rows.wireReadsSpec) false w args)
      (Rows.wireReadsSpec.post enc Tryd.prog Tryd.f4 false true false false) := by
  refine returnsInHanded_of_change_and (C := Tryd.checked) (X := fun w _ => laidMetH Tryd.prog laid1 w) (fun _ _ _ hh h => h.of_heap hh) own started (by kernel_rfl) Tryd.func4
    (ChangeSpec.witness_shaped (enc := enc) (C := Tryd.checked) (os := os) (X := fun w _ => laidMetH Tryd.prog laid1 w) false (World.doorLaid Tryd.prog 400 os) #[.string ByteArray.empty, .slice none 0 0] 8 rfl (World.shaped_of_RefB (by kernel_rfl) (by kernel_rfl)) (by kernel_rfl) (by kernel_rfl) (by kernel_rfl) (door_met os _)) ?_
  intro W base args ds gs before hval0 hW _ _ hL _
  have hval : ∀ (j : Nat) t v, Tryd.f4.params[j]? = some t → args[j]? = some v → Value.okWide Tryd.prog W .any base t v := hval0
  have hW' := hW
  obtain ⟨p, q, hA0, hV, rfl, hfz, hnd⟩ := hW
  have hA : DataW.TrodAll enc Tryd.prog W 0 (fun _ => true) true Tryd.f4.params.toList args.toList ds p := hA0
  rw [Tryd.params4] at hA hval
  obtain ⟨v0, vs0, d0, ds0, p0, q0, hargs, rfl, rfl, h0, r0⟩ := trodAll_cons hA
  obtain ⟨v1, vs1, d1, ds1, p1, q1, rfl, rfl, rfl, h1, r1⟩ := trodAll_cons r0
  obtain ⟨rfl, rfl, rfl⟩ := trodAll_nil r1
  obtain rfl : args = #[v0, v1] := by cases args; simp_all
  obtain ⟨rfl, rfl⟩ := trodVars_none hV
  obtain ⟨a0, rfl, rfl, rfl, w0⟩ := open_string Tryd.underlying9 (hval 0 9 v0 rfl rfl) h0
  have k1 := h1
  have lt1 : ∀ x ∈ p1, x.block < W.heap.size := by obtain ⟨m, hm⟩ := k1; exact DataW.trod_lt m _ _ _ hm
  obtain ⟨xs1, hx1⟩ := open_asks (hval 1 36 v1 rfl rfl) h1
  clear hA0 hval0
  have ht := of_laid hL
  refine (walk a0 v1 xs1 W hx1 ht).mono fun e W' ⟨he, bel⟩ => ?_
  subst he
  exact ⟨_, rfl, _, _, _, [], _, [], hW', trodAll_mk1 (shut_bool Tryd.underlying4 _), (trodAll_cons_mk (shut_string Tryd.underlying9 w0) (trodAll_cons_mk (Below.trod laidOut (by kernel_rfl) (of_decide_eq_true (by kernel_rfl)) k1 bel lt1) trodAll_mk0)), rfl, bel.frame _, fun h => by cases h⟩

theorem over : Rows.wireReadsRow.holds Tryd.pinned (OpenSpec.ofChange Rows.wireReadsSpec) :=
  OpenClaim.holds_of_wide 4 Tryd.f4 rfl rfl rfl rfl rfl rfl rfl ⟨rfl, rfl, rfl, rfl, rfl⟩ rfl rfl rfl rfl rfl (by kernel_rfl) Tryd.func4 (by kernel_rfl)
    (of_decide_eq_true (by kernel_rfl)) (by unfold Func.isWrapper; first | (rw [if_pos (by decide +kernel)]; kernel_rfl) | (rw [if_neg (by decide +kernel)]; exact ⟨rfl, rfl⟩))
    (fun os started H enc _ => lifted os started H enc)

theorem card_holds : Rows.WireReadsCardSaid :=
  Claim7.holds_tied_plain_at .later [] [.data] true (true, "1e96a78fc00194934d42a12a0dbef2585bede4f87d841dcadeaee66c04a8f023") false
    over (fun _ h => by cases h) (by kernel_rfl) (fun _ h => by cases h) wireReads_row_tie rfl ⟨rfl, rfl⟩ (by kernel_rfl) rfl
    (fun f fn hf hfn => by
      obtain rfl : f = 4 := Option.some.inj ((show Tryd.prog.funcNamed "acheron/acheronlaw02.WireReads" = some 4 by kernel_rfl).symm.trans hf) |>.symm
      obtain rfl : fn = Tryd.f4 := (Option.some.inj (Tryd.func4.symm.trans hfn)).symm
      exact ⟨by kernel_rfl, fun j t ht => by
        rw [Tryd.params4] at ht
        have hm : t ∈ [9, 36] := by have := Array.mem_of_getElem? ht; simp at this ⊢; omega
        have hall : ([9, 36].all fun u => !Tryd.prog.wantsStandIn u) = true := by kernel_rfl
        exact (show Tryd.prog.wantsStandIn t = false by simpa using List.all_eq_true.1 hall t hm)⟩)
    (by kernel_rfl)
end Go.Proofs.YtjjdfodjkoiedaaDoor.wireReads

