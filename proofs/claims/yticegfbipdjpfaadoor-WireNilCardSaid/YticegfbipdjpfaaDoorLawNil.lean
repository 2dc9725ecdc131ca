/-
  For every item x and every question a the law WireNil returns true and leaves its arguments as they were. No condition.
-/
import Derived.Test.YticegfbipdjpfaaDoorRows
import Derived.Test.YticegfbipdjpfaaDoorAwakeW
import Derived.Test.YticegfbipdjpfaaDoorRd
import Derived.Test.YticegfbipdjpfaaDoorOpen
import Derived.WalkKit
import Derived.ProofKit
import Derived.OpenShut
import Derived.ShutString
import Derived.ChangeOld
import Derived.Carry
import Derived.SevenTiedAt
import Derived.Lib.SmallJoins
import Derived.Test.YticegfbipdjpfaaDoorCards
import Derived.Test.YticegfbipdjpfaaDoorTie
set_option linter.unusedVariables false
namespace Go.Proofs.YticegfbipdjpfaaDoor.wireNil
open Go.ChangeShapes Go.WideShapes Go.ChangeAt Go.RowKit

theorem own : ownKnob Tryd.prog.godebug = none := by kernel_rfl
theorem laidOut : laidOutB Tryd.prog = true := by kernel_rfl

/-- The cells of an item in block b. -/
def Box5 (w : World) (b : Nat) (x : It) : Prop :=
  w.cell? ⟨b, 0, none⟩ = some (.int .i64 x.k) ∧ w.cell? ⟨b, 1, none⟩ = some (.int .i64 x.z) ∧ w.cell? ⟨b, 2, none⟩ = some (.int .i64 x.n) ∧ w.cell? ⟨b, 3, none⟩ = some (.string x.s) ∧ w.cell? ⟨b, 4, none⟩ = some (.slice x.la x.ll x.lc)
theorem Box5.lt {w : World} {b : Nat} {x : It} (h : Box5 w b x) : b < w.heap.size := World.block_lt_of_cell? w _ h.1
theorem Box5.below {w w' : World} {b : Nat} {x : It} (h : Box5 w b x) (hb : Below w.heap.size w w') : Box5 w' b x := by
  have hlt := h.lt
  unfold Box5 at *
  simpa only [fun i => hb.cell (p := ⟨b, i, none⟩) hlt] using h
theorem box5_alloc (W : World) (x : It) : Box5 (W.alloc (.cells #[.int .i64 x.k, .int .i64 x.z, .int .i64 x.n, .string x.s, .slice x.la x.ll x.lc] 31)) W.heap.size x := by
  unfold Box5
  rw [World.cell?_alloc_at _ _ _ _ rfl, World.cell?_alloc_at _ _ _ _ rfl, World.cell?_alloc_at _ _ _ _ rfl, World.cell?_alloc_at _ _ _ _ rfl, World.cell?_alloc_at _ _ _ _ rfl]
  exact ⟨rfl, rfl, rfl, rfl, rfl⟩
theorem items_one {w : World} {b : Nat} {x : It} (h : Box5 w b x) : ItemsAt w (.slice (some ⟨b, 0, none⟩) 1 1) [x] := by
  refine ⟨_, 1, rfl, .inr ⟨b, 0, rfl, h.lt, fun j hj => ?_⟩⟩
  obtain rfl : j = 0 := by have : j < 1 := hj; omega
  exact h

def zIt : It := ⟨0, 0, 0, ⟨#[]⟩, none, 0, 0⟩

set_option maxHeartbeats 4000000 in
set_option maxRecDepth 100000 in
theorem walk (x : It) (k n : Int) (w : World) (ht : Tab w) :
    Calls Tryd.prog 9 #[x.val, .agg #[.int .i64 k, .int .i64 n]] w fun e w' => e = .returned (.bool true) ∧ Below w.heap.size w w' := by
  have hpos := ht.pos
  have hW := below_al (o := .cells #[.int .i64 k, .int .i64 n] 42) (below_al (o := .cells #[.int .i64 x.k, .int .i64 x.z, .int .i64 x.n, .string x.s, .slice x.la x.ll x.lc] 31) (Below.refl w.heap.size w))
  have hb0 := (box5_alloc w x).below ((Below.refl _ _).alloc (Nat.le_refl _) (.cells #[.int .i64 k, .int .i64 n] 42))
  have ha0 : ((w.alloc (.cells #[.int .i64 x.k, .int .i64 x.z, .int .i64 x.n, .string x.s, .slice x.la x.ll x.lc] 31)).alloc (.cells #[.int .i64 k, .int .i64 n] 42)).cell? ⟨w.heap.size + 1, 0, none⟩ = some (.int .i64 k) := by
    rw [World.cell?_alloc_at _ _ _ _ (by simp)]; rfl
  have ha1 : ((w.alloc (.cells #[.int .i64 x.k, .int .i64 x.z, .int .i64 x.n, .string x.s, .slice x.la x.ll x.lc] 31)).alloc (.cells #[.int .i64 k, .int .i64 n] 42)).cell? ⟨w.heap.size + 1, 1, none⟩ = some (.int .i64 n) := by
    rw [World.cell?_alloc_at _ _ _ _ (by simp)]; rfl
  have hsz : ((w.alloc (.cells #[.int .i64 x.k, .int .i64 x.z, .int .i64 x.n, .string x.s, .slice x.la x.ll x.lc] 31)).alloc (.cells #[.int .i64 k, .int .i64 n] 42)).heap.size = w.heap.size + 1 + 1 := by simp
  have HW := Lib.hid hW
  have HB0 := Lib.hid hb0
  have HA0 := Lib.hid ha0
  have HA1 := Lib.hid ha1
  have HSZ := Lib.hid hsz
  have HAW := Lib.hid (awake_any _ (ht.below hW hpos))
  have HWN := Lib.hid (fun w => writeNil_any x w)
  have HRN := Lib.hid (fun w => readNil_any k n w)
  have hsm := fun w => same_any (fun _ => True) (fun _ => True) zIt zIt [] [] (by decide) w ⟨none, 0, rfl, .inl rfl⟩ ⟨none, 0, rfl, .inl rfl⟩
  rw [show sameB zIt zIt [] [] = true by simp [sameB]] at hsm
  have HSM := Lib.hid hsm
  clear hsm
  have HF := Lib.hid (fun v w h => few_any v [x] w h)
  clear hW hb0 ha0 ha1 hsz ht
  unfold It.val at HWN HSM ⊢
  unfold zeroIt at HRN
  cases hfew : fewB [x]
  all_goals
    rw [hfew] at HF
    go_enter Tryd.func9, Tryd.ntmps9
    go_wp2_with fail
    refine HAW.out.mono ?_
    rintro e w1 ⟨rfl, B1⟩
    have hbx := HB0.out.below B1
    have HBX := Lib.hid hbx
    have HD0 := Lib.hid ((B1.cell (p := ⟨w.heap.size + 1, 0, none⟩) (by rw [HSZ.out]; show w.heap.size + 1 < _; omega)).trans HA0.out)
    have HD1 := Lib.hid ((B1.cell (p := ⟨w.heap.size + 1, 1, none⟩) (by rw [HSZ.out]; show w.heap.size + 1 < _; omega)).trans HA1.out)
    have HBB1 := Lib.hid (HW.out.trans (B1.mono HW.out.size))
    have hs1 := B1.size
    rw [HSZ.out] at hs1
    obtain ⟨c0, c1, c2, c3, c4⟩ := hbx
    clear B1
    go_wp2_with fail
    refine (HF.out _ _ (items_one (by exact box5_alloc w1 x))).mono ?_
    rintro e w2 ⟨rfl, B2⟩
    have HBB2 := Lib.hid ((below_al (o := .cells #[.int .i64 x.k, .int .i64 x.z, .int .i64 x.n, .string x.s, .slice x.la x.ll x.lc] 31) HBB1.out).trans (B2.mono (below_al HBB1.out).size))
    have b12 := (below_al (o := .cells #[.int .i64 x.k, .int .i64 x.z, .int .i64 x.n, .string x.s, .slice x.la x.ll x.lc] 31) (Below.refl w1.heap.size w1)).trans (B2.mono (below_al (Below.refl _ _)).size)
    have HBX2 := Lib.hid (HBX.out.below b12)
    have d0 := (b12.cell (p := ⟨w.heap.size + 1, 0, none⟩) (by show w.heap.size + 1 < _; omega)).trans HD0.out
    have d1 := (b12.cell (p := ⟨w.heap.size + 1, 1, none⟩) (by show w.heap.size + 1 < _; omega)).trans HD1.out
    have hs2 := b12.size
    clear c0 c1 c2 c3 c4 B2 b12
  · go_wp2
    go_ret
    exact ⟨rfl, HBB2.out⟩
  · go_wp2_with fail
    refine (HRN.out _).mono ?_
    rintro e w3 ⟨rfl, B3⟩
    have HBB3 := Lib.hid (HBB2.out.trans (B3.mono HBB2.out.size))
    have hbx3 := (HBX2.out.below B3).below ((Below.refl _ _).alloc (Nat.le_refl _) (.cells #[.int .i64 0, .int .i64 0, .int .i64 0, .string ⟨#[]⟩, .slice none 0 0] 31))
    have HY := Lib.hid (box5_alloc w3 zIt)
    obtain ⟨c0, c1, c2, c3, c4⟩ := hbx3
    clear B3 d0 d1
    go_wp2_with fail
    refine (HWN.out _).mono ?_
    rintro e w4 ⟨rfl, B4⟩
    have HBB4 := Lib.hid ((below_al (o := .cells #[.int .i64 0, .int .i64 0, .int .i64 0, .string ⟨#[]⟩, .slice none 0 0] 31) HBB3.out).trans (B4.mono (below_al HBB3.out).size))
    have hy4 := HY.out.below B4
    obtain ⟨y0, y1, y2, y3, y4⟩ := hy4
    unfold zIt at y0 y1 y2 y3 y4
    simp only at y0 y1 y2 y3 y4
    clear c0 c1 c2 c3 c4 B4
    go_wp2_with fail
    refine (nText _).mono ?_
    rintro e w5 ⟨rfl, rfl⟩
    go_wp2_with fail
    refine (nLen _).mono ?_
    rintro e w5 ⟨rfl, rfl⟩
    go_wp2_with fail
    refine (HSM.out _).mono ?_
    rintro e w5 ⟨rfl, B5⟩
    have HBB5 := Lib.hid (HBB4.out.trans (B5.mono HBB4.out.size))
    clear B5 y0 y1 y2 y3 y4
    go_wp2_with fail
    refine (nEnd _).mono ?_
    rintro e w6 ⟨rfl, rfl⟩
    go_wp2_with fail
    refine (nErr _).mono ?_
    rintro e w6 ⟨rfl, rfl⟩
    go_wp2_with fail
    refine (nAt _).mono ?_
    rintro e w6 ⟨rfl, rfl⟩
    go_wp2_with fail
    refine (nLeft _).mono ?_
    rintro e w6 ⟨rfl, rfl⟩
    go_wp2
    go_ret
    exact ⟨rfl, HBB5.out⟩

set_option maxRecDepth 100000 in
theorem lifted (os : Os) (started : os.Started) (H : Type) (enc : TypeId × Value → H) :
    ReturnsInHanded {} Tryd.checked os 9 .any (fun w args => (Rows.wireNilSpec.pre enc Tryd.prog Tryd.f9 [] false w args ∧ laidMetH Tryd.prog laid1 w) ∧ sizedMet enc Tryd.prog Tryd.f9 (OpenSpec.ofChange Rows.wireNilSpec) false w args)
      (Rows.wireNilSpec.post enc Tryd.prog Tryd.f9 false true false false) := by
  refine returnsInHanded_of_change_and (C := Tryd.checked) (X := fun w _ => laidMetH Tryd.prog laid1 w) (fun _ _ _ hh h => h.of_heap hh) own started (by kernel_rfl) Tryd.func9
    (ChangeSpec.witness_shaped (enc := enc) (C := Tryd.checked) (os := os) (X := fun w _ => laidMetH Tryd.prog laid1 w) false (World.doorLaid Tryd.prog 400 os) #[.agg #[.int .i64 0, .int .i64 0, .int .i64 0, .string ByteArray.empty, .slice none 0 0], .agg #[.int .i64 0, .int .i64 0]] 8 rfl (World.shaped_of_RefB (by kernel_rfl) (by kernel_rfl)) (by kernel_rfl) (by kernel_rfl) (by kernel_rfl) (door_met os _)) ?_
  intro W base args ds gs before hval0 hW _ _ hL _
  have hval : ∀ (j : Nat) t v, Tryd.f9.params[j]? = some t → args[j]? = some v → Value.okWide Tryd.prog W .any base t v := hval0
  have hW' := hW
  obtain ⟨p, q, hA0, hV, rfl, hfz, hnd⟩ := hW
  have hA : DataW.TrodAll enc Tryd.prog W 0 (fun _ => true) true Tryd.f9.params.toList args.toList ds p := hA0
  rw [Tryd.params9] at hA hval
  obtain ⟨v0, vs0, d0, ds0, p0, q0, hargs, rfl, rfl, h0, r0⟩ := trodAll_cons hA
  obtain ⟨v1, vs1, d1, ds1, p1, q1, rfl, rfl, rfl, h1, r1⟩ := trodAll_cons r0
  obtain ⟨rfl, rfl, rfl⟩ := trodAll_nil r1
  obtain rfl : args = #[v0, v1] := by cases args; simp_all
  obtain ⟨rfl, rfl⟩ := trodVars_none hV
  have k0 := h0
  have lt0 : ∀ x ∈ p0, x.block < W.heap.size := by obtain ⟨m, hm⟩ := k0; exact DataW.trod_lt m _ _ _ hm
  obtain ⟨x0, l0, rfl, hb0, wf0⟩ := open_item_val (hval 0 31 v0 rfl rfl) h0
  have k1 := h1
  have lt1 : ∀ x ∈ p1, x.block < W.heap.size := by obtain ⟨m, hm⟩ := k1; exact DataW.trod_lt m _ _ _ hm
  obtain ⟨k_1, n_1, rfl⟩ := open_ask_val (hval 1 42 v1 rfl rfl) h1
  clear hA0 hval0
  have ht := of_laid hL
  refine (walk x0 k_1 n_1 W ht).mono fun e W' ⟨he, bel⟩ => ?_
  subst he
  exact ⟨_, rfl, _, _, _, [], _, [], hW', trodAll_mk1 (shut_bool Tryd.underlying4 _), (trodAll_cons_mk (Below.trod laidOut (by kernel_rfl) (of_decide_eq_true (by kernel_rfl)) k0 bel lt0) (trodAll_cons_mk (Below.trod laidOut (by kernel_rfl) (of_decide_eq_true (by kernel_rfl)) k1 bel lt1) trodAll_mk0)), rfl, bel.frame _, fun h => by cases h⟩

theorem over : Rows.wireNilRow.holds Tryd.pinned (OpenSpec.ofChange Rows.wireNilSpec) :=
  OpenClaim.holds_of_wide 9 Tryd.f9 rfl rfl rfl rfl rfl rfl rfl ⟨rfl, rfl, rfl, rfl, rfl⟩ rfl rfl rfl rfl rfl (by kernel_rfl) Tryd.func9 (by kernel_rfl)
    (of_decide_eq_true (by kernel_rfl)) (by unfold Func.isWrapper; first | (rw [if_pos (by decide +kernel)]; kernel_rfl) | (rw [if_neg (by decide +kernel)]; exact ⟨rfl, rfl⟩))
    (fun os started H enc _ => lifted os started H enc)

theorem card_holds : Rows.WireNilCardSaid :=
  Claim7.holds_tied_plain_at .later [] [.data] true (true, "1e96a78fc00194934d42a12a0dbef2585bede4f87d841dcadeaee66c04a8f023") false
    over (fun _ h => by cases h) (by kernel_rfl) (fun _ h => by cases h) wireNil_row_tie rfl ⟨rfl, rfl⟩ (by kernel_rfl) rfl
    (fun f fn hf hfn => by
      obtain rfl : f = 9 := Option.some.inj ((show Tryd.prog.funcNamed "acheron/acheronlaw02.WireNil" = some 9 by kernel_rfl).symm.trans hf) |>.symm
      obtain rfl : fn = Tryd.f9 := (Option.some.inj (Tryd.func9.symm.trans hfn)).symm
      exact ⟨by kernel_rfl, fun j t ht => by
        rw [Tryd.params9] at ht
        have hm : t ∈ [31, 42] := by have := Array.mem_of_getElem? ht; simp at this ⊢; omega
        have hall : ([31, 42].all fun u => !Tryd.prog.wantsStandIn u) = true := by kernel_rfl
        exact (show Tryd.prog.wantsStandIn t = false by simpa using List.all_eq_true.1 hall t hm)⟩)
    (by kernel_rfl)
end Go.Proofs.YticegfbipdjpfaaDoor.wireNil

