/-
  acheronlaw02.awake.
-/
import Derived.Test.YtjjdfodjkoiedaaDoorRead3
set_option linter.unusedVariables false
namespace Go.Proofs.YtjjdfodjkoiedaaDoor
open Go.RowKit

theorem WAt.rstep {w w' : World} {wb B rb : Nat} {v : Value} {bs : List UInt8} (h : WAt w wb B v bs) (hs : RStep rb w w') (h1 : wb ≠ rb) (h2 : v.ownBlock ≠ some rb) : WAt w' wb B v bs := by
  refine ⟨h.hB, (hs.block _ h.lt h1).trans h.blk, ?_, h.ne⟩
  exact h.own.kept (row := some rb) ⟨hs.os, hs.tape, hs.output, hs.size, fun k hk hne => hs.block k hk (fun e => hne (by rw [e]))⟩ (.inr h2)

theorem bools_three (W : World) (a b c : Bool) (P : Nat → Prop) (hP : P W.heap.size) : BoolsAt P (W.alloc (.cells #[.bool a, .bool b, .bool c] 4)) (.slice (some ⟨W.heap.size, 0, none⟩) 3 3) [a, b, c] := by
  refine ⟨_, 3, rfl, .inr ⟨W.heap.size, 0, rfl, hP, by simp, fun j hj => ?_⟩⟩
  rw [World.cell?_alloc_at _ _ _ _ rfl]
  have hj' : j < 3 := hj
  rcases (by omega : j = 0 ∨ j = 1 ∨ j = 2) with rfl | rfl | rfl <;> rfl

theorem awake_bytes : (([] ++ encNum (-65)) ++ bitS [true, false, true]) ++ (sigS (-2) 2).2 = [191, 191, 3, 160, 254, 255] := by decide +kernel
theorem awake_sig : (sigS (-2) 2).1 = 0 := by decide +kernel
theorem awake_num : numR (rest ⟨#[128, 63]⟩ 0) = (0, 0, 2) := by decide +kernel

set_option maxHeartbeats 4000000 in
set_option maxRecDepth 100000 in
theorem awake_any (w : World) (ht : Tab w) :
    Calls Tryd.prog 10 #[] w fun e w' => e = .returned (.bool true) ∧ Below w.heap.size w w' := by
  have hpos := ht.pos
  have HNW := Lib.hid (newWriter_any w)
  have HT := Lib.hid ht
  clear ht
  go_enter Tryd.func10, Tryd.ntmps10
  go_wp2_with fail
  refine HNW.out.mono ?_
  rintro e w1 ⟨rfl, hb1, ha1⟩
  have ha1 := ha1 _ (Nat.le_refl _)
  have HN := Lib.hid (number_any w.heap.size w.heap.size _ [] (-65) (by decide) w1 ha1 (HT.out.below hb1 hpos))
  have HA1 := Lib.hid ha1
  clear ha1
  go_wp2_with fail
  refine HN.out.mono ?_
  rintro e w2 ⟨rfl, v2, ha2, st2⟩
  have hb2 := hb1.trans (st2.toBelow HA1.out)
  have hlt2 := ha2.lt
  have HBI := Lib.hid (bits_any w.heap.size w.heap.size v2 _ [true, false, true] (.slice (some ⟨w2.heap.size, 0, none⟩) 3 3) (by have := encNum_le (-65); simp; omega) (by decide) _ (ha2.below ((Below.refl _ _).alloc (Nat.le_refl _) (.cells #[.bool true, .bool false, .bool true] 4))) ((HT.out.below hb2 hpos).alloc _) hpos
    (bools_three w2 true false true _ ⟨by omega, fun e => by have := (ha2.row_lt _ e).2; omega⟩))
  have hb2' := hb2.alloc hb2.size (.cells #[.bool true, .bool false, .bool true] 4)
  have HB2 := Lib.hid hb2'
  have HA2 := Lib.hid (ha2.below ((Below.refl _ _).alloc (Nat.le_refl _) (.cells #[.bool true, .bool false, .bool true] 4)))
  clear hb2 hb2' ha2 st2 hb1
  go_wp2_with fail
  refine HBI.out.mono ?_
  rintro e w3 ⟨rfl, v3, ha3, st3⟩
  have HB3 := Lib.hid (HB2.out.trans (st3.toBelow HA2.out))
  have HS := Lib.hid (signedW_any w.heap.size w.heap.size v3 _ (-2) 2 (by have := encNum_le (-65); have := encNum_le 3; simp [bitS, bitsB_len]; omega) w3 ha3)
  have HA3 := Lib.hid ha3
  clear ha3 st3
  go_wp2_with fail
  refine HS.out.mono ?_
  rintro e w4 ⟨rfl, v4, ha4, st4⟩
  rw [awake_sig]
  rw [awake_bytes] at ha4
  have HB4 := Lib.hid (HB3.out.trans (st4.toBelow HA3.out))
  have HA4 := Lib.hid ha4
  have HNR := Lib.hid (newReader_any ⟨#[128, 63]⟩ w4)
  clear ha4 st4
  go_wp2_with fail
  refine HNR.out.mono ?_
  rintro e w5 ⟨rfl, hb5, hr5⟩
  have HB5 := Lib.hid (HB4.out.trans (hb5.mono HB4.out.size))
  have HA5 := Lib.hid (HA4.out.below hb5)
  have HR := Lib.hid ((rNumber w4.heap.size ⟨#[128, 63]⟩ 0 0 (by decide) w5 hr5 (HT.out.below HB5.out hpos)).mono (R' := fun en w' => en = .returned (.tuple #[.int .i64 0, .int .i64 2]) ∧ RStep w4.heap.size w5 w') (fun en w' ⟨he, _, hs⟩ => ⟨by rw [he, awake_num]; rfl, hs⟩))
  have hl45 := HB4.out.size
  clear hb5 hr5
  go_wp2_with fail
  refine HR.out.mono ?_
  rintro e w6 ⟨rfl, st6⟩
  have HB6 := Lib.hid (HB5.out.trans (st6.toBelow hl45 HB5.out.size))
  have ha6 := HA5.out.rstep st6 (by have := HA4.out.lt; omega) (fun e => by have := (HA4.out.row_lt _ e).2; omega)
  have HTX := Lib.hid (text_any _ _ _ _ w6 ha6)
  clear st6 ha6
  go_wp2_with fail
  refine HTX.out.mono ?_
  rintro e w7 ⟨rfl, rfl⟩
  go_wp2
  go_ret
  exact ⟨rfl, HB6.out⟩
end Go.Proofs.YtjjdfodjkoiedaaDoor
