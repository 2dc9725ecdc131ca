/-
  number.Text of the real 150.
-/
import Derived.Test.YtpgfogfejemojaaGreatDoorParseF
import Derived.Test.YtpgfogfejemojaaGreatDoorWrapA
set_option linter.unusedVariables false
namespace Go.Proofs.YtpgfogfejemojaaGreatDoor
open Go.RowKit Go.Sort Go.Lib

theorem below_bytes (w : World) (T : TypeId) (s : ByteArray) : Below w.heap.size w (Lib.bytesWorld w T s) := ⟨rfl, rfl, rfl, by rw [Lib.bytesWorld_size]; omega, fun j hj => Lib.bytesWorld_at_old w _ s j hj⟩
theorem cut150 : Lib.cut [49, 46, 53, 101, 43, 48, 50] [101] = ([49, 46, 53], [43, 48, 50], true) := by decide +kernel
theorem atoi150 : Lib.atoi [43, 48, 50] = some 2 := by decide +kernel
theorem repl150 : Lib.replace [49, 46, 53] [46] [] 1 = [49, 53] := by decide +kernel
theorem trim150 : Lib.trimRightB [49, 53] 48 = [49, 53] := by decide +kernel

set_option maxHeartbeats 1000000 in
set_option maxRecDepth 100000 in
theorem fewest150 (w : World) (ht : TabN w) : Calls Tryz.prog 118 #[.float .f64 4639481672377565184] w fun e w' => e = .returned (.tuple #[.string ⟨#[49, 53]⟩, .int .i64 2]) ∧ Below w.heap.size w w' := by
  have HT := Lib.hid ht
  clear ht
  have f1 : (FloatKind.f64.format.order 4641240890982006784 4639481672377565184 == some Ordering.eq) = false := by decide +kernel
  have f2 : (FloatKind.f64.format.order 4639481672377565184 4639481672377565184 == some Ordering.eq) = true := by decide +kernel
  go_enter Tryz.func118, Tryz.ntmps118
  go_wp2_with fail
  refine wp_loop_rounds 2 ?_
  rw [rounds_succ]
  go_wp2_with fail
  refine (fmtF0 _ HT.out).mono ?_
  rintro e w1 ⟨rfl, hb⟩
  have HT1 := Lib.hid (HT.out.below hb)
  have HB1 := Lib.hid hb
  clear hb
  go_wp2_with fail
  refine (parseF0 _ HT1.out).mono ?_
  rintro e w2 ⟨rfl, rfl⟩
  go_wp2_with fail
  rw [rounds_succ]
  go_wp2_with fail
  refine (fmtF1 _ HT1.out).mono ?_
  rintro e w2 ⟨rfl, hb⟩
  have HT2 := Lib.hid (HT1.out.below hb)
  have HB2 := Lib.hid (HB1.out.trans (hb.mono HB1.out.size))
  clear hb
  go_wp2_with fail
  refine (parseF1 _ HT2.out).mono ?_
  rintro e w3 ⟨rfl, rfl⟩
  go_wp2_with fail
  obtain ⟨m, hm⟩ := HT2.out.ml
  have hc := Tryz.strings_Cut ⟨#[49, 46, 53, 101, 43, 48, 50]⟩ ⟨#[101]⟩ m _ (by decide) hm
  rw [show Lib.cut (⟨#[49, 46, 53, 101, 43, 48, 50]⟩ : ByteArray).data.toList (⟨#[101]⟩ : ByteArray).data.toList = ([49, 46, 53], [43, 48, 50], true) from cut150] at hc
  clear hm
  refine hc.mono ?_
  clear hc
  rintro e w3 ⟨rfl, n, hw3⟩
  have HT3 := Lib.hid (HT2.out.below (hw3 ▸ below_drewN (Below.refl _ _) n))
  have HB3 := Lib.hid (HB2.out.trans (hw3 ▸ below_drewN (Below.refl w.heap.size _) n))
  clear hw3
  go_wp2_with fail
  refine (Tryz.strconv_Atoi ⟨#[43, 48, 50]⟩ 2 (by decide) atoi150 _).mono ?_
  rintro e w4 ⟨rfl, n', hw4⟩
  have hb5 : Below w3.heap.size w3 w4 := by rw [hw4]; exact below_bytes _ _ _
  have HT4 := Lib.hid (HT3.out.below hb5)
  have HB4 := Lib.hid (HB3.out.trans (hb5.mono HB3.out.size))
  clear hw4 hb5
  go_wp2_with fail
  obtain ⟨m, hm⟩ := HT4.out.ml
  have hc := Tryz.strings_Replace ⟨#[49, 46, 53]⟩ ⟨#[46]⟩ ⟨#[]⟩ 1 m _ (by decide) hm (by decide) (by decide +kernel)
  rw [show Lib.replace (⟨#[49, 46, 53]⟩ : ByteArray).data.toList (⟨#[46]⟩ : ByteArray).data.toList (⟨#[]⟩ : ByteArray).data.toList 1 = [49, 53] from repl150] at hc
  clear hm
  refine hc.mono ?_
  clear hc
  rintro e w5 ⟨rfl, hb⟩
  have HB5 := Lib.hid (HB4.out.trans (hb.mono HB4.out.size))
  clear hb
  go_wp2_with fail
  have hc := Tryz.strings_TrimRight_one ⟨#[49, 53]⟩ 48 (by decide) w5 (by decide)
  rw [show Lib.trimRightB (⟨#[49, 53]⟩ : ByteArray).data.toList 48 = [49, 53] from trim150] at hc
  refine hc.mono ?_
  clear hc
  rintro e w6 ⟨rfl, rfl⟩
  go_wp2_with fail
  go_ret2
  exact ⟨rfl, HB5.out⟩

theorem isInf150 (w : World) : Calls Tryz.prog 117 #[.float .f64 4639481672377565184, .int .i64 1] w fun e w' => e = .returned (.bool false) ∧ w = w' := by
  have f1 : (FloatKind.f64.format.order 4639481672377565184 9218868437227405311 == some Ordering.gt) = false := by decide +kernel
  go_enter Tryz.func117, Tryz.ntmps117
  go_wp2
  go_ret
  exact ⟨rfl, rfl⟩
set_option maxRecDepth 100000 in
theorem without150 (w : World) : Calls Tryz.prog 120 #[.string ⟨#[49, 53]⟩, .int .i64 2] w fun e w' => e = .returned (.string ⟨#[49, 53, 48]⟩) ∧ Below w.heap.size w w' := by
  go_enter Tryz.func120, Tryz.ntmps120
  go_wp2_with fail
  refine (Tryz.strings_Repeat_one ⟨#[48]⟩ _).mono ?_
  rintro e w1 ⟨rfl, rfl⟩
  go_wp2_with fail
  go_ret
  exact ⟨rfl, Below.refl _ _⟩
set_option maxRecDepth 100000 in
theorem unsigned150 (w : World) (ht : TabN w) : Calls Tryz.prog 102 #[.float .f64 4639481672377565184] w fun e w' => e = .returned (.string ⟨#[49, 53, 48]⟩) ∧ Below w.heap.size w w' := by
  have HT := Lib.hid ht
  clear ht
  have f1 : (FloatKind.f64.format.order 4639481672377565184 0 == some Ordering.eq) = false := by decide +kernel
  go_enter Tryz.func102, Tryz.ntmps102
  go_wp2_with fail
  refine (isInf150 _).mono ?_
  rintro e w1 ⟨rfl, rfl⟩
  go_wp2_with fail
  refine (fewest150 _ HT.out).mono ?_
  rintro e w1 ⟨rfl, hb⟩
  have HB1 := Lib.hid hb
  clear hb
  go_wp2_with fail
  refine (without150 _).mono ?_
  rintro e w2 ⟨rfl, hb⟩
  have HB2 := Lib.hid (HB1.out.trans (hb.mono HB1.out.size))
  clear hb
  go_wp2_with fail
  go_ret
  exact ⟨rfl, HB2.out⟩
theorem bits150 : bitsN 4639481672377565184 = 4639481672377565184 := by decide +kernel
theorem nan150 : nanB 4639481672377565184 = false := by decide +kernel
theorem wr150 : wrR 4639481672377565184 = 4639481672377565184 := by decide +kernel
set_option maxRecDepth 100000 in
theorem signbit150 (w : World) : Calls Tryz.prog 101 #[.float .f64 4639481672377565184] w fun e w' => e = .returned (.bool false) ∧ w = w' := by
  have h1 := run_bits
  go_enter Tryz.func101, Tryz.ntmps101
  go_wp2
  go_ret
  exact ⟨rfl, rfl⟩
set_option maxRecDepth 100000 in
theorem realText150 (w : World) (ht : TabN w) : Calls Tryz.prog 90 #[.int .i64 4639481672377565184] w fun e w' => e = .returned (.string ⟨#[49, 53, 48]⟩) ∧ Below w.heap.size w w' := by
  have HT := Lib.hid ht
  clear ht
  have HR := Lib.hid (fun w => realOf_any 4639481672377565184 w)
  have HN := Lib.hid (fun w => isNaN_any 4639481672377565184 w)
  rw [bits150] at HR
  rw [nan150] at HN
  go_enter Tryz.func90, Tryz.ntmps90
  go_wp2_with fail
  refine (HR.out _).mono ?_
  rintro e w1 ⟨rfl, rfl⟩
  go_wp2_with fail
  refine (HN.out _).mono ?_
  rintro e w1 ⟨rfl, rfl⟩
  go_wp2_with fail
  refine (signbit150 _).mono ?_
  rintro e w1 ⟨rfl, rfl⟩
  go_wp2_with fail
  refine (unsigned150 _ HT.out).mono ?_
  rintro e w1 ⟨rfl, hb⟩
  have HB1 := Lib.hid hb
  clear hb
  go_wp2_with fail
  go_ret
  exact ⟨rfl, HB1.out⟩
end Go.Proofs.YtpgfogfejemojaaGreatDoor
