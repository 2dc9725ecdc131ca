/-
  The worked examples of the chapter that every statement asks first.
-/
import Derived.Test.YtpgfogfejemojaaGreatDoorText1
import Derived.Test.YtpgfogfejemojaaGreatDoorAr1
import Derived.Test.YtpgfogfejemojaaGreatDoorAr3
import Derived.Shelf.Strings.SlTrimAscii
set_option linter.unusedVariables false
namespace Go.Proofs.YtpgfogfejemojaaGreatDoor
open Go.RowKit Go.Sort Go.Lib

theorem trimSet_any (s c : ByteArray) (hc : c.size < 4294967281) (ha : ∀ (j : Nat) b, c.data.toList[j]? = some b → b.toNat < 128) (w : World) :
    Calls Tryz.prog 116 #[.string s, .string c] w fun e w' => e = .returned (.string ⟨(Lib.trimLeftS s.data.toList c.data.toList).toArray⟩) ∧ Below w.heap.size w w' :=
  Any.strings_TrimLeft_ascii Tryz.lays161 (fun w => by kernel_rfl) (by kernel_rfl) s c w hc ha
theorem below_of_drew {w w' : World} (h : Below w.drew.heap.size w.drew w') : Below w.heap.size w w' := (Below.refl w.heap.size w).drew.trans h
theorem ascii_of (l : List UInt8) (h : l.all (fun b => decide (b.toNat < 128)) = true) : ∀ (j : Nat) b, (⟨l.toArray⟩ : ByteArray).data.toList[j]? = some b → b.toNat < 128 := by
  intro j b hb
  have hm : b ∈ l := List.mem_of_getElem? (by simpa using hb)
  simpa using List.all_eq_true.1 h b hm
theorem skip12 (w : World) : Calls Tryz.prog 100 #[.string ⟨#[32, 32, 45, 49, 50, 97, 98]⟩] w fun e w' => e = .returned (.string ⟨#[45, 49, 50, 97, 98]⟩) ∧ Below w.heap.size w w' := by
  have HC := Lib.hid (fun w => trimSet_any ⟨#[32, 32, 45, 49, 50, 97, 98]⟩ ⟨#[32, 9]⟩ (by decide) (ascii_of [32, 9] (by decide)) w)
  rw [show Lib.trimLeftS (⟨#[32, 32, 45, 49, 50, 97, 98]⟩ : ByteArray).data.toList (⟨#[32, 9]⟩ : ByteArray).data.toList = [45, 49, 50, 97, 98] from by decide +kernel] at HC
  go_enter Tryz.func100, Tryz.ntmps100
  go_wp2_with fail
  refine (HC.out _).mono ?_
  rintro e w1 ⟨rfl, hb⟩
  have HB := Lib.hid hb
  clear hb
  go_wp2_with fail
  go_ret
  exact ⟨rfl, HB.out⟩
theorem cutD12 (w : World) : Calls Tryz.prog 114 #[.string ⟨#[49, 50, 97, 98]⟩] w fun e w' => e = .returned (.tuple #[.string ⟨#[49, 50]⟩, .string ⟨#[97, 98]⟩]) ∧ Below w.heap.size w w' := by
  have HC := Lib.hid (fun w => trimSet_any ⟨#[49, 50, 97, 98]⟩ ⟨#[48, 49, 50, 51, 52, 53, 54, 55, 56, 57]⟩ (by decide) (ascii_of [48, 49, 50, 51, 52, 53, 54, 55, 56, 57] (by decide)) w)
  rw [show Lib.trimLeftS (⟨#[49, 50, 97, 98]⟩ : ByteArray).data.toList (⟨#[48, 49, 50, 51, 52, 53, 54, 55, 56, 57]⟩ : ByteArray).data.toList = [97, 98] from by decide +kernel] at HC
  go_enter Tryz.func114, Tryz.ntmps114
  go_wp2_with fail
  refine (HC.out _).mono ?_
  rintro e w1 ⟨rfl, hb⟩
  have HB := Lib.hid hb
  clear hb
  go_wp2_with fail
  go_ret2
  exact ⟨rfl, HB.out⟩
theorem cutS12 (w : World) : Calls Tryz.prog 104 #[.string ⟨#[45, 49, 50, 97, 98]⟩] w fun e w' => e = .returned (.tuple #[.string ⟨#[45]⟩, .string ⟨#[49, 50, 97, 98]⟩]) ∧ Below w.heap.size w w' := by
  have H1 := Lib.hid (fun w => Tryz.strings_HasPrefix ⟨#[45, 49, 50, 97, 98]⟩ ⟨#[43]⟩ w)
  have H2 := Lib.hid (fun w => Tryz.strings_HasPrefix ⟨#[45, 49, 50, 97, 98]⟩ ⟨#[45]⟩ w)
  rw [show Lib.hasPrefix (⟨#[45, 49, 50, 97, 98]⟩ : ByteArray).data.toList (⟨#[43]⟩ : ByteArray).data.toList = false from by decide +kernel] at H1
  rw [show Lib.hasPrefix (⟨#[45, 49, 50, 97, 98]⟩ : ByteArray).data.toList (⟨#[45]⟩ : ByteArray).data.toList = true from by decide +kernel] at H2
  go_enter Tryz.func104, Tryz.ntmps104
  go_wp2_with fail
  refine (H1.out _).mono ?_
  rintro e w1 ⟨rfl, rfl⟩
  go_wp2_with fail
  refine (H2.out _).mono ?_
  rintro e w2 ⟨rfl, rfl⟩
  go_wp2_with fail
  go_quiet (fail)
  go_wp2
  go_ret2
  exact ⟨rfl, below_drewN (Below.refl _ _) _⟩
set_option maxRecDepth 100000 in
theorem leading12 (w : World) : Calls Tryz.prog 99 #[.string ⟨#[45, 49, 50, 97, 98]⟩, .int .i64 32] w fun e w' => e = .returned (.int .i64 (-12)) ∧ Below w.heap.size w w' := by
  have HP := Lib.hid (fun w => Tryz.strconv_ParseInt_10_at32_ok ⟨#[45, 49, 50]⟩ (by decide) (-12) (by decide +kernel) w)
  go_enter Tryz.func99, Tryz.ntmps99
  go_wp2_with fail
  refine (cutS12 _).mono ?_
  rintro e w1 ⟨rfl, hb⟩
  have HB1 := Lib.hid hb
  clear hb
  go_wp2_with fail
  refine (cutD12 _).mono ?_
  rintro e w2 ⟨rfl, hb⟩
  have HB2 := Lib.hid (HB1.out.trans (hb.mono HB1.out.size))
  clear hb
  go_wp2_with fail
  refine (HP.out _).mono ?_
  rintro e w3 ⟨rfl, hw⟩
  have HB3 : Hid (Below w.heap.size w w3) := Lib.hid (by
    rcases hw with rfl | ⟨t, rfl⟩
    · exact HB2.out
    · exact HB2.out.trans ((below_bytes _ _ _).mono HB2.out.size))
  clear hw
  go_wp2_with fail
  go_ret
  exact ⟨rfl, HB3.out⟩
theorem parseI12 (w : World) : Calls Tryz.prog 76 #[.string ⟨#[32, 32, 45, 49, 50, 97, 98]⟩, .int .i64 32] w fun e w' => e = .returned (.int .i64 (-12)) ∧ Below w.heap.size w w' := by
  go_enter Tryz.func76, Tryz.ntmps76
  go_wp2_with fail
  refine (skip12 _).mono ?_
  rintro e w1 ⟨rfl, hb⟩
  have HB1 := Lib.hid hb
  clear hb
  go_wp2_with fail
  refine (leading12 _).mono ?_
  rintro e w2 ⟨rfl, hb⟩
  have HB2 := Lib.hid (HB1.out.trans (hb.mono HB1.out.size))
  clear hb
  go_wp2_with fail
  go_ret
  exact ⟨rfl, HB2.out⟩
set_option maxHeartbeats 1000000 in
set_option maxRecDepth 100000 in
theorem parse12 (w : World) : Calls Tryz.prog 32 #[.int .i64 2, .string ⟨#[32, 32, 45, 49, 50, 97, 98]⟩] w fun e w' => e = .returned (.tuple #[.int .i64 (-12), .int .i64 0]) ∧ Below w.heap.size w w' := by
  have HT := Lib.hid (table_yes 2 (by decide) (by decide) w)
  have HW := Lib.hid (fun w => wrap2_any (-12) w)
  rw [show wrap32 (-12) = -12 from by decide +kernel] at HW
  go_enter Tryz.func32, Tryz.ntmps32
  go_wp2_with fail
  refine HT.out.mono ?_
  rintro e w1 ⟨rfl, hb⟩
  have HB := Lib.hid hb
  clear hb
  have HK := Lib.hid (setRow_heap _ _ _ (tabV 2) _ _ (heap_top w1 (.cells #[.int .i64 0, .int .i64 0, .nilFunc, .nilFunc, .nilFunc, .nilFunc, .nilFunc, .nilFunc, .nilFunc, .nilFunc, .nilFunc, .nilFunc, .nilFunc, .nilFunc, .nilFunc, .nilFunc, .nilFunc, .nilFunc, .nilFunc, .nilFunc, .nilFunc] 62)))
  have hc2 : _ = some (Value.func (.func 77) #[] #[]) := (cell_of_row _ _ 2 _ _ _ HK.out).trans rfl
  have hc20 : _ = some (Value.func (.func 76) #[] #[]) := (cell_of_row _ _ 20 _ _ _ HK.out).trans rfl
  have hc1 : _ = some (Value.int .i64 32) := (cell_of_row _ _ 1 _ _ _ HK.out).trans rfl
  unfold tblV
  have HB1 := Lib.hid (below_setRow (HB.out.alloc HB.out.size (.cells #[.int .i64 0, .int .i64 0, .nilFunc, .nilFunc, .nilFunc, .nilFunc, .nilFunc, .nilFunc, .nilFunc, .nilFunc, .nilFunc, .nilFunc, .nilFunc, .nilFunc, .nilFunc, .nilFunc, .nilFunc, .nilFunc, .nilFunc, .nilFunc, .nilFunc] 62)) HB.out.size (tabV 2))
  go_wp2_with (first | (refine wpList_store_row rfl 62 _ _ rfl w1.heap.size (tabV 2) rfl rfl 62 zero21 ?z1 ?z2 ?z3 ?z4 ?_; (case z1 => exact heap_top _ _); (case z2 => rw [tabV_size]; exact info62); (case z3 => rw [tabV_size]; rfl); (case z4 => exact tabV_one 2)))
  obtain ⟨w2, hw2⟩ : ∃ w2, w2 = ((w1.alloc (.cells #[.int .i64 0, .int .i64 0, .nilFunc, .nilFunc, .nilFunc, .nilFunc, .nilFunc, .nilFunc, .nilFunc, .nilFunc, .nilFunc, .nilFunc, .nilFunc, .nilFunc, .nilFunc, .nilFunc, .nilFunc, .nilFunc, .nilFunc, .nilFunc, .nilFunc] 62)).setRow w1.heap.size (tabV 2)) := ⟨_, rfl⟩
  rw [← hw2] at hc1 hc2 hc20 HB1 ⊢
  clear hw2 HK
  go_region_with (first
    | (go_at_call 76; refine (parseI12 _).mono ?_; rintro e w3 ⟨rfl, hb3⟩; have hd2 : w3.cell? ⟨w1.heap.size, 2, none⟩ = some (Value.func (.func 77) #[] #[]) := cell_keep (by first | exact hb3 | exact below_of_drew hb3) hc2)
    | (go_at_call 77; refine (HW.out _).mono ?_; rintro e w4 ⟨rfl, rfl⟩))
  all_goals (go_wp2_with fail)
  all_goals go_ret2
  all_goals first | exact ⟨rfl, HB1.out.trans (hb3.mono HB1.out.size)⟩ | exact ⟨rfl, HB1.out.drew.trans (hb3.mono HB1.out.size)⟩ | exact ⟨rfl, below_drewN (HB1.out.trans (hb3.mono HB1.out.size)) 1⟩ | exact ⟨rfl, below_drewN (HB1.out.drew.trans (hb3.mono HB1.out.size)) 1⟩
set_option maxHeartbeats 1000000 in
set_option maxRecDepth 100000 in
theorem text150 (w : World) (ht : TabN w) : Calls Tryz.prog 30 #[.int .i64 4, .int .i64 4639481672377565184] w fun e w' => e = .returned (.tuple #[.string ⟨#[49, 53, 48]⟩, .int .i64 0]) ∧ Below w.heap.size w w' := by
  have HN := Lib.hid ht
  clear ht
  have HT := Lib.hid (table_yes 4 (by decide) (by decide) w)
  have HW := Lib.hid (fun w => wrap4_any 4639481672377565184 w)
  rw [wr150] at HW
  go_enter Tryz.func30, Tryz.ntmps30
  go_wp2_with fail
  refine HT.out.mono ?_
  rintro e w1 ⟨rfl, hb⟩
  have HB := Lib.hid hb
  clear hb
  have HK := Lib.hid (setRow_heap _ _ _ (tabV 4) _ _ (heap_top w1 (.cells #[.int .i64 0, .int .i64 0, .nilFunc, .nilFunc, .nilFunc, .nilFunc, .nilFunc, .nilFunc, .nilFunc, .nilFunc, .nilFunc, .nilFunc, .nilFunc, .nilFunc, .nilFunc, .nilFunc, .nilFunc, .nilFunc, .nilFunc, .nilFunc, .nilFunc] 62)))
  have hc2 : _ = some (Value.func (.func 79) #[] #[]) := (cell_of_row _ _ 2 _ _ _ HK.out).trans rfl
  have hc19 : _ = some (Value.func (.func 90) #[] #[]) := (cell_of_row _ _ 19 _ _ _ HK.out).trans rfl
  unfold tblV
  have HB1 := Lib.hid (below_setRow (HB.out.alloc HB.out.size (.cells #[.int .i64 0, .int .i64 0, .nilFunc, .nilFunc, .nilFunc, .nilFunc, .nilFunc, .nilFunc, .nilFunc, .nilFunc, .nilFunc, .nilFunc, .nilFunc, .nilFunc, .nilFunc, .nilFunc, .nilFunc, .nilFunc, .nilFunc, .nilFunc, .nilFunc] 62)) HB.out.size (tabV 4))
  go_wp2_with (first | (refine wpList_store_row rfl 62 _ _ rfl w1.heap.size (tabV 4) rfl rfl 62 zero21 ?z1 ?z2 ?z3 ?z4 ?_; (case z1 => exact heap_top _ _); (case z2 => rw [tabV_size]; exact info62); (case z3 => rw [tabV_size]; rfl); (case z4 => exact tabV_one 4)))
  obtain ⟨w2, hw2⟩ : ∃ w2, w2 = ((w1.alloc (.cells #[.int .i64 0, .int .i64 0, .nilFunc, .nilFunc, .nilFunc, .nilFunc, .nilFunc, .nilFunc, .nilFunc, .nilFunc, .nilFunc, .nilFunc, .nilFunc, .nilFunc, .nilFunc, .nilFunc, .nilFunc, .nilFunc, .nilFunc, .nilFunc, .nilFunc] 62)).setRow w1.heap.size (tabV 4)) := ⟨_, rfl⟩
  rw [← hw2] at hc2 hc19 HB1 ⊢
  clear hw2 HK
  have HT2 := Lib.hid (HN.out.below HB1.out)
  have HT2d : Hid (TabN w2.drew) := Lib.hid (HT2.out.below (Below.refl _ _).drew)
  go_region_with (first
    | (go_at_call 90; refine (realText150 _ (by first | exact HT2d.out | exact HT2.out)).mono ?_; rintro e w3 ⟨rfl, hb3⟩)
    | (go_at_call 79; refine (HW.out _).mono ?_; rintro e w4 ⟨rfl, rfl⟩))
  all_goals (go_wp2_with fail)
  all_goals go_ret2
  all_goals first | exact ⟨rfl, HB1.out.trans (hb3.mono HB1.out.size)⟩ | exact ⟨rfl, HB1.out.drew.trans (hb3.mono HB1.out.size)⟩ | exact ⟨rfl, below_drewN (HB1.out.trans (hb3.mono HB1.out.size)) 1⟩ | exact ⟨rfl, below_drewN (HB1.out.drew.trans (hb3.mono HB1.out.size)) 1⟩

set_option maxHeartbeats 1000000 in
set_option maxRecDepth 100000 in
theorem awake_any (w : World) (ht : TabN w) : Calls Tryz.prog 16 #[] w fun e w' => e = .returned (.bool true) ∧ Below w.heap.size w w' := by
  have HN := Lib.hid ht
  clear ht
  have HA := Lib.hid (fun w => ar1_1 3 5 w)
  rw [show opI 1 (3 % 256) (5 % 256) % 256 = 254 from by decide +kernel] at HA
  go_enter Tryz.func16, Tryz.ntmps16
  go_wp2_with fail
  refine (HA.out _).mono ?_
  rintro e w1 ⟨rfl, hb⟩
  have HB1 := Lib.hid hb
  clear hb
  go_wp2_with fail
  refine (ar3_3z 1 _).mono ?_
  rintro e w2 ⟨rfl, hb⟩
  have HB2 := Lib.hid (HB1.out.trans (hb.mono HB1.out.size))
  clear hb
  go_wp2_with fail
  refine (text150 _ (HN.out.below HB2.out)).mono ?_
  rintro e w3 ⟨rfl, hb⟩
  have HB3 := Lib.hid (HB2.out.trans (hb.mono HB2.out.size))
  clear hb
  go_wp2_with fail
  refine (parse12 _).mono ?_
  rintro e w4 ⟨rfl, hb⟩
  have HB4 := Lib.hid (HB3.out.trans (hb.mono HB3.out.size))
  clear hb
  go_wp2_with fail
  go_ret
  exact ⟨rfl, HB4.out⟩
end Go.Proofs.YtpgfogfejemojaaGreatDoor
