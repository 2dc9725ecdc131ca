/-
  number.Convert of reals to integers.
-/
import Derived.Test.YtpgfogfejemojaaGreatDoorCv
import Derived.Test.YtpgfogfejemojaaGreatDoorFin
set_option linter.unusedVariables false
namespace Go.Proofs.YtpgfogfejemojaaGreatDoor
open Go.RowKit

theorem bitsN_lt2 (n : Int) : bitsN n < 18446744073709551616 := by
  unfold bitsN; rw [IntKind.wrap_u64]; omega
set_option maxRecDepth 100000 in
set_option maxHeartbeats 1000000 in
theorem cv4_1 (n : Int) (w : World) :
    Calls Tryz.prog 28 #[.int .i64 4, .int .i64 1, .int .i64 n] w fun e w' => e = .returned (.tuple #[.int .i64 ((nearI (-2147483648) 2147483647 (bitsN (wrR n))) % 256), .int .i64 0]) ∧ Below w.heap.size w w' := by
  have HT := Lib.hid (table_yes 4 (by decide) (by decide) w)
  have HT2 := Lib.hid (fun w => table_yes 1 (by decide) (by decide) w)
  go_enter Tryz.func28, Tryz.ntmps28
  go_wp2_with fail
  refine HT.out.mono ?_
  rintro e w1 ⟨rfl, hb⟩
  have HB := Lib.hid hb
  clear hb
  have HK := Lib.hid (setRow_heap _ _ _ (tabV 4) _ _ (heap_top w1 (.cells #[.int .i64 0, .int .i64 0, .nilFunc, .nilFunc, .nilFunc, .nilFunc, .nilFunc, .nilFunc, .nilFunc, .nilFunc, .nilFunc, .nilFunc, .nilFunc, .nilFunc, .nilFunc, .nilFunc, .nilFunc, .nilFunc, .nilFunc, .nilFunc, .nilFunc] 62)))
  unfold tblV
  go_wp2_with (first
    | (refine wpList_store_row rfl 62 _ _ rfl w1.heap.size (tabV 4) rfl rfl 62 zero21 ?z1 ?z2 ?z3 ?z4 ?_; (case z1 => exact heap_top _ _); (case z2 => rw [tabV_size]; exact info62); (case z3 => rw [tabV_size]; rfl); (case z4 => exact tabV_one 4)))
  refine (HT2.out _).mono ?_
  rintro e w2 ⟨rfl, hb2⟩
  have HS := Lib.hid (Nat.lt_of_lt_of_le (size_lt w1 (.cells #[.int .i64 0, .int .i64 0, .nilFunc, .nilFunc, .nilFunc, .nilFunc, .nilFunc, .nilFunc, .nilFunc, .nilFunc, .nilFunc, .nilFunc, .nilFunc, .nilFunc, .nilFunc, .nilFunc, .nilFunc, .nilFunc, .nilFunc, .nilFunc, .nilFunc] 62) (tabV 4)) hb2.size)
  have HB2 := Lib.hid ((below_setRow (HB.out.alloc HB.out.size (.cells #[.int .i64 0, .int .i64 0, .nilFunc, .nilFunc, .nilFunc, .nilFunc, .nilFunc, .nilFunc, .nilFunc, .nilFunc, .nilFunc, .nilFunc, .nilFunc, .nilFunc, .nilFunc, .nilFunc, .nilFunc, .nilFunc, .nilFunc, .nilFunc, .nilFunc] 62)) HB.out.size (tabV 4)).trans (hb2.mono (Nat.le_of_lt (Nat.lt_of_le_of_lt HB.out.size (size_lt w1 (.cells #[.int .i64 0, .int .i64 0, .nilFunc, .nilFunc, .nilFunc, .nilFunc, .nilFunc, .nilFunc, .nilFunc, .nilFunc, .nilFunc, .nilFunc, .nilFunc, .nilFunc, .nilFunc, .nilFunc, .nilFunc, .nilFunc, .nilFunc, .nilFunc, .nilFunc] 62) (tabV 4))))))
  have HR := Lib.hid ((setRow_other (w2.alloc (.cells #[.int .i64 0, .int .i64 0, .nilFunc, .nilFunc, .nilFunc, .nilFunc, .nilFunc, .nilFunc, .nilFunc, .nilFunc, .nilFunc, .nilFunc, .nilFunc, .nilFunc, .nilFunc, .nilFunc, .nilFunc, .nilFunc, .nilFunc, .nilFunc, .nilFunc] 62)) w2.heap.size w1.heap.size (tabV 1) (Nat.ne_of_lt HS.out)).trans ((Below.heap_alloc w2 (.cells #[.int .i64 0, .int .i64 0, .nilFunc, .nilFunc, .nilFunc, .nilFunc, .nilFunc, .nilFunc, .nilFunc, .nilFunc, .nilFunc, .nilFunc, .nilFunc, .nilFunc, .nilFunc, .nilFunc, .nilFunc, .nilFunc, .nilFunc, .nilFunc, .nilFunc] 62) w1.heap.size HS.out).trans ((hb2.block w1.heap.size (size_lt w1 (.cells #[.int .i64 0, .int .i64 0, .nilFunc, .nilFunc, .nilFunc, .nilFunc, .nilFunc, .nilFunc, .nilFunc, .nilFunc, .nilFunc, .nilFunc, .nilFunc, .nilFunc, .nilFunc, .nilFunc, .nilFunc, .nilFunc, .nilFunc, .nilFunc, .nilFunc] 62) (tabV 4))).trans HK.out)))
  have HK2 := Lib.hid (setRow_heap _ _ _ (tabV 1) _ _ (heap_top w2 (.cells #[.int .i64 0, .int .i64 0, .nilFunc, .nilFunc, .nilFunc, .nilFunc, .nilFunc, .nilFunc, .nilFunc, .nilFunc, .nilFunc, .nilFunc, .nilFunc, .nilFunc, .nilFunc, .nilFunc, .nilFunc, .nilFunc, .nilFunc, .nilFunc, .nilFunc] 62)))
  clear hb2
  have hcf2 : _ = some (Value.func (.func 79) #[] #[]) := (cell_of_row _ _ 2 _ _ _ HR.out).trans rfl
  have hct2 : _ = some (Value.func (.func 59) #[] #[]) := (cell_of_row _ _ 2 _ _ _ HK2.out).trans rfl
  have hcf17 : _ = some (Value.func (.func 81) #[] #[]) := (cell_of_row _ _ 17 _ _ _ HR.out).trans rfl
  have hct18 : _ = some (Value.func (.func 74) #[] #[]) := (cell_of_row _ _ 18 _ _ _ HK2.out).trans rfl
  have hct1 : _ = some (Value.int .i64 32) := (cell_of_row _ _ 1 _ _ _ HK2.out).trans rfl
  have HNI := Lib.hid (fun w => near32_any (bitsN (wrR n)) (bitsN_lt2 _) w)
  unfold tblV
  go_wp2_with (first
    | (refine wpList_store_row rfl 62 _ _ rfl w2.heap.size (tabV 1) rfl rfl 62 zero21 ?z1 ?z2 ?z3 ?z4 ?_; (case z1 => exact heap_top _ _); (case z2 => rw [tabV_size]; exact info62); (case z3 => rw [tabV_size]; rfl); (case z4 => exact tabV_one 1))
    | (go_at_call 79; refine (wrap4_any _ _).mono ?_; rintro e w' ⟨rfl, rfl⟩)
    | (go_at_call 59; refine (wrap1_any _ _).mono ?_; rintro e w' ⟨rfl, rfl⟩))
  go_quiet ((first | (go_at_call 81; exact Calls.quiet_of_same ((realOf_any _ _).mono fun _ _ h => ⟨h.1, h.2.symm⟩)) | (go_at_call 74; exact Calls.quiet_of_same ((HNI.out _).mono fun _ _ h => ⟨h.1, h.2.symm⟩))))
  go_wp2_with (go_at_call 59; refine (wrap1_any _ _).mono ?_; rintro e w' ⟨rfl, rfl⟩)
  go_ret2
  exact ⟨(by first | rfl | exact ret_tup (by omega)), below_drewN (below_setRow (HB2.out.alloc HB2.out.size _) HB2.out.size _) _⟩
set_option maxRecDepth 100000 in
set_option maxHeartbeats 1000000 in
theorem cv4_2 (n : Int) (w : World) :
    Calls Tryz.prog 28 #[.int .i64 4, .int .i64 2, .int .i64 n] w fun e w' => e = .returned (.tuple #[.int .i64 (wrap32 (nearI (-2147483648) 2147483647 (bitsN (wrR n)))), .int .i64 0]) ∧ Below w.heap.size w w' := by
  have HT := Lib.hid (table_yes 4 (by decide) (by decide) w)
  have HT2 := Lib.hid (fun w => table_yes 2 (by decide) (by decide) w)
  go_enter Tryz.func28, Tryz.ntmps28
  go_wp2_with fail
  refine HT.out.mono ?_
  rintro e w1 ⟨rfl, hb⟩
  have HB := Lib.hid hb
  clear hb
  have HK := Lib.hid (setRow_heap _ _ _ (tabV 4) _ _ (heap_top w1 (.cells #[.int .i64 0, .int .i64 0, .nilFunc, .nilFunc, .nilFunc, .nilFunc, .nilFunc, .nilFunc, .nilFunc, .nilFunc, .nilFunc, .nilFunc, .nilFunc, .nilFunc, .nilFunc, .nilFunc, .nilFunc, .nilFunc, .nilFunc, .nilFunc, .nilFunc] 62)))
  unfold tblV
  go_wp2_with (first
    | (refine wpList_store_row rfl 62 _ _ rfl w1.heap.size (tabV 4) rfl rfl 62 zero21 ?z1 ?z2 ?z3 ?z4 ?_; (case z1 => exact heap_top _ _); (case z2 => rw [tabV_size]; exact info62); (case z3 => rw [tabV_size]; rfl); (case z4 => exact tabV_one 4)))
  refine (HT2.out _).mono ?_
  rintro e w2 ⟨rfl, hb2⟩
  have HS := Lib.hid (Nat.lt_of_lt_of_le (size_lt w1 (.cells #[.int .i64 0, .int .i64 0, .nilFunc, .nilFunc, .nilFunc, .nilFunc, .nilFunc, .nilFunc, .nilFunc, .nilFunc, .nilFunc, .nilFunc, .nilFunc, .nilFunc, .nilFunc, .nilFunc, .nilFunc, .nilFunc, .nilFunc, .nilFunc, .nilFunc] 62) (tabV 4)) hb2.size)
  have HB2 := Lib.hid ((below_setRow (HB.out.alloc HB.out.size (.cells #[.int .i64 0, .int .i64 0, .nilFunc, .nilFunc, .nilFunc, .nilFunc, .nilFunc, .nilFunc, .nilFunc, .nilFunc, .nilFunc, .nilFunc, .nilFunc, .nilFunc, .nilFunc, .nilFunc, .nilFunc, .nilFunc, .nilFunc, .nilFunc, .nilFunc] 62)) HB.out.size (tabV 4)).trans (hb2.mono (Nat.le_of_lt (Nat.lt_of_le_of_lt HB.out.size (size_lt w1 (.cells #[.int .i64 0, .int .i64 0, .nilFunc, .nilFunc, .nilFunc, .nilFunc, .nilFunc, .nilFunc, .nilFunc, .nilFunc, .nilFunc, .nilFunc, .nilFunc, .nilFunc, .nilFunc, .nilFunc, .nilFunc, .nilFunc, .nilFunc, .nilFunc, .nilFunc] 62) (tabV 4))))))
  have HR := Lib.hid ((setRow_other (w2.alloc (.cells #[.int .i64 0, .int .i64 0, .nilFunc, .nilFunc, .nilFunc, .nilFunc, .nilFunc, .nilFunc, .nilFunc, .nilFunc, .nilFunc, .nilFunc, .nilFunc, .nilFunc, .nilFunc, .nilFunc, .nilFunc, .nilFunc, .nilFunc, .nilFunc, .nilFunc] 62)) w2.heap.size w1.heap.size (tabV 2) (Nat.ne_of_lt HS.out)).trans ((Below.heap_alloc w2 (.cells #[.int .i64 0, .int .i64 0, .nilFunc, .nilFunc, .nilFunc, .nilFunc, .nilFunc, .nilFunc, .nilFunc, .nilFunc, .nilFunc, .nilFunc, .nilFunc, .nilFunc, .nilFunc, .nilFunc, .nilFunc, .nilFunc, .nilFunc, .nilFunc, .nilFunc] 62) w1.heap.size HS.out).trans ((hb2.block w1.heap.size (size_lt w1 (.cells #[.int .i64 0, .int .i64 0, .nilFunc, .nilFunc, .nilFunc, .nilFunc, .nilFunc, .nilFunc, .nilFunc, .nilFunc, .nilFunc, .nilFunc, .nilFunc, .nilFunc, .nilFunc, .nilFunc, .nilFunc, .nilFunc, .nilFunc, .nilFunc, .nilFunc] 62) (tabV 4))).trans HK.out)))
  have HK2 := Lib.hid (setRow_heap _ _ _ (tabV 2) _ _ (heap_top w2 (.cells #[.int .i64 0, .int .i64 0, .nilFunc, .nilFunc, .nilFunc, .nilFunc, .nilFunc, .nilFunc, .nilFunc, .nilFunc, .nilFunc, .nilFunc, .nilFunc, .nilFunc, .nilFunc, .nilFunc, .nilFunc, .nilFunc, .nilFunc, .nilFunc, .nilFunc] 62)))
  clear hb2
  have hcf2 : _ = some (Value.func (.func 79) #[] #[]) := (cell_of_row _ _ 2 _ _ _ HR.out).trans rfl
  have hct2 : _ = some (Value.func (.func 77) #[] #[]) := (cell_of_row _ _ 2 _ _ _ HK2.out).trans rfl
  have hcf17 : _ = some (Value.func (.func 81) #[] #[]) := (cell_of_row _ _ 17 _ _ _ HR.out).trans rfl
  have hct18 : _ = some (Value.func (.func 74) #[] #[]) := (cell_of_row _ _ 18 _ _ _ HK2.out).trans rfl
  have hct1 : _ = some (Value.int .i64 32) := (cell_of_row _ _ 1 _ _ _ HK2.out).trans rfl
  have HNI := Lib.hid (fun w => near32_any (bitsN (wrR n)) (bitsN_lt2 _) w)
  unfold tblV
  go_wp2_with (first
    | (refine wpList_store_row rfl 62 _ _ rfl w2.heap.size (tabV 2) rfl rfl 62 zero21 ?z1 ?z2 ?z3 ?z4 ?_; (case z1 => exact heap_top _ _); (case z2 => rw [tabV_size]; exact info62); (case z3 => rw [tabV_size]; rfl); (case z4 => exact tabV_one 2))
    | (go_at_call 79; refine (wrap4_any _ _).mono ?_; rintro e w' ⟨rfl, rfl⟩)
    | (go_at_call 77; refine (wrap2_any _ _).mono ?_; rintro e w' ⟨rfl, rfl⟩))
  go_quiet ((first | (go_at_call 81; exact Calls.quiet_of_same ((realOf_any _ _).mono fun _ _ h => ⟨h.1, h.2.symm⟩)) | (go_at_call 74; exact Calls.quiet_of_same ((HNI.out _).mono fun _ _ h => ⟨h.1, h.2.symm⟩))))
  go_wp2_with (go_at_call 77; refine (wrap2_any _ _).mono ?_; rintro e w' ⟨rfl, rfl⟩)
  go_ret2
  exact ⟨(by first | rfl | exact ret_tup (by omega)), below_drewN (below_setRow (HB2.out.alloc HB2.out.size _) HB2.out.size _) _⟩
set_option maxRecDepth 100000 in
set_option maxHeartbeats 1000000 in
theorem cv4_3 (n : Int) (w : World) :
    Calls Tryz.prog 28 #[.int .i64 4, .int .i64 3, .int .i64 n] w fun e w' => e = .returned (.tuple #[.int .i64 (nearI (-9223372036854775808) 9223372036854775807 (bitsN (wrR n))), .int .i64 0]) ∧ Below w.heap.size w w' := by
  have HT := Lib.hid (table_yes 4 (by decide) (by decide) w)
  have HT2 := Lib.hid (fun w => table_yes 3 (by decide) (by decide) w)
  go_enter Tryz.func28, Tryz.ntmps28
  go_wp2_with fail
  refine HT.out.mono ?_
  rintro e w1 ⟨rfl, hb⟩
  have HB := Lib.hid hb
  clear hb
  have HK := Lib.hid (setRow_heap _ _ _ (tabV 4) _ _ (heap_top w1 (.cells #[.int .i64 0, .int .i64 0, .nilFunc, .nilFunc, .nilFunc, .nilFunc, .nilFunc, .nilFunc, .nilFunc, .nilFunc, .nilFunc, .nilFunc, .nilFunc, .nilFunc, .nilFunc, .nilFunc, .nilFunc, .nilFunc, .nilFunc, .nilFunc, .nilFunc] 62)))
  unfold tblV
  go_wp2_with (first
    | (refine wpList_store_row rfl 62 _ _ rfl w1.heap.size (tabV 4) rfl rfl 62 zero21 ?z1 ?z2 ?z3 ?z4 ?_; (case z1 => exact heap_top _ _); (case z2 => rw [tabV_size]; exact info62); (case z3 => rw [tabV_size]; rfl); (case z4 => exact tabV_one 4)))
  refine (HT2.out _).mono ?_
  rintro e w2 ⟨rfl, hb2⟩
  have HS := Lib.hid (Nat.lt_of_lt_of_le (size_lt w1 (.cells #[.int .i64 0, .int .i64 0, .nilFunc, .nilFunc, .nilFunc, .nilFunc, .nilFunc, .nilFunc, .nilFunc, .nilFunc, .nilFunc, .nilFunc, .nilFunc, .nilFunc, .nilFunc, .nilFunc, .nilFunc, .nilFunc, .nilFunc, .nilFunc, .nilFunc] 62) (tabV 4)) hb2.size)
  have HB2 := Lib.hid ((below_setRow (HB.out.alloc HB.out.size (.cells #[.int .i64 0, .int .i64 0, .nilFunc, .nilFunc, .nilFunc, .nilFunc, .nilFunc, .nilFunc, .nilFunc, .nilFunc, .nilFunc, .nilFunc, .nilFunc, .nilFunc, .nilFunc, .nilFunc, .nilFunc, .nilFunc, .nilFunc, .nilFunc, .nilFunc] 62)) HB.out.size (tabV 4)).trans (hb2.mono (Nat.le_of_lt (Nat.lt_of_le_of_lt HB.out.size (size_lt w1 (.cells #[.int .i64 0, .int .i64 0, .nilFunc, .nilFunc, .nilFunc, .nilFunc, .nilFunc, .nilFunc, .nilFunc, .nilFunc, .nilFunc, .nilFunc, .nilFunc, .nilFunc, .nilFunc, .nilFunc, .nilFunc, .nilFunc, .nilFunc, .nilFunc, .nilFunc] 62) (tabV 4))))))
  have HR := Lib.hid ((setRow_other (w2.alloc (.cells #[.int .i64 0, .int .i64 0, .nilFunc, .nilFunc, .nilFunc, .nilFunc, .nilFunc, .nilFunc, .nilFunc, .nilFunc, .nilFunc, .nilFunc, .nilFunc, .nilFunc, .nilFunc, .nilFunc, .nilFunc, .nilFunc, .nilFunc, .nilFunc, .nilFunc] 62)) w2.heap.size w1.heap.size (tabV 3) (Nat.ne_of_lt HS.out)).trans ((Below.heap_alloc w2 (.cells #[.int .i64 0, .int .i64 0, .nilFunc, .nilFunc, .nilFunc, .nilFunc, .nilFunc, .nilFunc, .nilFunc, .nilFunc, .nilFunc, .nilFunc, .nilFunc, .nilFunc, .nilFunc, .nilFunc, .nilFunc, .nilFunc, .nilFunc, .nilFunc, .nilFunc] 62) w1.heap.size HS.out).trans ((hb2.block w1.heap.size (size_lt w1 (.cells #[.int .i64 0, .int .i64 0, .nilFunc, .nilFunc, .nilFunc, .nilFunc, .nilFunc, .nilFunc, .nilFunc, .nilFunc, .nilFunc, .nilFunc, .nilFunc, .nilFunc, .nilFunc, .nilFunc, .nilFunc, .nilFunc, .nilFunc, .nilFunc, .nilFunc] 62) (tabV 4))).trans HK.out)))
  have HK2 := Lib.hid (setRow_heap _ _ _ (tabV 3) _ _ (heap_top w2 (.cells #[.int .i64 0, .int .i64 0, .nilFunc, .nilFunc, .nilFunc, .nilFunc, .nilFunc, .nilFunc, .nilFunc, .nilFunc, .nilFunc, .nilFunc, .nilFunc, .nilFunc, .nilFunc, .nilFunc, .nilFunc, .nilFunc, .nilFunc, .nilFunc, .nilFunc] 62)))
  clear hb2
  have hcf2 : _ = some (Value.func (.func 79) #[] #[]) := (cell_of_row _ _ 2 _ _ _ HR.out).trans rfl
  have hct2 : _ = some (Value.func (.func 78) #[] #[]) := (cell_of_row _ _ 2 _ _ _ HK2.out).trans rfl
  have hcf17 : _ = some (Value.func (.func 81) #[] #[]) := (cell_of_row _ _ 17 _ _ _ HR.out).trans rfl
  have hct18 : _ = some (Value.func (.func 74) #[] #[]) := (cell_of_row _ _ 18 _ _ _ HK2.out).trans rfl
  have hct1 : _ = some (Value.int .i64 64) := (cell_of_row _ _ 1 _ _ _ HK2.out).trans rfl
  have HNI := Lib.hid (fun w => near64_any (bitsN (wrR n)) (bitsN_lt2 _) w)
  unfold tblV
  go_wp2_with (first
    | (refine wpList_store_row rfl 62 _ _ rfl w2.heap.size (tabV 3) rfl rfl 62 zero21 ?z1 ?z2 ?z3 ?z4 ?_; (case z1 => exact heap_top _ _); (case z2 => rw [tabV_size]; exact info62); (case z3 => rw [tabV_size]; rfl); (case z4 => exact tabV_one 3))
    | (go_at_call 79; refine (wrap4_any _ _).mono ?_; rintro e w' ⟨rfl, rfl⟩)
    | (go_at_call 78; refine (wrap3_any _ _).mono ?_; rintro e w' ⟨rfl, rfl⟩))
  go_quiet ((first | (go_at_call 81; exact Calls.quiet_of_same ((realOf_any _ _).mono fun _ _ h => ⟨h.1, h.2.symm⟩)) | (go_at_call 74; exact Calls.quiet_of_same ((HNI.out _).mono fun _ _ h => ⟨h.1, h.2.symm⟩))))
  go_wp2_with (go_at_call 78; refine (wrap3_any _ _).mono ?_; rintro e w' ⟨rfl, rfl⟩)
  go_ret2
  exact ⟨(by first | rfl | exact ret_tup (by omega)), below_drewN (below_setRow (HB2.out.alloc HB2.out.size _) HB2.out.size _) _⟩
end Go.Proofs.YtpgfogfejemojaaGreatDoor
