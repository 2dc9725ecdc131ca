/-
  strconv.ParseInt of "1F" to the base 16.
-/
import Derived.Test.YtmielaonkkhmiaaGreatDoorNumA
import Derived.Shelf.Strings.SlTrimAscii
set_option linter.unusedVariables false
namespace Go.Proofs.YtmielaonkkhmiaaGreatDoor
open Go.RowKit

set_option maxRecDepth 100000 in
theorem lower_F (w : World) : Calls Tryz.prog 155 #[.int .u8 70] w fun e w' => e = .returned (.int .u8 102) ∧ w = w' := by
  have hb : bits .or .u8 70 32 = 102 := by decide +kernel
  go_enter Tryz.func155, Tryz.ntmps155
  go_wp2
  go_ret
  exact ⟨rfl, rfl⟩
set_option maxRecDepth 100000 in
set_option maxHeartbeats 1000000 in
theorem parseUint_1F (w : World) : Calls Tryz.prog 190 #[.string ⟨#[49, 70]⟩, .int .i64 16, .int .i64 64] w fun e w' => e = .returned (.tuple #[.int .u64 31, .nilIface]) ∧ Below w.heap.size w w' := by
  have hcv := Lib.run_convert_string_bytes (P := Tryz.prog) w 9 38 5 ⟨#[49, 70]⟩ Tryz.underlying9 Tryz.underlying38 Tryz.underlying5
  have hl : (⟨#[49, 70]⟩ : ByteArray).size = 2 := rfl
  rw [hl] at hcv
  have c0 : (Lib.bytesWorld w 5 ⟨#[49, 70]⟩).cell? ⟨w.heap.size, 0, none⟩ = some (.int .u8 49) := Lib.bytesWorld_cell w 5 ⟨#[49, 70]⟩ 0 (by decide)
  have c1 : (Lib.bytesWorld w 5 ⟨#[49, 70]⟩).cell? ⟨w.heap.size, 1, none⟩ = some (.int .u8 70) := Lib.bytesWorld_cell w 5 ⟨#[49, 70]⟩ 1 (by decide)
  have HB := Lib.hid (Lib.bytesWorld_below w 5 ⟨#[49, 70]⟩)
  generalize Lib.bytesWorld w 5 ⟨#[49, 70]⟩ = w1 at *
  generalize grownCap w 2 0 5 = cap at *
  have hw : IntKind.u64.wrap (IntKind.u64.wrap 18446744073709551616 - 1) = 18446744073709551615 := by decide +kernel
  go_enter Tryz.func190, Tryz.ntmps190
  go_wp2
  refine wp_loop_rounds 3 ?_
  rw [rounds_succ]
  go_wp2
  rw [rounds_succ]
  go_wp2_with (go_at_call 155; refine (lower_F _).mono ?_; rintro e w' ⟨rfl, rfl⟩)
  rw [rounds_succ]
  go_wp2
  go_ret2
  exact ⟨rfl, HB.out⟩
set_option maxRecDepth 100000 in
set_option maxHeartbeats 1000000 in
theorem parseInt_1Fi (w : World) : Calls Tryz.prog 175 #[.string ⟨#[49, 70]⟩, .int .i64 16, .int .i64 64] w fun e w' => e = .returned (.tuple #[.int .i64 31, .nilIface]) ∧ Below w.heap.size w w' := by
  go_enter Tryz.func175, Tryz.ntmps175
  go_wp2_with fail
  refine (parseUint_1F _).mono ?_
  rintro e w1 ⟨rfl, hb⟩
  have HB := Lib.hid hb
  clear hb
  go_wp2_with fail
  go_ret2
  exact ⟨rfl, HB.out⟩
set_option maxRecDepth 100000 in
theorem parseInt_1F (w : World) : Calls Tryz.prog 143 #[.string ⟨#[49, 70]⟩, .int .i64 16, .int .i64 64] w fun e w' => e = .returned (.tuple #[.int .i64 31, .nilIface]) ∧ Below w.heap.size w w' := by
  go_enter Tryz.func143, Tryz.ntmps143
  go_wp2_with fail
  refine (parseInt_1Fi _).mono ?_
  rintro e w1 ⟨rfl, hb⟩
  have HB := Lib.hid hb
  clear hb
  go_wp2_with fail
  go_ret2
  exact ⟨rfl, HB.out⟩
theorem atoi_16 (w : World) : Calls Tryz.prog 113 #[.string ⟨#[49, 54]⟩] w fun e w' => e = .returned (.tuple #[.int .i64 16, .nilIface]) ∧ Below w.heap.size w w' :=
  (Tryz.strconv_Atoi ⟨#[49, 54]⟩ 16 (by decide) (by decide +kernel) w).mono fun e w' ⟨he, t, ht⟩ => ⟨he, by rw [ht]; exact Lib.bytesWorld_below _ _ _⟩
set_option maxRecDepth 100000 in
set_option maxHeartbeats 2000000 in
theorem integerToken_1F (w : World) : Calls Tryz.prog 112 #[.string ⟨#[49, 70]⟩, .int .i64 16] w fun e w' => e = .returned (.tuple #[.agg #[.int .i64 4, .string ⟨#[]⟩, .int .i64 31, .int .i64 0], .int .i64 0]) ∧ Below w.heap.size w w' := by
  go_enter Tryz.func112, Tryz.ntmps112
  go_wp2
  have HG0 : Hid (((w.alloc (tokO (.int .i64 0) (.string ⟨#[]⟩) (.int .i64 0) (.int .i64 0))).iter ⟨#[49, 70]⟩ 0).heap[w.heap.size]? = some (tokO (.int .i64 0) (.string ⟨#[]⟩) (.int .i64 0) (.int .i64 0))) :=
    Lib.hid ((Below.heap_alloc (w.alloc (tokO (.int .i64 0) (.string ⟨#[]⟩) (.int .i64 0) (.int .i64 0))) (.stringIter ⟨#[49, 70]⟩ 0) w.heap.size (by simp)).trans (heap_top w _))
  have hit0 : ((w.alloc (tokO (.int .i64 0) (.string ⟨#[]⟩) (.int .i64 0) (.int .i64 0))).iter ⟨#[49, 70]⟩ 0).heap[w.heap.size + 1]? = some (.stringIter ⟨#[49, 70]⟩ 0) := by
    have := World.iter_heap (w.alloc (tokO (.int .i64 0) (.string ⟨#[]⟩) (.int .i64 0) (.int .i64 0))) ⟨#[49, 70]⟩ 0
    simpa using this
  have HB0 : Hid (Below w.heap.size w ((w.alloc (tokO (.int .i64 0) (.string ⟨#[]⟩) (.int .i64 0) (.int .i64 0))).iter ⟨#[49, 70]⟩ 0)) :=
    Lib.hid (((Below.refl w.heap.size w).alloc (Nat.le_refl _) _).alloc (by simp) _)
  have hW : (w.alloc (.cells #[.int .i64 0, .string ⟨#[]⟩, .int .i64 0, .int .i64 0] 34)).iter ⟨#[49, 70]⟩ 0 = (w.alloc (tokO (.int .i64 0) (.string ⟨#[]⟩) (.int .i64 0) (.int .i64 0))).iter ⟨#[49, 70]⟩ 0 := rfl
  rw [hW]
  clear hW
  generalize (w.alloc (tokO (.int .i64 0) (.string ⟨#[]⟩) (.int .i64 0) (.int .i64 0))).iter ⟨#[49, 70]⟩ 0 = W0 at *
  have hnx0 : ∀ ty, (Instr.next (.pointer (some ⟨w.heap.size + 1, 0, none⟩)) true ty).run Tryz.prog W0 = .ok (.tuple #[.bool true, .int .i64 0, .int .i32 49]) (W0.iterAt (w.heap.size + 1) ⟨#[49, 70]⟩ 1) := fun ty => Lib.run_next_ascii_at W0 (w.heap.size + 1) ⟨#[49, 70]⟩ 0 ty hit0 (by decide) (by decide)
  have hit1 := Lib.iterAt_heap W0 (w.heap.size + 1) ⟨#[49, 70]⟩ 0 1 hit0
  have HG1 := Lib.hid ((Lib.iterAt_other W0 (w.heap.size + 1) w.heap.size ⟨#[49, 70]⟩ 1 (by omega)).trans HG0.out)
  have HB1 := Lib.hid (Lib.below_iterAt HB0.out (k := w.heap.size + 1) (by omega) ⟨#[49, 70]⟩ 1)
  generalize W0.iterAt (w.heap.size + 1) ⟨#[49, 70]⟩ 1 = W1 at *
  have hnx1 : ∀ ty, (Instr.next (.pointer (some ⟨w.heap.size + 1, 0, none⟩)) true ty).run Tryz.prog W1 = .ok (.tuple #[.bool true, .int .i64 1, .int .i32 70]) (W1.iterAt (w.heap.size + 1) ⟨#[49, 70]⟩ 2) := fun ty => Lib.run_next_ascii_at W1 (w.heap.size + 1) ⟨#[49, 70]⟩ 1 ty hit1 (by decide) (by decide)
  have hit2 := Lib.iterAt_heap W1 (w.heap.size + 1) ⟨#[49, 70]⟩ 1 2 hit1
  have HG2 := Lib.hid ((Lib.iterAt_other W1 (w.heap.size + 1) w.heap.size ⟨#[49, 70]⟩ 2 (by omega)).trans HG1.out)
  have HB2 := Lib.hid (Lib.below_iterAt HB1.out (k := w.heap.size + 1) (by omega) ⟨#[49, 70]⟩ 2)
  generalize W1.iterAt (w.heap.size + 1) ⟨#[49, 70]⟩ 2 = W2 at *
  have hnx2 : ∀ ty, (Instr.next (.pointer (some ⟨w.heap.size + 1, 0, none⟩)) true ty).run Tryz.prog W2 = .ok (.tuple #[.bool false]) W2 := fun ty => Lib.run_next_end_at W2 (w.heap.size + 1) ⟨#[49, 70]⟩ 2 ty hit2 (by decide)
  clear hit0 hit1 hit2
  refine wp_loop_rounds 3 ?_
  rw [rounds_succ]
  go_wp2_with (go_at_call 142; refine (digitValue_1 _).mono ?_; rintro e w' ⟨rfl, rfl⟩)
  rw [rounds_succ]
  go_wp2_with (go_at_call 142; refine (digitValue_F _).mono ?_; rintro e w' ⟨rfl, rfl⟩)
  rw [rounds_succ]
  go_wp2_with fail
  refine (parseInt_1F _).mono ?_
  rintro e W3 ⟨rfl, hb⟩
  have hsz : w.heap.size < W2.heap.size := (Array.getElem?_eq_some_iff.1 HG2.out).1
  have HG3 := Lib.hid ((hb.block w.heap.size hsz).trans HG2.out)
  have HB3 := Lib.hid (HB2.out.trans (hb.mono (Nat.le_of_lt hsz)))
  clear hb hsz
  obtain ⟨k0, k1, k2, k3, kf⟩ := four_cells HG3.out
  go_wp2_with fail
  refine bodyPost_ret (v := .tuple #[.agg #[.int .i64 4, .string ⟨#[]⟩, .int .i64 31, .int .i64 0], .int .i64 0]) (results_cell_row2 Tryz.results112 _ _ w.heap.size 34 _ (0, 0) _ _ rfl rfl (four_stored _ _ _ _ HG3.out) Tryz.underlying34 rfl infoTok) rfl ⟨rfl, ?_⟩
  exact below_four HB3.out (Nat.le_refl _) _ _ _ _
theorem trimSet_any (s c : ByteArray) (hc : c.size < 4294967281) (ha : ∀ (j : Nat) b, c.data.toList[j]? = some b → b.toNat < 128) (w : World) :
    Calls Tryz.prog 111 #[.string s, .string c] w fun e w' => e = .returned (.string ⟨(Lib.trimLeftS s.data.toList c.data.toList).toArray⟩) ∧ Below w.heap.size w w' :=
  Any.strings_TrimLeft_ascii Tryz.lays161 (fun w => by kernel_rfl) (by kernel_rfl) s c w hc ha
theorem ascii_of (l : List UInt8) (h : l.all (fun b => decide (b.toNat < 128)) = true) : ∀ (j : Nat) b, (⟨l.toArray⟩ : ByteArray).data.toList[j]? = some b → b.toNat < 128 := by
  intro j b hb
  have hm : b ∈ l := List.mem_of_getElem? hb
  have := List.all_eq_true.1 h b hm
  simpa using this
theorem trim_16 (w : World) : Calls Tryz.prog 111 #[.string ⟨#[49, 54, 114, 49, 70]⟩, .string ⟨#[48, 49, 50, 51, 52, 53, 54, 55, 56, 57]⟩] w fun e w' => e = .returned (.string ⟨#[114, 49, 70]⟩) ∧ Below w.heap.size w w' := by
  have h := trimSet_any ⟨#[49, 54, 114, 49, 70]⟩ ⟨#[48, 49, 50, 51, 52, 53, 54, 55, 56, 57]⟩ (by decide) (ascii_of [48, 49, 50, 51, 52, 53, 54, 55, 56, 57] (by decide)) w
  rw [show (Lib.trimLeftS (⟨#[49, 54, 114, 49, 70]⟩ : ByteArray).data.toList (⟨#[48, 49, 50, 51, 52, 53, 54, 55, 56, 57]⟩ : ByteArray).data.toList) = [114, 49, 70] from by decide +kernel] at h
  exact h
set_option maxRecDepth 100000 in
set_option maxHeartbeats 2000000 in
theorem numberToken_16 (w : World) : Calls Tryz.prog 97 #[.string ⟨#[49, 54, 114, 49, 70]⟩] w fun e w' => e = .returned (.tuple #[.agg #[.int .i64 4, .string ⟨#[]⟩, .int .i64 31, .int .i64 0], .int .i64 0]) ∧ Below w.heap.size w w' := by
  have HA := Lib.hid (((Below.refl w.heap.size w).alloc (Nat.le_refl _) (tokO (.int .i64 0) (.string ⟨#[]⟩) (.int .i64 0) (.int .i64 0))))
  have HG := Lib.hid (heap_top w (tokO (.int .i64 0) (.string ⟨#[]⟩) (.int .i64 0) (.int .i64 0)))
  go_enter Tryz.func97, Tryz.ntmps97
  go_wp2_with fail
  refine (trim_16 _).mono ?_
  rintro e w1 ⟨rfl, hb⟩
  have HB1 := Lib.hid (HA.out.trans (hb.mono (by simp)))
  have HG1 := Lib.hid ((hb.block w.heap.size (by simp)).trans HG.out)
  clear hb
  have hs1 : w.heap.size < w1.heap.size := (Array.getElem?_eq_some_iff.1 HG1.out).1
  go_wp2_with fail
  refine (atoi_16 _).mono ?_
  rintro e w2 ⟨rfl, hb⟩
  have HB2 := Lib.hid (HB1.out.trans (hb.mono (Nat.le_of_lt hs1)))
  have HG2 := Lib.hid ((hb.block w.heap.size hs1).trans HG1.out)
  clear hb
  have hs2 : w.heap.size < w2.heap.size := (Array.getElem?_eq_some_iff.1 HG2.out).1
  go_wp2_with fail
  refine (integerToken_1F _).mono ?_
  rintro e w3 ⟨rfl, hb⟩
  have HB3 := Lib.hid (HB2.out.trans (hb.mono (Nat.le_of_lt hs2)))
  have HG3 := Lib.hid ((hb.block w.heap.size hs2).trans HG2.out)
  clear hb
  obtain ⟨k0, k1, k2, k3, kf⟩ := four_cells HG3.out
  go_wp2_with fail
  refine bodyPost_ret (v := .tuple #[.agg #[.int .i64 4, .string ⟨#[]⟩, .int .i64 31, .int .i64 0], .int .i64 0]) (results_cell_row2 Tryz.results97 _ _ w.heap.size 34 _ (0, 0) _ _ rfl rfl (four_stored _ _ _ _ HG3.out) Tryz.underlying34 rfl infoTok) rfl ⟨rfl, ?_⟩
  exact below_four HB3.out (Nat.le_refl _) _ _ _ _
end Go.Proofs.YtmielaonkkhmiaaGreatDoor
