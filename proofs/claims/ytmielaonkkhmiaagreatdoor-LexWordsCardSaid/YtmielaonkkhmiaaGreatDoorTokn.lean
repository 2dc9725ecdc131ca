/-
  lex: scanner.token, by the first byte of what is read.
-/
import Derived.Test.YtmielaonkkhmiaaGreatDoorNumT
set_option linter.unusedVariables false
namespace Go.Proofs.YtmielaonkkhmiaaGreatDoor
open Go.RowKit

set_option maxRecDepth 100000 in
set_option maxHeartbeats 2000000 in
theorem token_number (b : Nat) (T : ByteArray) (a : Nat) (p : Int) (tk : Value) (k0 n2 : Int) (s1 : ByteArray) (w : World) (h : ScAt b T a tk w) (hlt : a < T.size) (hd : isDi ((T[a]'hlt).toNat : Int) = true)
    (hF : ∀ w, ScAt b T a tk w → TabX w → Calls Tryz.prog 77 #[.pointer (some ⟨b, 0, none⟩)] w fun e w' => e = .returned (.agg #[.int .i64 k0, .string s1, .int .i64 n2, .int .i64 0]) ∧ ScAt b T p tk w' ∧ Kp b w w') (ht : TabX w) (hb : 1 < b) :
    Calls Tryz.prog 48 #[.pointer (some ⟨b, 0, none⟩)] w fun e w' => e = .returned (.agg #[.int .i64 k0, .string s1, .int .i64 n2, .int .i64 0]) ∧ ScAt b T p tk w' ∧ Kp b w w' := by
  have hix := fun w => run_index_at T a hlt w
  have hcl : (T[a]'hlt).toNat < 256 := (T[a]'hlt).toNat_lt
  generalize (T[a]'hlt).toNat = c at *
  have HD := Lib.hid (fun w => hd ▸ isDigit_any (c : Int) w)
  clear hd
  have HF := Lib.hid hF
  have HT := Lib.hid ht
  have hltb := h.lt
  have HSA := Lib.hid (h.alloc (tokO (.int .i64 0) (.string ⟨#[]⟩) (.int .i64 0) (.int .i64 0)))
  have HKA := Lib.hid ((Kp.refl b w).alloc (tokO (.int .i64 0) (.string ⟨#[]⟩) (.int .i64 0) (.int .i64 0)))
  have HGA := Lib.hid (heap_top w (tokO (.int .i64 0) (.string ⟨#[]⟩) (.int .i64 0) (.int .i64 0)))
  clear h hF ht
  have hz0 : (0 : Int) ≤ (c : Int) := by omega
  have hz1 : (c : Int) < 256 := by omega
  clear hcl
  generalize (c : Int) = z at *
  have hc0 : (w.alloc (.cells #[.int .i64 0, .string ⟨#[]⟩, .int .i64 0, .int .i64 0] 34)).cell? ⟨b, 0, none⟩ = some (.string T) := HSA.out.c0
  have hc1 : (w.alloc (.cells #[.int .i64 0, .string ⟨#[]⟩, .int .i64 0, .int .i64 0] 34)).cell? ⟨b, 1, none⟩ = some (.int .i64 (a : Int)) := HSA.out.c1
  go_enter Tryz.func48, Tryz.ntmps48
  go_wp2
  go_quiet (fail)
  have HS1 : Hid (ScAt b T (a : Int) tk ((w.alloc (.cells #[.int .i64 0, .string ⟨#[]⟩, .int .i64 0, .int .i64 0] 34)).drewN nq)) := Lib.hid (HSA.out.drewN nq)
  have HK1 : Hid (Kp b w ((w.alloc (.cells #[.int .i64 0, .string ⟨#[]⟩, .int .i64 0, .int .i64 0] 34)).drewN nq)) := Lib.hid (HKA.out.drewN nq)
  have HG1 : Hid (((w.alloc (.cells #[.int .i64 0, .string ⟨#[]⟩, .int .i64 0, .int .i64 0] 34)).drewN nq).heap[w.heap.size]? = some (tokO (.int .i64 0) (.string ⟨#[]⟩) (.int .i64 0) (.int .i64 0))) := HGA
  clear hc0 hc1 hix
  generalize (w.alloc (.cells #[.int .i64 0, .string ⟨#[]⟩, .int .i64 0, .int .i64 0] 34)).drewN nq = w1 at *
  have HT1 := Lib.hid (HK1.out.tab HT.out hb)
  have hs1 : w.heap.size < w1.heap.size := (Array.getElem?_eq_some_iff.1 HG1.out).1
  go_wp2_with fail
  refine (HD.out _).mono ?_
  rintro e w' ⟨rfl, rfl⟩
  go_wp2_with fail
  refine (HF.out _ HS1.out HT1.out).mono ?_
  rintro e w2 ⟨rfl, hs, hk⟩
  have HS2 := Lib.hid hs
  have HK2 := Lib.hid (HK1.out.trans hk)
  have HG2 := Lib.hid ((hk.block w.heap.size hs1 (Nat.ne_of_gt hltb)).trans HG1.out)
  clear hs hk
  obtain ⟨l0, l1, l2, l3, lf⟩ := four_cells HG2.out
  go_wp2_with fail
  refine bodyPost_ret (v := .agg #[.int .i64 k0, .string s1, .int .i64 n2, .int .i64 0]) (results_cell_row Tryz.results48 _ _ w.heap.size 34 _ (0, 0) _ rfl (four_stored _ _ _ _ HG2.out) Tryz.underlying34 rfl infoTok) rfl ⟨rfl, ?_, ?_⟩
  · exact HS2.out.four (Nat.ne_of_lt hltb) _ _ _ _
  · exact HK2.out.four (Nat.le_refl _) _ _ _ _
set_option maxRecDepth 100000 in
set_option maxHeartbeats 2000000 in
theorem token_word (b : Nat) (T : ByteArray) (a : Nat) (p : Int) (tk : Value) (k0 n2 : Int) (s1 : ByteArray) (w : World) (h : ScAt b T a tk w) (hlt : a < T.size) (hd : isDi ((T[a]'hlt).toNat : Int) = false) (hn : isNa ((T[a]'hlt).toNat : Int) = true)
    (hF : ∀ w, ScAt b T a tk w → TabX w → Calls Tryz.prog 78 #[.pointer (some ⟨b, 0, none⟩)] w fun e w' => e = .returned (.agg #[.int .i64 k0, .string s1, .int .i64 n2, .int .i64 0]) ∧ ScAt b T p tk w' ∧ Kp b w w') (ht : TabX w) (hb : 1 < b) :
    Calls Tryz.prog 48 #[.pointer (some ⟨b, 0, none⟩)] w fun e w' => e = .returned (.agg #[.int .i64 k0, .string s1, .int .i64 n2, .int .i64 0]) ∧ ScAt b T p tk w' ∧ Kp b w w' := by
  have hix := fun w => run_index_at T a hlt w
  have hcl : (T[a]'hlt).toNat < 256 := (T[a]'hlt).toNat_lt
  generalize (T[a]'hlt).toNat = c at *
  have HD := Lib.hid (fun w => hd ▸ isDigit_any (c : Int) w)
  clear hd
  have HN := Lib.hid (fun w => hn ▸ isNamePart_any (c : Int) w)
  clear hn
  have HF := Lib.hid hF
  have HT := Lib.hid ht
  have hltb := h.lt
  have HSA := Lib.hid (h.alloc (tokO (.int .i64 0) (.string ⟨#[]⟩) (.int .i64 0) (.int .i64 0)))
  have HKA := Lib.hid ((Kp.refl b w).alloc (tokO (.int .i64 0) (.string ⟨#[]⟩) (.int .i64 0) (.int .i64 0)))
  have HGA := Lib.hid (heap_top w (tokO (.int .i64 0) (.string ⟨#[]⟩) (.int .i64 0) (.int .i64 0)))
  clear h hF ht
  have hz0 : (0 : Int) ≤ (c : Int) := by omega
  have hz1 : (c : Int) < 256 := by omega
  clear hcl
  generalize (c : Int) = z at *
  have hc0 : (w.alloc (.cells #[.int .i64 0, .string ⟨#[]⟩, .int .i64 0, .int .i64 0] 34)).cell? ⟨b, 0, none⟩ = some (.string T) := HSA.out.c0
  have hc1 : (w.alloc (.cells #[.int .i64 0, .string ⟨#[]⟩, .int .i64 0, .int .i64 0] 34)).cell? ⟨b, 1, none⟩ = some (.int .i64 (a : Int)) := HSA.out.c1
  go_enter Tryz.func48, Tryz.ntmps48
  go_wp2
  go_quiet (fail)
  have HS1 : Hid (ScAt b T (a : Int) tk ((w.alloc (.cells #[.int .i64 0, .string ⟨#[]⟩, .int .i64 0, .int .i64 0] 34)).drewN nq)) := Lib.hid (HSA.out.drewN nq)
  have HK1 : Hid (Kp b w ((w.alloc (.cells #[.int .i64 0, .string ⟨#[]⟩, .int .i64 0, .int .i64 0] 34)).drewN nq)) := Lib.hid (HKA.out.drewN nq)
  have HG1 : Hid (((w.alloc (.cells #[.int .i64 0, .string ⟨#[]⟩, .int .i64 0, .int .i64 0] 34)).drewN nq).heap[w.heap.size]? = some (tokO (.int .i64 0) (.string ⟨#[]⟩) (.int .i64 0) (.int .i64 0))) := HGA
  clear hc0 hc1 hix
  generalize (w.alloc (.cells #[.int .i64 0, .string ⟨#[]⟩, .int .i64 0, .int .i64 0] 34)).drewN nq = w1 at *
  have HT1 := Lib.hid (HK1.out.tab HT.out hb)
  have hs1 : w.heap.size < w1.heap.size := (Array.getElem?_eq_some_iff.1 HG1.out).1
  go_wp2_with fail
  refine (HD.out _).mono ?_
  rintro e w' ⟨rfl, rfl⟩
  go_wp2_with fail
  refine (HN.out _).mono ?_
  rintro e w' ⟨rfl, rfl⟩
  go_wp2_with fail
  refine (HF.out _ HS1.out HT1.out).mono ?_
  rintro e w2 ⟨rfl, hs, hk⟩
  have HS2 := Lib.hid hs
  have HK2 := Lib.hid (HK1.out.trans hk)
  have HG2 := Lib.hid ((hk.block w.heap.size hs1 (Nat.ne_of_gt hltb)).trans HG1.out)
  clear hs hk
  obtain ⟨l0, l1, l2, l3, lf⟩ := four_cells HG2.out
  go_wp2_with fail
  refine bodyPost_ret (v := .agg #[.int .i64 k0, .string s1, .int .i64 n2, .int .i64 0]) (results_cell_row Tryz.results48 _ _ w.heap.size 34 _ (0, 0) _ rfl (four_stored _ _ _ _ HG2.out) Tryz.underlying34 rfl infoTok) rfl ⟨rfl, ?_, ?_⟩
  · exact HS2.out.four (Nat.ne_of_lt hltb) _ _ _ _
  · exact HK2.out.four (Nat.le_refl _) _ _ _ _
set_option maxRecDepth 100000 in
set_option maxHeartbeats 2000000 in
theorem token_sign (b : Nat) (T : ByteArray) (a : Nat) (p : Int) (tk : Value) (k0 n2 : Int) (s1 : ByteArray) (w : World) (h : ScAt b T a tk w) (hlt : a < T.size) (hd : isDi ((T[a]'hlt).toNat : Int) = false) (hn : isNa ((T[a]'hlt).toNat : Int) = false) (hq : (T[a]'hlt).toNat ≠ 34) (hq2 : (T[a]'hlt).toNat ≠ 39)
    (hF : ∀ w, ScAt b T a tk w → TabX w → Calls Tryz.prog 81 #[.pointer (some ⟨b, 0, none⟩)] w fun e w' => e = .returned (.agg #[.int .i64 k0, .string s1, .int .i64 n2, .int .i64 0]) ∧ ScAt b T p tk w' ∧ Kp b w w') (ht : TabX w) (hb : 1 < b) :
    Calls Tryz.prog 48 #[.pointer (some ⟨b, 0, none⟩)] w fun e w' => e = .returned (.agg #[.int .i64 k0, .string s1, .int .i64 n2, .int .i64 0]) ∧ ScAt b T p tk w' ∧ Kp b w w' := by
  have hix := fun w => run_index_at T a hlt w
  have hcl : (T[a]'hlt).toNat < 256 := (T[a]'hlt).toNat_lt
  generalize (T[a]'hlt).toNat = c at *
  have hq3 : ((c : Int) == 34) = false := by rw [beq_eq_false_iff_ne]; omega
  have hq4 : ((c : Int) == 39) = false := by rw [beq_eq_false_iff_ne]; omega
  clear hq hq2
  have HD := Lib.hid (fun w => hd ▸ isDigit_any (c : Int) w)
  clear hd
  have HN := Lib.hid (fun w => hn ▸ isNamePart_any (c : Int) w)
  clear hn
  have HF := Lib.hid hF
  have HT := Lib.hid ht
  have hltb := h.lt
  have HSA := Lib.hid (h.alloc (tokO (.int .i64 0) (.string ⟨#[]⟩) (.int .i64 0) (.int .i64 0)))
  have HKA := Lib.hid ((Kp.refl b w).alloc (tokO (.int .i64 0) (.string ⟨#[]⟩) (.int .i64 0) (.int .i64 0)))
  have HGA := Lib.hid (heap_top w (tokO (.int .i64 0) (.string ⟨#[]⟩) (.int .i64 0) (.int .i64 0)))
  clear h hF ht
  have hz0 : (0 : Int) ≤ (c : Int) := by omega
  have hz1 : (c : Int) < 256 := by omega
  clear hcl
  generalize (c : Int) = z at *
  have hc0 : (w.alloc (.cells #[.int .i64 0, .string ⟨#[]⟩, .int .i64 0, .int .i64 0] 34)).cell? ⟨b, 0, none⟩ = some (.string T) := HSA.out.c0
  have hc1 : (w.alloc (.cells #[.int .i64 0, .string ⟨#[]⟩, .int .i64 0, .int .i64 0] 34)).cell? ⟨b, 1, none⟩ = some (.int .i64 (a : Int)) := HSA.out.c1
  go_enter Tryz.func48, Tryz.ntmps48
  go_wp2
  go_quiet (fail)
  have HS1 : Hid (ScAt b T (a : Int) tk ((w.alloc (.cells #[.int .i64 0, .string ⟨#[]⟩, .int .i64 0, .int .i64 0] 34)).drewN nq)) := Lib.hid (HSA.out.drewN nq)
  have HK1 : Hid (Kp b w ((w.alloc (.cells #[.int .i64 0, .string ⟨#[]⟩, .int .i64 0, .int .i64 0] 34)).drewN nq)) := Lib.hid (HKA.out.drewN nq)
  have HG1 : Hid (((w.alloc (.cells #[.int .i64 0, .string ⟨#[]⟩, .int .i64 0, .int .i64 0] 34)).drewN nq).heap[w.heap.size]? = some (tokO (.int .i64 0) (.string ⟨#[]⟩) (.int .i64 0) (.int .i64 0))) := HGA
  clear hc0 hc1 hix
  generalize (w.alloc (.cells #[.int .i64 0, .string ⟨#[]⟩, .int .i64 0, .int .i64 0] 34)).drewN nq = w1 at *
  have HT1 := Lib.hid (HK1.out.tab HT.out hb)
  have hs1 : w.heap.size < w1.heap.size := (Array.getElem?_eq_some_iff.1 HG1.out).1
  go_wp2_with fail
  refine (HD.out _).mono ?_
  rintro e w' ⟨rfl, rfl⟩
  go_wp2_with fail
  refine (HN.out _).mono ?_
  rintro e w' ⟨rfl, rfl⟩
  go_wp2_with fail
  refine (HF.out _ HS1.out HT1.out).mono ?_
  rintro e w2 ⟨rfl, hs, hk⟩
  have HS2 := Lib.hid hs
  have HK2 := Lib.hid (HK1.out.trans hk)
  have HG2 := Lib.hid ((hk.block w.heap.size hs1 (Nat.ne_of_gt hltb)).trans HG1.out)
  clear hs hk
  obtain ⟨l0, l1, l2, l3, lf⟩ := four_cells HG2.out
  go_wp2_with fail
  refine bodyPost_ret (v := .agg #[.int .i64 k0, .string s1, .int .i64 n2, .int .i64 0]) (results_cell_row Tryz.results48 _ _ w.heap.size 34 _ (0, 0) _ rfl (four_stored _ _ _ _ HG2.out) Tryz.underlying34 rfl infoTok) rfl ⟨rfl, ?_, ?_⟩
  · exact HS2.out.four (Nat.ne_of_lt hltb) _ _ _ _
  · exact HK2.out.four (Nat.le_refl _) _ _ _ _
end Go.Proofs.YtmielaonkkhmiaaGreatDoor
