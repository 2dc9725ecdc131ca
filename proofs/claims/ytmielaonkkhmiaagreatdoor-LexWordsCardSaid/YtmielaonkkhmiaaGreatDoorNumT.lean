/-
  lex: scanner.number at the number 16r1F.
-/
import Derived.Test.YtmielaonkkhmiaaGreatDoorPInt
set_option linter.unusedVariables false
namespace Go.Proofs.YtmielaonkkhmiaaGreatDoor
open Go.RowKit

theorem run_slice_at (T : ByteArray) (a k : Nat) (h : a + k ≤ T.size) (w : World) :
    (Instr.slice 9 (.string T) (some (.int .i64 (a : Int))) (some (.int .i64 ((a : Int) + (k : Int)))) none).run Tryz.prog w = .ok (.string (T.extract a (a + k))) w := by
  have e : ((a : Int) + (k : Int)).toNat = a + k := by omega
  have h1 : (0 : Int) ≤ (a : Int) + (k : Int) ∧ (a : Int) + (k : Int) ≤ (T.size : Int) := by omega
  have h2 : (0 : Int) ≤ (a : Int) ∧ (a : Int) ≤ ((a + k : Nat) : Int) := by omega
  simp [Instr.slice, Instr.sliceBounds, Instr.sliceBound, run_underlying Tryz.underlying9, asIntOf, h1, h2, e]
theorem four_other {w : World} {g k : Nat} {o : Obj} (hk : k ≠ g) (v0 v1 v2 v3 : Value) (h : w.heap[k]? = some o) :
    ((((w.setCell ⟨g, 0, none⟩ v0).setCell ⟨g, 1, none⟩ v1).setCell ⟨g, 2, none⟩ v2).setCell ⟨g, 3, none⟩ v3).heap[k]? = some o := by
  rw [Below.heap_setCell _ ⟨g, 3, none⟩ _ k hk, Below.heap_setCell _ ⟨g, 2, none⟩ _ k hk, Below.heap_setCell _ ⟨g, 1, none⟩ _ k hk, Below.heap_setCell _ ⟨g, 0, none⟩ _ k hk, h]
set_option maxRecDepth 100000 in
set_option maxHeartbeats 4000000 in
theorem number_16 (b : Nat) (T : ByteArray) (a : Nat) (tk : Value) (S : ByteArray) (w : World) (h : ScAt b T a tk w) (ha : a + 5 ≤ T.size) (hT : T.size < 1000000) (hS : T.extract a T.size = S) (hL : ∀ w, Calls Tryz.prog 96 #[.string S] w fun e w' => e = .returned (.int .i64 5) ∧ w = w')
    (hE : T.extract a (a + 5) = ⟨#[49, 54, 114, 49, 70]⟩) :
    Calls Tryz.prog 77 #[.pointer (some ⟨b, 0, none⟩)] w fun e w' => e = .returned (.agg #[.int .i64 4, .string ⟨#[]⟩, .int .i64 31, .int .i64 0]) ∧ ScAt b T ((a + 5 : Nat) : Int) tk w' ∧ Kp b w w' := by
  have HR := Lib.hid (fun w h => rest_any b T a tk w h (by omega))
  rw [hS] at HR
  have HL := Lib.hid hL
  have hlt := h.lt
  have HSA := Lib.hid (h.alloc (tokO (.int .i64 0) (.string ⟨#[]⟩) (.int .i64 0) (.int .i64 0)))
  have HKA := Lib.hid ((Kp.refl b w).alloc (tokO (.int .i64 0) (.string ⟨#[]⟩) (.int .i64 0) (.int .i64 0)))
  have HGA := Lib.hid (heap_top w (tokO (.int .i64 0) (.string ⟨#[]⟩) (.int .i64 0) (.int .i64 0)))
  have HEX := Lib.hid hE
  clear h hS hL hE
  go_enter Tryz.func77, Tryz.ntmps77
  have hc1 : (w.alloc (.cells #[.int .i64 0, .string ⟨#[]⟩, .int .i64 0, .int .i64 0] 34)).cell? ⟨b, 1, none⟩ = some (.int .i64 (a : Int)) := HSA.out.c1
  go_wp2
  clear hc1
  have hW : w.alloc (.cells #[.int .i64 0, .string ⟨#[]⟩, .int .i64 0, .int .i64 0] 34) = w.alloc (tokO (.int .i64 0) (.string ⟨#[]⟩) (.int .i64 0) (.int .i64 0)) := rfl
  rw [hW]
  clear hW
  generalize w.alloc (tokO (.int .i64 0) (.string ⟨#[]⟩) (.int .i64 0) (.int .i64 0)) = wa at *
  have hd1 : wa.drew.cell? ⟨b, 1, none⟩ = some (.int .i64 (a : Int)) := HSA.out.c1
  have hf1 : ∀ m, (wa.drew.drewN m).frozen? ⟨b, 1, none⟩ = false := fun m => HSA.out.fz 1
  have he1 : ∀ m, (wa.drew.drewN m).cell? ⟨b, 1, none⟩ = some (.int .i64 (a : Int)) := fun m => HSA.out.c1
  have hf2 : ∀ m, (wa.drewN m).frozen? ⟨b, 1, none⟩ = false := fun m => HSA.out.fz 1
  have he2 : ∀ m, (wa.drewN m).cell? ⟨b, 1, none⟩ = some (.int .i64 (a : Int)) := fun m => HSA.out.c1
  have hf3 : wa.drew.frozen? ⟨b, 1, none⟩ = false := HSA.out.fz 1
  have hwr : IntKind.i64.wrap ((a : Int) + 5) = (a : Int) + 5 := by rw [IntKind.wrap_i64]; omega
  go_region_with (first | (go_at_call 94; refine (HR.out _ HSA.out.drew).mono ?_; rintro e w' ⟨rfl, m, rfl⟩) | (go_at_call 96; refine (HL.out _).mono ?_; rintro e w' ⟨rfl, rfl⟩))
  all_goals
    have HS2 := Lib.hid ((HSA.out.drewN (1 + m)).set1 ((a : Int) + 5))
    have HK2 := Lib.hid ((HKA.out.drewN (1 + m)).setCell 1 (.int .i64 ((a : Int) + 5)))
    have HG2 := Lib.hid ((Below.heap_setCell (wa.drewN (1 + m)) ⟨b, 1, none⟩ (.int .i64 ((a : Int) + 5)) w.heap.size (by show w.heap.size ≠ b; omega)).trans HGA.out)
    clear hd1 hf1 he1 hf2 he2 hf3
    generalize (wa.drewN (1 + m)).setCell ⟨b, 1, none⟩ (.int .i64 ((a : Int) + 5)) = w2 at *
    have hc0 := HS2.out.c0
    have hc1 := HS2.out.c1
    have ha0 : ∀ o, (w2.alloc o).cell? ⟨b, 0, none⟩ = some (.string T) := fun o => (HS2.out.alloc o).c0
    have ha1 : ∀ o, (w2.alloc o).cell? ⟨b, 1, none⟩ = some (.int .i64 ((a : Int) + 5)) := fun o => (HS2.out.alloc o).c1
    have hb0 : ∀ o, (w2.alloc o).drew.cell? ⟨b, 0, none⟩ = some (.string T) := fun o => (HS2.out.alloc o).c0
    have hb1 : ∀ o, (w2.alloc o).drew.cell? ⟨b, 1, none⟩ = some (.int .i64 ((a : Int) + 5)) := fun o => (HS2.out.alloc o).c1
    have hd0 : w2.drew.cell? ⟨b, 0, none⟩ = _ := hc0
    have hd1 : w2.drew.cell? ⟨b, 1, none⟩ = _ := hc1
    have hsl : ∀ w, (Instr.slice 9 (.string T) (some (.int .i64 (a : Int))) (some (.int .i64 ((a : Int) + 5))) none).run Tryz.prog w = .ok (.string ⟨#[49, 54, 114, 49, 70]⟩) w := by
      intro w
      rw [← HEX.out]
      exact run_slice_at T a 5 ha w
    have HDR : Hid (∀ w', Below w2.drew.heap.size w2.drew w' → Below w2.heap.size w2 w') := Lib.hid (fun w' h => (Below.refl w2.heap.size w2).drew.trans h)
    have HBN := Lib.hid (numberToken_16 w2.drew)
    have HAN : Hid (∀ (v0 v1 v2 v3 : Value), Calls Tryz.prog 97 #[.string ⟨#[49, 54, 114, 49, 70]⟩] ((w2.alloc (.cells #[v0, v1, v2, v3] 34)).drew) fun e w' => e = .returned (.tuple #[.agg #[.int .i64 4, .string ⟨#[]⟩, .int .i64 31, .int .i64 0], .int .i64 0]) ∧
        w'.heap[w2.heap.size]? = some (tokO v0 v1 v2 v3) ∧ Below w2.heap.size w2 w') :=
      Lib.hid (fun v0 v1 v2 v3 => (numberToken_16 _).mono fun e w' ⟨he, hb⟩ => ⟨he, (hb.block w2.heap.size (by simp)).trans (heap_top w2 _), ((Below.refl w2.heap.size w2).alloc (Nat.le_refl _) (.cells #[v0, v1, v2, v3] 34)).drew.trans (hb.mono (by simp))⟩)
    go_wp2
    go_region_with (first
      | (go_at_call 97; with_reducible refine (HBN.out).mono ?_; rintro e w3 ⟨rfl, hb3⟩; replace hb3 := HDR.out w3 hb3)
      | (go_at_call 97; with_reducible refine (HAN.out _ _ _ _).mono ?_; rintro e w3 ⟨rfl, hbox, hb3⟩; obtain ⟨k0, k1, k2, k3, kf⟩ := four_cells hbox))
  all_goals
    have hs2 : w.heap.size < w2.heap.size := (Array.getElem?_eq_some_iff.1 HG2.out).1
    first
    | (have hbx := hbox
       have HS5 := Lib.hid ((HS2.out.below hb3).four (g := w2.heap.size) (Nat.ne_of_lt HS2.out.lt) (.int .i64 4) (.string ⟨#[]⟩) (.int .i64 31) (.int .i64 0))
       have HK5 := Lib.hid ((HK2.out.trans (Kp.of_below hb3)).four (g := w2.heap.size) (Nat.le_of_lt hs2) (.int .i64 4) (.string ⟨#[]⟩) (.int .i64 31) (.int .i64 0))
       have HB5 := Lib.hid (four_stored (.int .i64 4) (.string ⟨#[]⟩) (.int .i64 31) (.int .i64 0) hbx)
       have HG5 := Lib.hid (four_other (g := w2.heap.size) (k := w.heap.size) (Nat.ne_of_lt hs2) (.int .i64 4) (.string ⟨#[]⟩) (.int .i64 31) (.int .i64 0) ((hb3.block w.heap.size hs2).trans HG2.out))
       have hwe : (((w3.setCell ⟨w2.heap.size, 0, none⟩ (.int .i64 4)).setCell ⟨w2.heap.size, 1, none⟩ (.string ⟨#[]⟩)).setCell ⟨w2.heap.size, 2, none⟩ (.int .i64 31)).setCell ⟨w2.heap.size, 3, none⟩ (.int .i64 0) = ((((w3.setCell ⟨w2.heap.size, 0, none⟩ (.int .i64 4)).setCell ⟨w2.heap.size, 1, none⟩ (.string ⟨#[]⟩)).setCell ⟨w2.heap.size, 2, none⟩ (.int .i64 31)).setCell ⟨w2.heap.size, 3, none⟩ (.int .i64 0)) := rfl
       rw [hwe]
       clear hwe hbx hc0 hc1 ha0 ha1 hb0 hb1 hd0 hd1 hsl
       generalize ((((w3.setCell ⟨w2.heap.size, 0, none⟩ (.int .i64 4)).setCell ⟨w2.heap.size, 1, none⟩ (.string ⟨#[]⟩)).setCell ⟨w2.heap.size, 2, none⟩ (.int .i64 31)).setCell ⟨w2.heap.size, 3, none⟩ (.int .i64 0)) = w5 at *
       generalize w2.heap.size = g5 at *
       obtain ⟨k0, k1, k2, k3, kf⟩ := four_cells HB5.out
       obtain ⟨l0, l1, l2, l3, lf⟩ := four_cells HG5.out
       go_wp2
       refine bodyPost_ret (v := .agg #[.int .i64 4, .string ⟨#[]⟩, .int .i64 31, .int .i64 0]) (results_cell_row Tryz.results77 _ _ w.heap.size 34 _ (0, 0) _ rfl (four_stored _ _ _ _ HG5.out) Tryz.underlying34 rfl infoTok) rfl ⟨rfl, ?_, ?_⟩
       · rw [Int.natCast_add]; exact HS5.out.four (Nat.ne_of_lt hlt) _ _ _ _
       · exact HK5.out.four (Nat.le_refl _) _ _ _ _)
    | (have HS5 := Lib.hid ((HS2.out.below hb3).alloc (tokO (.int .i64 4) (.string ⟨#[]⟩) (.int .i64 31) (.int .i64 0)))
       have HK5 := Lib.hid ((HK2.out.trans (Kp.of_below hb3)).alloc (tokO (.int .i64 4) (.string ⟨#[]⟩) (.int .i64 31) (.int .i64 0)))
       have HB5 := Lib.hid (heap_top w3 (tokO (.int .i64 4) (.string ⟨#[]⟩) (.int .i64 31) (.int .i64 0)))
       have HG5 := Lib.hid ((Below.heap_alloc w3 (tokO (.int .i64 4) (.string ⟨#[]⟩) (.int .i64 31) (.int .i64 0)) w.heap.size (Nat.lt_of_lt_of_le hs2 hb3.size)).trans ((hb3.block w.heap.size hs2).trans HG2.out))
       have hwe : w3.alloc (.cells #[.int .i64 4, .string ⟨#[]⟩, .int .i64 31, .int .i64 0] 34) = w3.alloc (tokO (.int .i64 4) (.string ⟨#[]⟩) (.int .i64 31) (.int .i64 0)) := rfl
       rw [hwe]
       clear hwe hc0 hc1 ha0 ha1 hb0 hb1 hd0 hd1 hsl
       generalize w3.alloc (tokO (.int .i64 4) (.string ⟨#[]⟩) (.int .i64 31) (.int .i64 0)) = w5 at *
       generalize w3.heap.size = g5 at *
       obtain ⟨k0, k1, k2, k3, kf⟩ := four_cells HB5.out
       obtain ⟨l0, l1, l2, l3, lf⟩ := four_cells HG5.out
       go_wp2
       refine bodyPost_ret (v := .agg #[.int .i64 4, .string ⟨#[]⟩, .int .i64 31, .int .i64 0]) (results_cell_row Tryz.results77 _ _ w.heap.size 34 _ (0, 0) _ rfl (four_stored _ _ _ _ HG5.out) Tryz.underlying34 rfl infoTok) rfl ⟨rfl, ?_, ?_⟩
       · rw [Int.natCast_add]; exact HS5.out.four (Nat.ne_of_lt hlt) _ _ _ _
       · exact HK5.out.four (Nat.le_refl _) _ _ _ _)
end Go.Proofs.YtmielaonkkhmiaaGreatDoor
