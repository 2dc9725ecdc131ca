/-
  lex: scanner.word, scanner.sign.
-/
import Derived.Test.YtmielaonkkhmiaaGreatDoorSkip
set_option linter.unusedVariables false
namespace Go.Proofs.YtmielaonkkhmiaaGreatDoor
open Go.RowKit

theorem heap_top (w : World) (o : Obj) : (w.alloc o).heap[w.heap.size]? = some o := by show (w.heap.push o)[w.heap.size]? = some o; simp
theorem Kp.setHi {b : Nat} {w w' : World} (h : Kp b w w') {p : Addr} (hp : w.heap.size ≤ p.block) (v : Value) : Kp b w (w'.setCell p v) :=
  ⟨h.os, h.tape, h.output, by rw [show (w'.setCell p v).heap.size = w'.heap.size from by simp [World.setCell]]; exact h.size, fun k hk hb => (Below.heap_setCell w' p v k (by omega)).trans (h.block k hk hb)⟩
theorem ScAt.setOther {b : Nat} {T : ByteArray} {a : Int} {tk : Value} {w : World} (h : ScAt b T a tk w) {p : Addr} (hp : b ≠ p.block) (v : Value) : ScAt b T a tk (w.setCell p v) := (Below.heap_setCell w p v b hp).trans h
theorem Kp.tab {b : Nat} {w w' : World} (h : Kp b w w') (ht : TabX w) (hb : 1 < b) : TabX w' := by
  have := ht.pos
  exact ht.of_block (h.block _ (by omega) (by omega)) (h.block _ (by omega) (by omega))
def tokO (v0 v1 v2 v3 : Value) : Obj := .cells #[v0, v1, v2, v3] 34
theorem four_cells {w : World} {g : Nat} {v0 v1 v2 v3 : Value} (h : w.heap[g]? = some (tokO v0 v1 v2 v3)) :
    w.cell? ⟨g, 0, none⟩ = some v0 ∧ w.cell? ⟨g, 1, none⟩ = some v1 ∧ w.cell? ⟨g, 2, none⟩ = some v2 ∧ w.cell? ⟨g, 3, none⟩ = some v3 ∧ (∀ j, w.frozen? ⟨g, j, none⟩ = false) := by
  unfold tokO at h
  refine ⟨?_, ?_, ?_, ?_, ?_⟩
  · exact (cell_of_row _ _ 0 _ _ _ h).trans rfl
  · exact (cell_of_row _ _ 1 _ _ _ h).trans rfl
  · exact (cell_of_row _ _ 2 _ _ _ h).trans rfl
  · exact (cell_of_row _ _ 3 _ _ _ h).trans rfl
  · intro j; simp [World.frozen?, h]
theorem four_stored {w : World} {g : Nat} {u0 u1 u2 u3 : Value} (v0 v1 v2 v3 : Value) (h : w.heap[g]? = some (tokO u0 u1 u2 u3)) :
    ((((w.setCell ⟨g, 0, none⟩ v0).setCell ⟨g, 1, none⟩ v1).setCell ⟨g, 2, none⟩ v2).setCell ⟨g, 3, none⟩ v3).heap[g]? = some (tokO v0 v1 v2 v3) := by
  simp [World.setCell, tokO, Array.getElem?_modify, show w.heap[g]? = some (.cells #[u0, u1, u2, u3] 34) from h]
theorem ScAt.four {b : Nat} {T : ByteArray} {a : Int} {tk : Value} {w : World} (h : ScAt b T a tk w) {g : Nat} (hg : b ≠ g) (v0 v1 v2 v3 : Value) :
    ScAt b T a tk ((((w.setCell ⟨g, 0, none⟩ v0).setCell ⟨g, 1, none⟩ v1).setCell ⟨g, 2, none⟩ v2).setCell ⟨g, 3, none⟩ v3) :=
  (((h.setOther (p := ⟨g, 0, none⟩) hg _).setOther (p := ⟨g, 1, none⟩) hg _).setOther (p := ⟨g, 2, none⟩) hg _).setOther (p := ⟨g, 3, none⟩) hg _
theorem Kp.four {b : Nat} {w w' : World} (h : Kp b w w') {g : Nat} (hg : w.heap.size ≤ g) (v0 v1 v2 v3 : Value) :
    Kp b w ((((w'.setCell ⟨g, 0, none⟩ v0).setCell ⟨g, 1, none⟩ v1).setCell ⟨g, 2, none⟩ v2).setCell ⟨g, 3, none⟩ v3) :=
  (((h.setHi (p := ⟨g, 0, none⟩) hg _).setHi (p := ⟨g, 1, none⟩) hg _).setHi (p := ⟨g, 2, none⟩) hg _).setHi (p := ⟨g, 3, none⟩) hg _
theorem below_four {B : Nat} {w w' : World} (h : Below B w w') {g : Nat} (hg : B ≤ g) (v0 v1 v2 v3 : Value) :
    Below B w ((((w'.setCell ⟨g, 0, none⟩ v0).setCell ⟨g, 1, none⟩ v1).setCell ⟨g, 2, none⟩ v2).setCell ⟨g, 3, none⟩ v3) :=
  (((h.setCell (p := ⟨g, 0, none⟩) hg _).setCell (p := ⟨g, 1, none⟩) hg _).setCell (p := ⟨g, 2, none⟩) hg _).setCell (p := ⟨g, 3, none⟩) hg _
theorem results_cell_row2 {P : Program} {fn : Func} {p q : Tmp} {ty : TypeId} (h : fn.results = #[.cell p ty, .tmp q]) (tmps : Array Value) (w : World) (g : Nat) (t : TypeId) (cs : Array Value) (fr : Nat × Nat) (d : TypeDesc) (v : Value)
    (hp : tmps.getD p undef = .pointer (some ⟨g, 0, none⟩)) (hq : tmps.getD q undef = v) (hg : w.heap[g]? = some (.cells cs t fr))
    (hu : P.underlying ty = some d) (hd : (match d with | .struct _ | .array _ _ => true | _ => false) = true) (hi : (P.info? ty).map (·.size) = some cs.size) :
    (results fn tmps).run P w = .ok (.tuple #[.agg cs, v]) w := by
  have hp' : tmps[p]?.getD undef = .pointer (some ⟨g, 0, none⟩) := by simpa using hp
  have hq' : tmps[q]?.getD undef = v := by simpa using hq
  simp [results, h, hp', hq', asAddr, run_loadVar_row w g t ty cs fr d hg hu hd hi]
theorem infoTok : (Tryz.prog.info? 34).map (·.size) = some 4 := by kernel_rfl
set_option maxRecDepth 100000 in
set_option maxHeartbeats 1000000 in
theorem word_any (b : Nat) (T : ByteArray) (a p : Nat) (tk : Value) (S W : ByteArray) (n : Nat) (w : World) (h : ScAt b T a tk w) (ht : TabX w) (hb : 1 < b) (ha : a ≤ T.size) (hT : T.size < 1000000) (hS : T.extract a T.size = S) (hn : Runs S isNa n) (hp : a + n = p)
    (hW : S.extract 0 n = W) (hl : W.size ≤ 40) (hk : isKey W = false) :
    Calls Tryz.prog 78 #[.pointer (some ⟨b, 0, none⟩)] w fun e w' => e = .returned (.agg #[.int .i64 1, .string W, .int .i64 0, .int .i64 0]) ∧ ScAt b T (p : Int) tk w' ∧ Kp b w w' := by
  have HW := Lib.hid (fun w h => while_na b T a tk S n w h ha hT hS hn)
  rw [hp, hW] at HW
  have HI := Lib.hid (fun w h => hk ▸ isKeyword_any W w h)
  have HT := Lib.hid ht
  have hlt := h.lt
  have HS0 := Lib.hid (h.alloc (tokO (.int .i64 0) (.string ⟨#[]⟩) (.int .i64 0) (.int .i64 0)))
  have hc1 : (w.alloc (.cells #[.int .i64 0, .string ⟨#[]⟩, .int .i64 0, .int .i64 0] 34)).cell? ⟨b, 1, none⟩ = some (.int .i64 (a : Int)) := HS0.out.c1
  have hl2 : (W.size : Int) ≤ 40 := by omega
  clear h ht hn hS hk hp hW
  go_enter Tryz.func78, Tryz.ntmps78
  go_wp2_with fail
  refine (HW.out _ HS0.out).mono ?_
  rintro e w1 ⟨rfl, hs, hk⟩
  have HS1 := Lib.hid hs
  have HK1 := Lib.hid (((Kp.refl b w).alloc (tokO (.int .i64 0) (.string ⟨#[]⟩) (.int .i64 0) (.int .i64 0))).trans hk)
  have HT1 := Lib.hid (HK1.out.tab HT.out hb)
  have hsz : (w.alloc (tokO (.int .i64 0) (.string ⟨#[]⟩) (.int .i64 0) (.int .i64 0))).heap.size = w.heap.size + 1 := by simp
  have HG := Lib.hid ((hk.block w.heap.size (by omega) (by omega)).trans (heap_top w _))
  obtain ⟨k0, k1, k2, k3, kf⟩ := four_cells HG.out
  clear hs hk hc1
  go_wp2_with fail
  refine (HI.out _ HT1.out).mono ?_
  rintro e w2 ⟨rfl, rfl⟩
  go_wp2_with fail
  refine bodyPost_ret (v := .agg #[.int .i64 1, .string W, .int .i64 0, .int .i64 0]) (results_cell_row Tryz.results78 _ _ w.heap.size 34 _ (0, 0) _ rfl (four_stored _ _ _ _ HG.out) Tryz.underlying34 rfl infoTok) rfl ⟨rfl, ?_, ?_⟩
  · exact HS1.out.four (by omega) _ _ _ _
  · exact HK1.out.four (Nat.le_refl _) _ _ _ _
set_option maxRecDepth 100000 in
set_option maxHeartbeats 1000000 in
theorem sign_any (b : Nat) (T : ByteArray) (a p : Nat) (tk : Value) (S K : ByteArray) (w : World) (h : ScAt b T a tk w) (ht : TabX w) (hb : 1 < b) (ha : a ≤ T.size) (hT : T.size < 1000000) (hS : T.extract a T.size = S) (hK : leadS S = K) (hne : K.size ≠ 0) (hK2 : K.size < 1000000) (hp : a + K.size = p) :
    Calls Tryz.prog 81 #[.pointer (some ⟨b, 0, none⟩)] w fun e w' => e = .returned (.agg #[.int .i64 3, .string K, .int .i64 0, .int .i64 0]) ∧ ScAt b T (p : Int) tk w' ∧ Kp b w w' := by
  have HR := Lib.hid (fun w h => rest_any b T a tk w h ha)
  rw [hS] at HR
  have HL := Lib.hid (fun w h => hK ▸ leadingSign_any S w h)
  have HT := Lib.hid ht
  have hlt := h.lt
  have HS0 := Lib.hid (h.alloc (tokO (.int .i64 0) (.string ⟨#[]⟩) (.int .i64 0) (.int .i64 0)))
  have hz : K.toList.isEmpty = false := by
    rw [List.isEmpty_eq_false_iff]
    intro h
    apply hne
    rw [ByteArray.toList_eq] at h
    show K.data.size = 0
    rw [← Array.length_toList, h]; rfl
  have HP : Hid ((a : Int) + (K.size : Int) = (p : Int)) := Lib.hid (by omega)
  clear h ht hS hK hp hne
  go_enter Tryz.func81, Tryz.ntmps81
  go_wp2_with fail
  refine (HR.out _ HS0.out).mono ?_
  rintro e w1 ⟨rfl, m, hm⟩
  have HK1 := Lib.hid (((Kp.refl b w).alloc (tokO (.int .i64 0) (.string ⟨#[]⟩) (.int .i64 0) (.int .i64 0))).drewN m)
  have HS1 := Lib.hid (HS0.out.drewN m)
  have HG : Hid (((w.alloc (tokO (.int .i64 0) (.string ⟨#[]⟩) (.int .i64 0) (.int .i64 0))).drewN m).heap[w.heap.size]? = _) := Lib.hid (heap_top w _)
  have hm2 : w1 = (w.alloc (tokO (.int .i64 0) (.string ⟨#[]⟩) (.int .i64 0) (.int .i64 0))).drewN m := hm
  rw [← hm2] at HK1 HS1 HG
  clear hm hm2
  have HT1 := Lib.hid (HK1.out.tab HT.out hb)
  go_wp2_with fail
  refine (HL.out _ HT1.out).mono ?_
  rintro e w2 ⟨rfl, rfl⟩
  have hc1 := HS1.out.c1
  have hf1 := HS1.out.fz 1
  have HS2 := Lib.hid (HS1.out.set1 ((a : Int) + (K.size : Int)))
  have HK2 := Lib.hid (HK1.out.setCell 1 (.int .i64 ((a : Int) + (K.size : Int))))
  have HG2 := Lib.hid ((Below.heap_setCell w1 ⟨b, 1, none⟩ (.int .i64 ((a : Int) + (K.size : Int))) w.heap.size (by show w.heap.size ≠ b; omega)).trans HG.out)
  obtain ⟨k0, k1, k2, k3, kf⟩ := four_cells HG2.out
  go_wp2_with fail
  refine bodyPost_ret (v := .agg #[.int .i64 3, .string K, .int .i64 0, .int .i64 0]) (results_cell_row Tryz.results81 _ _ w.heap.size 34 _ (0, 0) _ rfl (four_stored _ _ _ _ HG2.out) Tryz.underlying34 rfl infoTok) rfl ⟨rfl, ?_, ?_⟩
  · have := HS2.out.four (g := w.heap.size) (by omega) (.int .i64 3) (.string K) (.int .i64 0) (.int .i64 0)
    rw [HP.out] at this ⊢
    exact this
  · exact HK2.out.four (Nat.le_refl _) _ _ _ _
end Go.Proofs.YtmielaonkkhmiaaGreatDoor
