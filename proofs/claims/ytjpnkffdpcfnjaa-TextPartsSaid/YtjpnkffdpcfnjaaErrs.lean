/-
  The errors of Slice and Set.
-/
import Derived.Test.YtjpnkffdpcfnjaaFind2
set_option linter.unusedVariables false
namespace Go.Proofs.Ytjpnkffdpcfnjaa
open Go.RowKit

theorem two_res {w w1 : World} {o : Obj} (hb1 : Below ((w.alloc o).alloc (.cells #[.string ⟨#[]⟩, .bool false] 24)).heap.size ((w.alloc o).alloc (.cells #[.string ⟨#[]⟩, .bool false] 24)) w1) :
    w1.cell? ⟨w.heap.size + 1, 0, none⟩ = some (.string ⟨#[]⟩) ∧ w1.cell? ⟨w.heap.size + 1, 1, none⟩ = some (.bool false) ∧ w1.frozen? ⟨w.heap.size + 1, 0, none⟩ = false ∧ w1.frozen? ⟨w.heap.size + 1, 1, none⟩ = false ∧ Below w.heap.size w w1 := by
  refine ⟨?_, ?_, ?_, ?_, (below_al (below_al (Below.refl _ _))).trans (hb1.mono (by simp; omega))⟩
  · rw [hb1.cell (p := ⟨w.heap.size + 1, 0, none⟩) (by simp), World.cell?_alloc_at _ _ _ _ (by simp)]; rfl
  · rw [hb1.cell (p := ⟨w.heap.size + 1, 1, none⟩) (by simp), World.cell?_alloc_at _ _ _ _ (by simp)]; rfl
  · rw [hb1.frozen (p := ⟨w.heap.size + 1, 0, none⟩) (by simp)]; exact World.frozen?_alloc_at _ _ _ _ (by simp)
  · rw [hb1.frozen (p := ⟨w.heap.size + 1, 1, none⟩) (by simp)]; exact World.frozen?_alloc_at _ _ _ _ (by simp)

set_option maxHeartbeats 1000000 in
theorem slice_no (l : List Nat) (hl : l.length ≤ 65536) (i j : Int) (h : i < 0 ∨ j < i ∨ (l.length : Int) < j) (w : World) :
    Calls Try.prog 19 #[strV l, .int .i64 i, .int .i64 j] w fun e w' => e = .returned (.tuple #[.agg #[.string ⟨#[]⟩, .bool false], .int .i64 11]) ∧ Below w.heap.size w w' := by
  have hlen := len_any l (by omega)
  unfold strV at hlen ⊢
  generalize pk l = d at *
  generalize wideL l = wl at *
  have HL := Lib.hid hlen
  clear hlen
  by_cases h0 : i < 0
  · go_enter Try.func19, Try.ntmps19
    go_wp2
    refine bodyPost_ret (v := .tuple #[.agg #[.string ⟨#[]⟩, .bool false], .int .i64 11]) (by simp [results, Try.results19, go_sem]) rfl ⟨rfl, ?_⟩
    repeat first
      | exact Below.refl _ _
      | refine Below.setCell ?_ (by simp) _
      | refine below_al ?_
  by_cases h1 : j < i
  · go_enter Try.func19, Try.ntmps19
    go_wp2
    refine bodyPost_ret (v := .tuple #[.agg #[.string ⟨#[]⟩, .bool false], .int .i64 11]) (by simp [results, Try.results19, go_sem]) rfl ⟨rfl, ?_⟩
    repeat first
      | exact Below.refl _ _
      | refine Below.setCell ?_ (by simp) _
      | refine below_al ?_
  have h2 : (l.length : Int) < j := by omega
  clear h
  go_enter Try.func19, Try.ntmps19
  go_wp2_with fail
  refine (HL.out _).mono ?_
  rintro e w1 ⟨rfl, hb1⟩
  obtain ⟨d0, d1, f0, f1, hB⟩ := two_res hb1
  clear hb1
  have hs0 := cell_zero w1 (w.heap.size + 1) (.string ⟨#[]⟩) (.bool false) d0
  have hs1 := cell_two w1 (w.heap.size + 1) (.string ⟨#[]⟩) (.bool false) d1
  go_wp2
  refine bodyPost_ret (v := .tuple #[.agg #[.string ⟨#[]⟩, .bool false], .int .i64 11]) (by simp [results, Try.results19, go_sem, hs0, hs1]) rfl ⟨rfl, ?_⟩
  exact (hB.setCell (p := ⟨w.heap.size + 1, 0, none⟩) (Nat.le_succ _) _).setCell (p := ⟨w.heap.size + 1, 1, none⟩) (Nat.le_succ _) _

set_option maxHeartbeats 1000000 in
theorem set_no (l : List Nat) (hl : l.length ≤ 65536) (i c : Int) (h : i < 0 ∨ (l.length : Int) < i) (w : World) :
    Calls Try.prog 20 #[strV l, .int .i64 i, .int .i64 c] w fun e w' => e = .returned (.tuple #[.agg #[.string ⟨#[]⟩, .bool false], .int .i64 11]) ∧ Below w.heap.size w w' := by
  have hlen := len_any l (by omega)
  unfold strV at hlen ⊢
  generalize pk l = d at *
  generalize wideL l = wl at *
  have HL := Lib.hid hlen
  clear hlen
  by_cases h0 : i < 0
  all_goals
    have h1 : i < 0 ∨ (l.length : Int) < i := h
    have h2 : ¬ i < 0 → (l.length : Int) < i := fun h => by omega
    have H2 := Lib.hid h2
    clear h h1 h2
    try (have h3 := H2.out h0)
    go_enter Try.func20, Try.ntmps20
    go_wp2_with fail
    refine (HL.out _).mono ?_
    rintro e w1 ⟨rfl, hb1⟩
    obtain ⟨d0, d1, f0, f1, hB⟩ := two_res hb1
    clear hb1
    have hs0 := cell_zero w1 (w.heap.size + 1) (.string ⟨#[]⟩) (.bool false) d0
    have hs1 := cell_two w1 (w.heap.size + 1) (.string ⟨#[]⟩) (.bool false) d1
    go_wp2
    refine bodyPost_ret (v := .tuple #[.agg #[.string ⟨#[]⟩, .bool false], .int .i64 11]) (by simp [results, Try.results20, go_sem, hs0, hs1]) rfl ⟨rfl, ?_⟩
    exact (hB.setCell (p := ⟨w.heap.size + 1, 0, none⟩) (Nat.le_succ _) _).setCell (p := ⟨w.heap.size + 1, 1, none⟩) (Nat.le_succ _) _

set_option maxHeartbeats 1000000 in
theorem set_arg (l : List Nat) (hl : l.length ≤ 65536) (i c : Int) (h0 : 0 ≤ i) (h1 : i ≤ (l.length : Int)) (hc : okc c = false) (w : World) :
    Calls Try.prog 20 #[strV l, .int .i64 i, .int .i64 c] w fun e w' => e = .returned (.tuple #[.agg #[.string ⟨#[]⟩, .bool false], .int .i64 1]) ∧ Below w.heap.size w w' := by
  have hlen := len_any l (by omega)
  unfold strV at hlen ⊢
  generalize pk l = d at *
  generalize wideL l = wl at *
  have HL := Lib.hid hlen
  have HNO := Lib.hid (isChar_no c hc)
  have g0 : ¬ i < 0 := by omega
  have g1 : ¬ (l.length : Int) < i := by omega
  clear hlen hc h0 h1
  go_enter Try.func20, Try.ntmps20
  go_wp2_with fail
  refine (HL.out _).mono ?_
  rintro e w1 ⟨rfl, hb1⟩
  obtain ⟨d0, d1, f0, f1, hB⟩ := two_res hb1
  clear hb1
  have hs0 := cell_zero w1 (w.heap.size + 1) (.string ⟨#[]⟩) (.bool false) d0
  have hs1 := cell_two w1 (w.heap.size + 1) (.string ⟨#[]⟩) (.bool false) d1
  go_wp2_with fail
  refine (HNO.out _).mono ?_
  rintro e w2 ⟨rfl, rfl⟩
  go_wp2
  refine bodyPost_ret (v := .tuple #[.agg #[.string ⟨#[]⟩, .bool false], .int .i64 1]) (by simp [results, Try.results20, go_sem, hs0, hs1]) rfl ⟨rfl, ?_⟩
  exact (hB.setCell (p := ⟨w.heap.size + 1, 0, none⟩) (Nat.le_succ _) _).setCell (p := ⟨w.heap.size + 1, 1, none⟩) (Nat.le_succ _) _
end Go.Proofs.Ytjpnkffdpcfnjaa
