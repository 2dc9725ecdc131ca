/-
  Strings that would be too long: Join, Of and Latin.
-/
import Derived.Test.YtjpnkffdpcfnjaaDoorJoin
import Derived.Test.YtjpnkffdpcfnjaaDoorLatin
set_option linter.unusedVariables false
namespace Go.Proofs.YtjpnkffdpcfnjaaDoor
open Go.RowKit

/-- The error's value. -/
def noV (e : Int) : Value := .tuple #[.agg #[.string ⟨#[]⟩, .bool false], .int .i64 e]

theorem box_of {w wr : World} (h : Below (w.heap.size + 1) (w.alloc (.cells #[.string ⟨#[]⟩, .bool false] 24)) wr) :
    wr.cell? ⟨w.heap.size, 0, none⟩ = some (.string ⟨#[]⟩) ∧ wr.cell? ⟨w.heap.size, 1, none⟩ = some (.bool false) ∧ wr.frozen? ⟨w.heap.size, 0, none⟩ = false ∧ wr.frozen? ⟨w.heap.size, 1, none⟩ = false ∧ Below w.heap.size w wr := by
  refine ⟨?_, ?_, ?_, ?_, ((Below.refl _ _).alloc (Nat.le_refl _) _).trans (h.mono (Nat.le_succ _))⟩
  · rw [h.cell (p := ⟨w.heap.size, 0, none⟩) (by show w.heap.size < _; omega), World.cell?_alloc_at _ _ _ _ rfl]; rfl
  · rw [h.cell (p := ⟨w.heap.size, 1, none⟩) (by show w.heap.size < _; omega), World.cell?_alloc_at _ _ _ _ rfl]; rfl
  · rw [h.frozen (p := ⟨w.heap.size, 0, none⟩) (by show w.heap.size < _; omega)]; exact World.frozen?_alloc_at _ _ _ _ rfl
  · rw [h.frozen (p := ⟨w.heap.size, 1, none⟩) (by show w.heap.size < _; omega)]; exact World.frozen?_alloc_at _ _ _ _ rfl

def JL (L : List (List Nat)) (w : World) (o : Obj) (n wd i : Value) (wr : World) : Prop :=
  ∃ k : Nat, k ≤ L.length ∧ i = .int .i64 k ∧ n = .int .i64 (preN L k : Int) ∧ wd = .bool (preW L k) ∧ Below (w.heap.size + 1) (w.alloc o) wr ∧ preN L k ≤ 65536

set_option maxHeartbeats 2000000 in
theorem join_limit (L : List (List Nat)) (hL : L.length ≤ 1000) (hlk : ∀ k (h : k < L.length), L[k].length ≤ 65536) (ht : 65536 < L.flatten.length) (v : Value) (w : World) (h : StrsAt w v L) (hne : L ≠ []) :
    Calls Tryd.prog 21 #[v] w fun e w' => e = .returned (noV 3) ∧ Below w.heap.size w w' := by
  have hlen := fun k (h : k < L.length) => len_any L[k] (by have := hlk k h; omega)
  obtain ⟨a, cap, rfl, hin⟩ := h
  rcases hin with hnil | ⟨b, o, rfl, hbl, hc⟩
  · exact absurd hnil hne
  unfold strV at hlen
  have HLEN := Lib.hid hlen
  have HC := Lib.hid hc
  have HLK := Lib.hid hlk
  have HT := Lib.hid ht
  clear hlen hc hlk ht
  go_enter Tryd.func21, Tryd.ntmps21
  go_wp2
  go_loopw [4, 5, 7, 13] (fun n wd _ i wr => JL L w (Obj.cells #[Value.string ⟨#[]⟩, Value.bool false] 24) n wd i wr) (fun _ _ _ i _ => L.length - (intOf i).toNat)
  case atStart => exact ⟨0, Nat.zero_le _, rfl, rfl, rfl, Below.refl _ _, by show 0 ≤ _; omega⟩
  case round =>
    obtain ⟨k, hk, rfl, rfl, rfl, hbel, hpk⟩ := hrel
    have hsz : w.heap.size + 1 ≤ wr.heap.size := by have := hbel.size; simpa using this
    by_cases hlt : k < L.length
    · have hx0 : wr.cell? ⟨b, o + k * 2, none⟩ = some (.string (pk L[k])) := by
        rw [hbel.cell (p := ⟨b, o + k * 2, none⟩) (by show b < _; omega), World.cell?_alloc_past _ _ _ hbl]; exact (HC.out k hlt).1
      have hx1 : wr.cell? ⟨b, o + k * 2 + 1, none⟩ = some (.bool (wideL L[k])) := by
        rw [hbel.cell (p := ⟨b, o + k * 2 + 1, none⟩) (by show b < _; omega), World.cell?_alloc_past _ _ _ hbl]; exact (HC.out k hlt).2
      have hps := preN_snoc L k hlt
      have hpw := preW_snoc L k hlt
      have hLk := HLK.out k hlt
      have hHL := Lib.hid (HLEN.out k hlt)
      have hTk : preN L k ≤ 65536 := hpk
      generalize hlk : L[k] = lk at *
      generalize hwk : wideL lk = wk at *
      generalize pk lk = d at *
      by_cases hbig : 65536 < preN L (k + 1)
      · have hn : (65536 : Int) < (preN L k : Int) + (lk.length : Int) := by omega
        clear hps hlk hwk hpw hbig hpk HC HLEN HLK
        go_wp2_with fail
        refine (hHL.out _).mono ?_
        rintro e w1 ⟨rfl, hb1⟩
        have B1 : Below (w.heap.size + 1) (w.alloc (Obj.cells #[Value.string ⟨#[]⟩, Value.bool false] 24)) w1 := (hbel.alloc (by simpa using hsz) _).trans (hb1.mono (by simp; omega))
        obtain ⟨d0, d1, f0, f1, hB⟩ := box_of B1
        have hs0 := cell_zero w1 w.heap.size (.string ⟨#[]⟩) (.bool false) d0
        have hs1 := cell_two w1 w.heap.size (.string ⟨#[]⟩) (.bool false) d1
        clear hb1 hx0 hx1 hbel B1
        go_wp2
        refine bodyPost_ret (v := noV 3) (by simp [results, Tryd.results21, go_sem, hs0, hs1, noV]) rfl ⟨rfl, ?_⟩
        exact (hB.setCell (p := ⟨w.heap.size, 0, none⟩) (Nat.le_refl _) _).setCell (p := ⟨w.heap.size, 1, none⟩) (Nat.le_refl _) _
      · have hn : ¬ (65536 : Int) < (preN L k : Int) + (lk.length : Int) := by omega
        have HPS := Lib.hid hps
        have HPW := Lib.hid hpw
        have HBG := Lib.hid hbig
        clear hps hlk hwk hpw hbig hpk
        go_wp2_with fail
        refine (hHL.out _).mono ?_
        rintro e w1 ⟨rfl, hb1⟩
        have B1 : Below (w.heap.size + 1) (w.alloc (Obj.cells #[Value.string ⟨#[]⟩, Value.bool false] 24)) w1 := (hbel.alloc (by simpa using hsz) _).trans (hb1.mono (by simp; omega))
        have T1 := (two_alloc wr (.string d) (.bool wk) 24).below hb1
        obtain ⟨_, c0, c1⟩ := T1
        clear hb1 hx0 hx1 hbel
        cases hp : preW L k
        all_goals
          go_wp2
          go_roundw
          case rel => exact ⟨k + 1, by omega, by go_num, by rw [HPS.out]; go_num, by rw [HPW.out, hp]; simp, B1, by have := HBG.out; omega⟩
          case measure => simp [intOf]; omega
    · obtain rfl : k = L.length := by omega
      have h1 := preN_all L
      have h2 := HT.out
      omega
end Go.Proofs.YtjpnkffdpcfnjaaDoor
