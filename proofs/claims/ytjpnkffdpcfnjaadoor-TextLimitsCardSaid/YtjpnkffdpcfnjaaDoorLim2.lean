/-
  text.Of of a text with too many characters; text.Latin of too many bytes.
-/
import Derived.Test.YtjpnkffdpcfnjaaDoorLim
set_option linter.unusedVariables false
namespace Go.Proofs.YtjpnkffdpcfnjaaDoor
open Go.RowKit

def OfLRel (s : ByteArray) (w : World) (o : Obj) (v : Value) (wr : World) : Prop :=
  ∃ (pos fuel : Nat) (acc : List Nat), wr.ownsRow (w.heap.size + 2) 21 1 v acc.length (runeV acc) ∧ wr.heap[w.heap.size + 1]? = some (.stringIter s pos) ∧ Below (w.heap.size + 1) (w.alloc o) wr ∧ acc ++ decF s fuel pos = decs s ∧ s.size ≤ pos + fuel ∧ acc.length ≤ 65536

set_option maxHeartbeats 1000000 in
theorem Of_limit (s : ByteArray) (w : World) (hs : s.size ≤ 1000000000) (hl : 65536 < (decs s).length) :
    Calls Tryd.prog 18 #[.string s] w fun e w' => e = .returned (noV 3) ∧ Below w.heap.size w w' := by
  obtain ⟨i0, hi, hz0, hz1, hz2⟩ := info_parts infoRune
  go_enter Tryd.func18, Tryd.ntmps18
  go_wp2
  go_loopw [4, 6] (fun v _ wr => OfLRel s w (Obj.cells #[Value.string { data := #[] }, Value.bool false] 24) v wr) (fun _ _ wr => s.size - wr.iterPos (w.heap.size + 1))
  case atStart =>
    refine ⟨0, s.size, [], World.ownsRow_nil _ _ _ _, ?_, ?_, rfl, by omega, Nat.zero_le _⟩
    · have := World.iter_heap (w.alloc (Obj.cells #[Value.string { data := #[] }, Value.bool false] 24)) s 0
      simpa using this
    · exact (Below.refl _ _).alloc (by simp) _
  case round =>
    obtain ⟨pos, fuel, acc, hown, hit, hbel, hacc, hfu, hal⟩ := hrel
    have hsz : w.heap.size + 1 < wr.heap.size := (Array.getElem?_eq_some_iff.1 hit).1
    obtain ⟨ao, cap, rfl⟩ : ∃ ao cap, u4 = .slice ao acc.length cap := by
      rcases row_form hown with ⟨rfl, hn⟩ | ⟨g, cap, rfl, _⟩
      · exact ⟨none, 0, by rw [hn]⟩
      · exact ⟨_, _, rfl⟩
    by_cases hp : pos < s.size
    · have hnx : ∀ ty, (Instr.next (.pointer (some ⟨w.heap.size + 1, 0, none⟩)) true ty).run Tryd.prog wr = _ := fun ty => Lib.run_next_any_at wr (w.heap.size + 1) s pos ty hit hp
      have hwd := width_pos s pos hp
      obtain ⟨f, rfl⟩ : ∃ f, fuel = f + 1 := ⟨fuel - 1, by omega⟩
      have hdec : decF s (f + 1) pos = (Utf8.decode s pos).1 :: decF s f (pos + (Utf8.decode s pos).2) := by simp [decF, hp]
      rw [hdec] at hacc
      by_cases hfull : acc.length = 65536
      · have hne : ((acc.length : Int) == 65536) = true := by simp; omega
        have hbel2 := Lib.below_iterAt hbel (k := w.heap.size + 1) (by omega) s (pos + (Utf8.decode s pos).2)
        obtain ⟨d0, d1, f0, f1, hB⟩ := box_of hbel2
        generalize wr.iterAt (w.heap.size + 1) s (pos + (Utf8.decode s pos).2) = wi at *
        have hs0 := cell_zero wi w.heap.size (.string ⟨#[]⟩) (.bool false) d0
        have hs1 := cell_two wi w.heap.size (.string ⟨#[]⟩) (.bool false) d1
        clear hacc hdec hit hown hbel hbel2 hfull hal
        go_wp2
        refine bodyPost_ret (v := noV 3) (by simp [results, Tryd.results18, go_sem, hs0, hs1, noV]) rfl ⟨rfl, ?_⟩
        exact (hB.setCell (p := ⟨w.heap.size, 0, none⟩) (Nat.le_refl _) _).setCell (p := ⟨w.heap.size, 1, none⟩) (Nat.le_refl _) _
      have hlen : acc.length + 1 ≤ 65536 := by omega
      have hne : ((acc.length : Int) == 65536) = false := by simp; omega
      have hit2 := Lib.iterAt_heap wr (w.heap.size + 1) s pos (pos + (Utf8.decode s pos).2) hit
      have hbel2 := Lib.below_iterAt hbel (k := w.heap.size + 1) (by omega) s (pos + (Utf8.decode s pos).2)
      have hown2 := ownsRow_iterAt hown (k := w.heap.size + 1) (by omega) s (pos + (Utf8.decode s pos).2)
      have HA := Lib.hid hacc
      have HI := Lib.hid hit2
      have HI0 := Lib.hid hit
      clear hacc hdec hit hit2
      have hsz2 : w.heap.size + 1 < (wr.iterAt (w.heap.size + 1) s (pos + (Utf8.decode s pos).2)).heap.size := by rw [Lib.iterAt_size]; omega
      go_wp2_with (at_builtin; refine wpList_append_own _ rfl _ _ 62 rfl (w.heap.size + 2) 21 i0 (.int .i32 0) 1 4 Tryd.underlying62 hi hz0 hz1 hz2 rfl (by decide) _ _ _ rfl (hown2.alloc _) ⟨(wr.iterAt (w.heap.size + 1) s (pos + (Utf8.decode s pos).2)).heap.size, 0, none⟩ 1 1 [.int .i32 ((Utf8.decode s pos).1 : Int)] rfl rfl ?c1 ?c2 ?c3 ?c4 ?c5 ?_)
      case c1 =>
        intro j u hj
        match j, hj with
        | 0, hj => simp at hj; subst hj; simp [Addr.add]
      case c2 => intro u hu; simp at hu; subst hu; rfl
      case c3 => unfold maxLen; omega
      case c4 => omega
      case c5 => simp; omega
      intro v' w1 hown' hgrow _
      have hb1 := (hbel2.alloc (by omega) _).grown hgrow (by simp; omega) (fun j hj => by have := (hown2.lt j hj).1; omega)
      have hit3 : w1.heap[w.heap.size + 1]? = some (.stringIter s (pos + (Utf8.decode s pos).2)) := by
        rw [hgrow.block (w.heap.size + 1) (by simp; omega) (fun e => by have := (hown2.lt _ e.symm).1; omega), Below.heap_alloc _ _ _ hsz2]
        exact HI.out
      clear hbel hbel2 hown hown2
      go_wp2
      go_roundw
      case rel =>
        refine ⟨pos + (Utf8.decode s pos).2, f, acc ++ [(Utf8.decode s pos).1], ?_, hit3, hb1, ?_, by omega, by simp; omega⟩
        · have e : runeV (acc ++ [(Utf8.decode s pos).1]) = runeV acc ++ [.int .i32 ((Utf8.decode s pos).1 : Int)] := by simp [runeV]
          rw [e, List.length_append]
          exact hown'
        · rw [← HA.out]; simp
      case measure =>
        simp only [World.iterPos, hit3, HI0.out]
        omega
    · have hnx : ∀ ty, (Instr.next (.pointer (some ⟨w.heap.size + 1, 0, none⟩)) true ty).run Tryd.prog wr = _ := fun ty => Lib.run_next_end_at wr (w.heap.size + 1) s pos ty hit hp
      rw [decF_end s fuel pos hp, List.append_nil] at hacc
      rw [hacc] at hal
      omega

set_option maxHeartbeats 1000000 in
theorem latin_limit (l : List Nat) (hl : 65536 < l.length) (v : Value) (w : World) (h : BytesAt w v l) :
    Calls Tryd.prog 16 #[v] w fun e w' => e = .returned (noV 3) ∧ Below w.heap.size w w' := by
  obtain ⟨a, cap, rfl, _⟩ := h
  obtain ⟨n, hn⟩ : ∃ n : Int, (l.length : Int) = n := ⟨_, rfl⟩
  have hnb : (65536 : Int) < n := by omega
  clear hl
  go_enter Tryd.func16, Tryd.ntmps16
  obtain ⟨d0, d1, f0, f1, hB⟩ := box_of (Below.refl (w.heap.size + 1) (w.alloc (.cells #[.string ⟨#[]⟩, .bool false] 24)))
  go_wp2
  refine bodyPost_ret (v := noV 3) (by simp [results, Tryd.results16, go_sem, noV]) rfl ⟨rfl, ?_⟩
  exact hB
end Go.Proofs.YtjpnkffdpcfnjaaDoor
