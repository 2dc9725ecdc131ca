/-
  text.Of: the string that is decoded from UTF-8.
-/
import Derived.Test.YtjpnkffdpcfnjaaDoorOf
import Derived.Lib.OthersKept
import Derived.WalkSmall
set_option linter.unusedVariables false
namespace Go.Proofs.YtjpnkffdpcfnjaaDoor
open Go.RowKit

theorem infoRune : (Tryd.prog.info? 21).map (fun i => (i.zero, i.size, i.bytes)) = some (some (.int .i32 0), 1, 4) := by kernel_rfl

theorem width_pos (s : ByteArray) (pos : Nat) (h : pos < s.size) : 1 ≤ (Utf8.decode s pos).2 := by
  by_cases ha : (s[pos]'h).toNat < 128
  · rw [decode_ascii s pos h ha]
    exact Nat.le_refl _
  · exact (decode_high s pos h (by omega)).2

theorem decF_end (s : ByteArray) (f pos : Nat) (h : ¬ pos < s.size) : decF s f pos = [] := by
  cases f with
  | zero => rfl
  | succ f => simp [decF, h]

theorem decode_lt (s : ByteArray) (pos : Nat) : (Utf8.decode s pos).1 < 1114112 ∧ ((Utf8.decode s pos).1 < 55296 ∨ 57343 < (Utf8.decode s pos).1) := by
  unfold Utf8.decode
  simp only []
  have e : Utf8.runeError = 65533 := rfl
  repeat' split
  all_goals simp only [Utf8.valid, Bool.and_eq_true, Bool.or_eq_true, decide_eq_true_eq, ge_iff_le, e] at *
  all_goals first
    | omega
    | (constructor <;> omega)

theorem decF_mem (s : ByteArray) (f pos : Nat) : ∀ c ∈ decF s f pos, c < 1114112 ∧ (c < 55296 ∨ 57343 < c) := by
  induction f generalizing pos with
  | zero => intro c hc; simp [decF] at hc
  | succ f ih =>
    intro c hc
    unfold decF at hc
    split at hc
    · rcases List.mem_cons.1 hc with rfl | hc
      · exact decode_lt s pos
      · exact ih _ c hc
    · simp at hc

theorem decs_lt (s : ByteArray) : ∀ c ∈ decs s, c < 16777216 := fun c hc => by
  have := (decF_mem s _ _ c hc).1
  omega

def OfRel (s : ByteArray) (w : World) (o : Obj) (v : Value) (wr : World) : Prop :=
  ∃ (pos fuel : Nat) (acc : List Nat), wr.ownsRow (w.heap.size + 2) 21 1 v acc.length (runeV acc) ∧ wr.heap[w.heap.size + 1]? = some (.stringIter s pos) ∧ Below (w.heap.size + 1) (w.alloc o) wr ∧ acc ++ decF s fuel pos = decs s ∧ s.size ≤ pos + fuel ∧ acc.length ≤ pos

set_option maxHeartbeats 1000000 in
theorem Of_ok (s : ByteArray) (w : World) (hs : s.size ≤ 1000000000) (hl : (decs s).length ≤ 65536) :
    Calls Tryd.prog 18 #[.string s] w fun e w' => e = .returned (.tuple #[strV (decs s), .int .i64 0]) ∧ Below w.heap.size w w' := by
  obtain ⟨i0, hi, hz0, hz1, hz2⟩ := info_parts infoRune
  go_enter Tryd.func18, Tryd.ntmps18
  go_wp2
  go_loopw [4, 6] (fun v _ wr => OfRel s w (Obj.cells #[Value.string { data := #[] }, Value.bool false] 24) v wr) (fun _ _ wr => s.size - wr.iterPos (w.heap.size + 1))
  case atStart =>
    refine ⟨0, s.size, [], World.ownsRow_nil _ _ _ _, ?_, ?_, rfl, by omega, Nat.le_refl _⟩
    · have := World.iter_heap (w.alloc (Obj.cells #[Value.string { data := #[] }, Value.bool false] 24)) s 0
      simpa using this
    · exact (Below.refl _ _).alloc (by simp) _
  case round =>
    obtain ⟨pos, fuel, acc, hown, hit, hbel, hacc, hfu, hal⟩ := hrel
    have hsz : w.heap.size + 1 < wr.heap.size := (Array.getElem?_eq_some_iff.1 hit).1
    obtain ⟨ao, cap, rfl⟩ : ∃ ao cap, u4 = .slice ao acc.length cap := by
      rcases row_form hown with ⟨rfl, hn⟩ | ⟨g, cap, rfl, _⟩
      · exact ⟨none, 0, by rw [hn]⟩
      · exact ⟨_, _, rfl⟩
    by_cases hp : pos < s.size
    · have hnx : ∀ ty, (Instr.next (.pointer (some ⟨w.heap.size + 1, 0, none⟩)) true ty).run Tryd.prog wr = _ := fun ty => Lib.run_next_any_at wr (w.heap.size + 1) s pos ty hit hp
      have hwd := width_pos s pos hp
      obtain ⟨f, rfl⟩ : ∃ f, fuel = f + 1 := ⟨fuel - 1, by omega⟩
      have hdec : decF s (f + 1) pos = (Utf8.decode s pos).1 :: decF s f (pos + (Utf8.decode s pos).2) := by simp [decF, hp]
      rw [hdec] at hacc
      have hlen : acc.length + 1 ≤ 65536 := by
        have := congrArg List.length hacc
        simp at this
        omega
      have hne : ((acc.length : Int) == 65536) = false := by simp; omega
      have hit2 := Lib.iterAt_heap wr (w.heap.size + 1) s pos (pos + (Utf8.decode s pos).2) hit
      have hbel2 := Lib.below_iterAt hbel (k := w.heap.size + 1) (by omega) s (pos + (Utf8.decode s pos).2)
      have hown2 := ownsRow_iterAt hown (k := w.heap.size + 1) (by omega) s (pos + (Utf8.decode s pos).2)
      have HA := Lib.hid hacc
      have HI := Lib.hid hit2
      have HI0 := Lib.hid hit
      clear hacc hdec hit hit2
      have hsz2 : w.heap.size + 1 < (wr.iterAt (w.heap.size + 1) s (pos + (Utf8.decode s pos).2)).heap.size := by rw [Lib.iterAt_size]; omega
      go_wp2_with (at_builtin; refine wpList_append_own _ rfl _ _ 62 rfl (w.heap.size + 2) 21 i0 (.int .i32 0) 1 4 Tryd.underlying62 hi hz0 hz1 hz2 rfl (by decide) _ _ _ rfl (hown2.alloc _) ⟨(wr.iterAt (w.heap.size + 1) s (pos + (Utf8.decode s pos).2)).heap.size, 0, none⟩ 1 1 [.int .i32 ((Utf8.decode s pos).1 : Int)] rfl rfl ?c1 ?c2 ?c3 ?c4 ?c5 ?_)
      case c1 =>
        intro j u hj
        match j, hj with
        | 0, hj => simp at hj; subst hj; simp [Addr.add]
      case c2 => intro u hu; simp at hu; subst hu; rfl
      case c3 => unfold maxLen; omega
      case c4 => omega
      case c5 => simp; omega
      intro v' w1 hown' hgrow _
      have hb1 := (hbel2.alloc (by omega) _).grown hgrow (by simp; omega) (fun j hj => by have := (hown2.lt j hj).1; omega)
      have hit3 : w1.heap[w.heap.size + 1]? = some (.stringIter s (pos + (Utf8.decode s pos).2)) := by
        rw [hgrow.block (w.heap.size + 1) (by simp; omega) (fun e => by have := (hown2.lt _ e.symm).1; omega), Below.heap_alloc _ _ _ hsz2]
        exact HI.out
      clear hbel hbel2 hown hown2
      go_wp2
      go_roundw
      case rel =>
        refine ⟨pos + (Utf8.decode s pos).2, f, acc ++ [(Utf8.decode s pos).1], ?_, hit3, hb1, ?_, by omega, by simp; omega⟩
        · have e : runeV (acc ++ [(Utf8.decode s pos).1]) = runeV acc ++ [.int .i32 ((Utf8.decode s pos).1 : Int)] := by simp [runeV]
          rw [e, List.length_append]
          exact hown'
        · rw [← HA.out]; simp
      case measure =>
        simp only [World.iterPos, hit3, HI0.out]
        omega
    · have hnx : ∀ ty, (Instr.next (.pointer (some ⟨w.heap.size + 1, 0, none⟩)) true ty).run Tryd.prog wr = _ := fun ty => Lib.run_next_end_at wr (w.heap.size + 1) s pos ty hit hp
      rw [decF_end s fuel pos hp, List.append_nil] at hacc
      subst hacc
      have hbw : Below w.heap.size w wr := ((Below.refl _ _).alloc (Nat.le_refl _) _).trans (hbel.mono (Nat.le_succ _))
      have hd0 : wr.cell? ⟨w.heap.size, 0, none⟩ = some (.string ⟨#[]⟩) := by
        rw [hbel.cell (p := ⟨w.heap.size, 0, none⟩) (by show w.heap.size < _; omega), World.cell?_alloc_at _ _ _ _ rfl]; rfl
      have hd1 : wr.cell? ⟨w.heap.size, 1, none⟩ = some (.bool false) := by
        rw [hbel.cell (p := ⟨w.heap.size, 1, none⟩) (by show w.heap.size < _; omega), World.cell?_alloc_at _ _ _ _ rfl]; rfl
      have hf0 : wr.frozen? ⟨w.heap.size, 0, none⟩ = false := by
        rw [hbel.frozen (p := ⟨w.heap.size, 0, none⟩) (by show w.heap.size < _; omega)]; exact World.frozen?_alloc_at _ _ _ _ rfl
      have hf1 : wr.frozen? ⟨w.heap.size, 1, none⟩ = false := by
        rw [hbel.frozen (p := ⟨w.heap.size, 1, none⟩) (by show w.heap.size < _; omega)]; exact World.frozen?_alloc_at _ _ _ _ rfl
      clear hit
      go_wp2_with fail
      have hpk := pack_any (decs s) _ _ wr (by omega) (decs_lt s) hown
      unfold strV at hpk
      refine hpk.mono ?_
      rintro e w2 ⟨rfl, hb2⟩
      have hlt : w.heap.size < wr.heap.size := by omega
      have he0 := (hb2.cell (p := ⟨w.heap.size, 0, none⟩) hlt).trans hd0
      have he1 := (hb2.cell (p := ⟨w.heap.size, 1, none⟩) hlt).trans hd1
      have hg0 := (hb2.frozen (p := ⟨w.heap.size, 0, none⟩) hlt).trans hf0
      have hg1 := (hb2.frozen (p := ⟨w.heap.size, 1, none⟩) hlt).trans hf1
      have hs0 := World.cell?_setCell_same w2 ⟨w.heap.size, 0, none⟩ (.string (pk (decs s))) he0
      have hs1 := cell_two w2 w.heap.size (.string (pk (decs s))) (.bool (wideL (decs s))) he1
      have hbw2 : Below w.heap.size w w2 := hbw.trans (hb2.mono (by omega))
      clear hd0 hd1 hf0 hf1 hbel hown hpk hnx
      go_wp2
      refine bodyPost_ret (v := .tuple #[.agg #[.string (pk (decs s)), .bool (wideL (decs s))], .int .i64 0]) (by simp [results, Tryd.results18, go_sem, hs0, hs1]) rfl ⟨rfl, ?_⟩
      exact (hbw2.setCell (p := ⟨w.heap.size, 0, none⟩) (Nat.le_refl _) _).setCell (p := ⟨w.heap.size, 1, none⟩) (Nat.le_refl _) _
end Go.Proofs.YtjpnkffdpcfnjaaDoor
