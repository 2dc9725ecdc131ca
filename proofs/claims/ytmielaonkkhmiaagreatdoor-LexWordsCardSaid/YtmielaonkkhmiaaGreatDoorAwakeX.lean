/-
  The worked example of the chapter that every statement of layer 5 asks first.
-/
import Derived.Test.YtmielaonkkhmiaaGreatDoorToks
set_option linter.unusedVariables false
namespace Go.Proofs.YtmielaonkkhmiaaGreatDoor
open Go.RowKit

def exL : List Value := [.int .i64 1, .string ⟨#[120]⟩, .int .i64 0, .int .i64 0, .int .i64 3, .string ⟨#[58, 61]⟩, .int .i64 0, .int .i64 2, .int .i64 4, .string ⟨#[]⟩, .int .i64 31, .int .i64 5,
  .int .i64 3, .string ⟨#[59]⟩, .int .i64 0, .int .i64 10, .int .i64 0, .string ⟨#[]⟩, .int .i64 0, .int .i64 18]
theorem exL_eq : toksV 4 ++ [.int .i64 0, .string ⟨#[]⟩, .int .i64 0, .int .i64 18] = exL := rfl
theorem cell_at {w : World} {B g cap : Nat} (h : w.ownsRow B 34 4 (.slice (some ⟨g, 0, none⟩) 5 cap) 5 exL) (j : Nat) (u : Value) (hu : exL[j]? = some u) : w.cell? ⟨g, j, none⟩ = some u := by
  have := h.cells (g := g) rfl j u hu
  have hadd : (⟨g, 0, none⟩ : Addr).add j = ⟨g, j, none⟩ := by unfold Addr.add; split <;> simp_all
  rw [hadd] at this; exact this
set_option maxRecDepth 100000 in
set_option maxHeartbeats 4000000 in
theorem awake_any (w : World) (ht : TabX w) : Calls Tryz.prog 10 #[] w fun e w' => e = .returned (.bool true) ∧ Below w.heap.size w w' := by
  have HTK := Lib.hid (tokens_ex w ht)
  rw [exL_eq] at HTK
  have q0 : ∀ w, (binOp .eql 27 (.agg #[.int .i64 0, .int .i64 0]) (.agg #[.int .i64 0, .int .i64 0])).run Tryz.prog w = .ok (.bool true) w := fun _ => by kernel_rfl
  have q1 : ∀ w, (binOp .eql 34 (.agg #[.int .i64 1, .string ⟨#[120]⟩, .int .i64 0, .int .i64 0]) (.agg #[.int .i64 1, .string ⟨#[120]⟩, .int .i64 0, .int .i64 0])).run Tryz.prog w = .ok (.bool true) w := fun _ => by kernel_rfl
  have q2 : ∀ w, (binOp .eql 34 (.agg #[.int .i64 3, .string ⟨#[58, 61]⟩, .int .i64 0, .int .i64 2]) (.agg #[.int .i64 3, .string ⟨#[58, 61]⟩, .int .i64 0, .int .i64 2])).run Tryz.prog w = .ok (.bool true) w := fun _ => by kernel_rfl
  have q3 : ∀ w, (binOp .eql 34 (.agg #[.int .i64 4, .string ⟨#[]⟩, .int .i64 31, .int .i64 5]) (.agg #[.int .i64 4, .string ⟨#[]⟩, .int .i64 31, .int .i64 5])).run Tryz.prog w = .ok (.bool true) w := fun _ => by kernel_rfl
  have q4 : ∀ w, (binOp .eql 34 (.agg #[.int .i64 0, .string ⟨#[]⟩, .int .i64 0, .int .i64 18]) (.agg #[.int .i64 0, .string ⟨#[]⟩, .int .i64 0, .int .i64 18])).run Tryz.prog w = .ok (.bool true) w := fun _ => by kernel_rfl
  clear ht
  have hT : (⟨#[120, 32, 58, 61, 32, 49, 54, 114, 49, 70, 59, 32, 35, 32, 102, 105, 118, 101]⟩ : ByteArray) = exT := rfl
  go_enter Tryz.func10, Tryz.ntmps10
  go_wp2_with fail
  clear hT
  refine HTK.out.mono ?_
  rintro e w2 ⟨v, rfl, hrow, hb⟩
  obtain ⟨g, cap, rfl⟩ : ∃ g cap, v = .slice (some ⟨g, 0, none⟩) 5 cap := by
    rcases hrow.2 with ⟨_, h5⟩ | ⟨g, cap, _, rfl, _⟩
    · cases h5
    · exact ⟨g, cap, rfl⟩
  have HB := Lib.hid hb
  have HR := Lib.hid (hrow.alloc (.cells #[.int .i64 0, .int .i64 0] 27))
  clear hb hrow
  have c0 := cell_at HR.out 0 _ rfl
  have c1 := cell_at HR.out 1 _ rfl
  have c2 := cell_at HR.out 2 _ rfl
  have c3 := cell_at HR.out 3 _ rfl
  have c4 := cell_at HR.out 4 _ rfl
  have c5 := cell_at HR.out 5 _ rfl
  have c6 := cell_at HR.out 6 _ rfl
  have c7 := cell_at HR.out 7 _ rfl
  have c8 := cell_at HR.out 8 _ rfl
  have c9 := cell_at HR.out 9 _ rfl
  have c10 := cell_at HR.out 10 _ rfl
  have c11 := cell_at HR.out 11 _ rfl
  have c16 := cell_at HR.out 16 _ rfl
  have c17 := cell_at HR.out 17 _ rfl
  have c18 := cell_at HR.out 18 _ rfl
  have c19 := cell_at HR.out 19 _ rfl
  go_wp2_with fail
  go_ret
  exact ⟨rfl, HB.out.alloc HB.out.size _⟩
end Go.Proofs.YtmielaonkkhmiaaGreatDoor
