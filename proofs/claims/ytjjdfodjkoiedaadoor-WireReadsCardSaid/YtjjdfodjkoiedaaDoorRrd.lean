/-
  acheronlaw02.referRead: the five blocks that it makes.
-/
import Derived.Test.YtjjdfodjkoiedaaDoorRr7
import Derived.Test.YtjjdfodjkoiedaaDoorRd
set_option linter.unusedVariables false
namespace Go.Proofs.YtjjdfodjkoiedaaDoor
open Go.RowKit

def Trip (w : World) (b : Nat) (u0 u1 u2 : Value) : Prop :=
  (w.cell? ⟨b, 0, none⟩ = some u0 ∧ w.cell? ⟨b, 1, none⟩ = some u1 ∧ w.cell? ⟨b, 2, none⟩ = some u2) ∧
  (w.frozen? ⟨b, 0, none⟩ = false ∧ w.frozen? ⟨b, 1, none⟩ = false ∧ w.frozen? ⟨b, 2, none⟩ = false)
theorem trip_of {w : World} {b : Nat} {u0 u1 u2 : Value} {T : TypeId} (h : w.heap[b]? = some (.cells #[u0, u1, u2] T (0, 0))) : Trip w b u0 u1 u2 := by
  unfold Trip
  simp [World.cell?, World.frozen?, h]

/-- The world in which referRead calls. -/
def V5 (w : World) (S : ByteArray) (i e k n : Int) : World :=
  ((((w.alloc (.cells #[.string S, .int .i64 i, .int .i64 e] 40)).alloc (.cells #[.int .i64 k, .int .i64 n] 42)).alloc (.cells #[.int .i64 0, .int .i64 0, .int .i64 0, .string ⟨#[]⟩, .slice none 0 0] 31)).alloc
    (.cells #[.string ⟨#[]⟩, .int .i64 0, .int .i64 0] 40)).alloc (.cells #[.int .i64 0, .int .i64 0, .int .i64 0, .string ⟨#[]⟩, .slice none 0 0] 31)
theorem al_old (w : World) (o : Obj) (b : Nat) (h : b < w.heap.size) : (w.alloc o).heap[b]? = w.heap[b]? := (below_al (o := o) (Below.refl w.heap.size w)).block b h
theorem v5_facts {w w1 : World} {S : ByteArray} {i e k n : Int} (hb : Below (V5 w S i e k n).heap.size (V5 w S i e k n) w1) :
    Trip w1 w.heap.size (.string S) (.int .i64 i) (.int .i64 e) ∧ Five w1 (w.heap.size + 1 + 1) ∧ Trip w1 (w.heap.size + 1 + 1 + 1) (.string ⟨#[]⟩) (.int .i64 0) (.int .i64 0) ∧ Five w1 (w.heap.size + 1 + 1 + 1 + 1) ∧ w.heap.size + 1 + 1 + 1 + 1 < w1.heap.size ∧ Below w.heap.size w w1 := by
  have hs : (V5 w S i e k n).heap.size = w.heap.size + 1 + 1 + 1 + 1 + 1 := by simp [V5]
  have hbl : ∀ b, b < w.heap.size + 1 + 1 + 1 + 1 + 1 → w1.heap[b]? = (V5 w S i e k n).heap[b]? := fun b hb' => hb.block b (by omega)
  have hsz := hb.size
  refine ⟨trip_of (T := 40) ?_, five_of ?_, trip_of (T := 40) ?_, five_of ?_, by omega, ?_⟩
  · rw [hbl _ (by omega)]
    unfold V5
    rw [al_old _ _ _ (by simp <;> omega), al_old _ _ _ (by simp <;> omega), al_old _ _ _ (by simp <;> omega), al_old _ _ _ (by simp)]
    exact heap_alloc_new w _
  · rw [hbl _ (by omega)]
    unfold V5
    rw [al_old _ _ _ (by simp <;> omega), al_old _ _ _ (by simp)]
    have := heap_alloc_new ((w.alloc (.cells #[.string S, .int .i64 i, .int .i64 e] 40)).alloc (.cells #[.int .i64 k, .int .i64 n] 42)) (.cells #[.int .i64 0, .int .i64 0, .int .i64 0, .string ⟨#[]⟩, .slice none 0 0] 31)
    simpa [z5] using this
  · rw [hbl _ (by omega)]
    unfold V5
    rw [al_old _ _ _ (by simp)]
    have := heap_alloc_new (((w.alloc (.cells #[.string S, .int .i64 i, .int .i64 e] 40)).alloc (.cells #[.int .i64 k, .int .i64 n] 42)).alloc (.cells #[.int .i64 0, .int .i64 0, .int .i64 0, .string ⟨#[]⟩, .slice none 0 0] 31)) (.cells #[.string ⟨#[]⟩, .int .i64 0, .int .i64 0] 40)
    simpa using this
  · rw [hbl _ (by omega)]
    have := heap_alloc_new ((((w.alloc (.cells #[.string S, .int .i64 i, .int .i64 e] 40)).alloc (.cells #[.int .i64 k, .int .i64 n] 42)).alloc (.cells #[.int .i64 0, .int .i64 0, .int .i64 0, .string ⟨#[]⟩, .slice none 0 0] 31)).alloc
      (.cells #[.string ⟨#[]⟩, .int .i64 0, .int .i64 0] 40)) (.cells #[.int .i64 0, .int .i64 0, .int .i64 0, .string ⟨#[]⟩, .slice none 0 0] 31)
    simpa [V5, z5] using this
  · have h0 : Below w.heap.size w (V5 w S i e k n) := below_al (below_al (below_al (below_al (below_al (Below.refl _ _)))))
    exact h0.trans (hb.mono (by omega))

end Go.Proofs.YtjjdfodjkoiedaaDoor
