/-
  The reference's Quote.
-/
import Derived.Test.YtjpnkffdpcfnjaaDoorQuoM
import Derived.Test.YtjpnkffdpcfnjaaDoorRef2
set_option linter.unusedVariables false
namespace Go.Proofs.YtjpnkffdpcfnjaaDoor
open Go.RowKit

theorem cat_lists (a b : List UInt8) : (⟨a.toArray⟩ : ByteArray) ++ ⟨b.toArray⟩ = ⟨(a ++ b).toArray⟩ := by
  apply ByteArray.ext
  simp

def RQRel (l : List Nat) (w : World) (o i : Value) (wr : World) : Prop :=
  ∃ k : Nat, k ≤ l.length ∧ i = .int .i64 (k : Int) ∧ o = .string ⟨(34 :: (l.take k).flatMap quoteC).toArray⟩ ∧ Below w.heap.size w wr

theorem hexd_sub : ∀ k : Fin 16, (⟨#[48, 49, 50, 51, 52, 53, 54, 55, 56, 57, 97, 98, 99, 100, 101, 102]⟩ : ByteArray).extract k.val (k.val + 1) = ⟨[hexd k.val].toArray⟩ := by
  have key : ∀ k : Fin 16, ((⟨#[48, 49, 50, 51, 52, 53, 54, 55, 56, 57, 97, 98, 99, 100, 101, 102]⟩ : ByteArray).extract k.val (k.val + 1)).data.toList = [hexd k.val] := by decide +kernel
  intro k
  apply ByteArray.ext
  apply Array.toList_inj.1
  rw [key k]
theorem quote_pre' (l : List Nat) (k : Nat) : (34 :: (l.take k).flatMap quoteC : List UInt8).length ≤ 6 * l.length + 1 := by
  have h : ∀ m : List Nat, (m.flatMap quoteC).length ≤ 6 * m.length := by
    intro m
    induction m with
    | nil => simp
    | cons c m ih =>
      have := quoteC_len c
      simp only [List.flatMap_cons, List.length_append, List.length_cons]
      omega
  have h1 := h (l.take k)
  have h2 : (l.take k).length ≤ l.length := by rw [List.length_take]; omega
  rw [List.length_cons]
  omega
end Go.Proofs.YtjpnkffdpcfnjaaDoor
