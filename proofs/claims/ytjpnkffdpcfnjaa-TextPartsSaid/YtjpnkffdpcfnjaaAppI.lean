/-
  Slices of ints: parts of them, and append.
-/
import Derived.Test.YtjpnkffdpcfnjaaErrs
import Derived.Laws.AppendOwnNone
set_option linter.unusedVariables false
namespace Go.Proofs.Ytjpnkffdpcfnjaa
open Go.RowKit

/-- A slice of the numbers l: nil, or a row from some place of a block on. -/
def IntsD (w : World) (v : Value) (l : List Nat) : Prop :=
  (v = .slice none 0 0 ∧ l = []) ∨ ∃ b o cap, v = .slice (some ⟨b, o, none⟩) l.length cap ∧ l.length ≤ cap ∧ cap ≤ maxLen ∧ b < w.heap.size ∧ ∀ j (h : j < l.length), w.cell? ⟨b, o + j, none⟩ = some (.int .i64 (l[j] : Int))
theorem IntsD.at {w : World} {v : Value} {l : List Nat} (h : IntsD w v l) : IntsAt w v l := by
  rcases h with ⟨rfl, rfl⟩ | ⟨b, o, cap, rfl, _, _, hb, hc⟩
  · exact ⟨none, 0, rfl, .inl rfl⟩
  · exact ⟨_, cap, rfl, .inr ⟨b, o, rfl, hb, hc⟩⟩
theorem IntsD.below {w w' : World} {v : Value} {l : List Nat} (h : IntsD w v l) (hb : Below w.heap.size w w') : IntsD w' v l := by
  rcases h with h | ⟨b, o, cap, hv, h1, h2, hlt, hc⟩
  · exact .inl h
  · exact .inr ⟨b, o, cap, hv, h1, h2, Nat.lt_of_lt_of_le hlt hb.size, fun j hj => (hb.cell (p := ⟨b, o + j, none⟩) hlt).trans (hc j hj)⟩
theorem Ints.d {w : World} {base : Nat} {v : Value} {l : List Nat} (h : Ints w base v l) : IntsD w v l := by
  rcases row_form h with ⟨rfl, hn⟩ | ⟨g, cap, rfl, h1, h2, _, hg, hcell⟩
  · exact .inl ⟨rfl, List.length_eq_zero_iff.1 hn⟩
  · refine .inr ⟨g, 0, cap, rfl, h1, h2, hg, fun j hj => ?_⟩
    rw [Nat.zero_add, hcell j hj]
    simp [intsV, hj]
theorem sub_get (l : List Nat) (i j k : Nat) (hk : k < (sub l i j).length) (h : i + k < l.length) : (sub l i j)[k] = l[i + k] := by
  simp only [sub, List.getElem_take, List.getElem_drop]
/-- A part of a row. -/
theorem part_d {w : World} {b o i j cap : Nat} {l : List Nat} (hb : b < w.heap.size) (hc : ∀ j (h : j < l.length), w.cell? ⟨b, o + j, none⟩ = some (.int .i64 (l[j] : Int))) (hij : i ≤ j) (hj : j ≤ l.length) (hcap : l.length ≤ cap) (hm : cap ≤ maxLen) :
    IntsD w (.slice (some ⟨b, o + i, none⟩) (j - i) (cap - i)) (sub l i j) := by
  have hl := sub_len l i j hij hj
  refine .inr ⟨b, o + i, cap - i, by rw [hl], by omega, by omega, hb, fun k hk => ?_⟩
  rw [hl] at hk
  rw [Nat.add_assoc, hc (i + k) (by omega), sub_get l i j k (by omega) (by omega)]
theorem part_e {w : World} {b o i : Nat} {l : List Nat} {c : Nat} (hb : b < w.heap.size) : IntsD w (.slice (some ⟨b, o, none⟩) 0 c) (sub l i i) ∨ maxLen < c := by
  by_cases h : c ≤ maxLen
  · refine .inl (.inr ⟨b, o, c, by simp [sub], by simp [sub], h, hb, fun k hk => by simp [sub] at hk⟩)
  · exact .inr (by omega)

theorem append_ints {P : Program} {w : World} {ops : Array Oper} {rest : List Oper} {o : Oper} {a : Act} {Q : Exit → Act → World → Prop} (hgd : o.guard = none) (s x : Operand) (t : TypeId)
    (ho : o.op = .call { callee := .builtin .append, args := #[s, x], argTypes := #[t, t] })
    (base : Nat) (e : TypeId) (i : TypeInfo) (ht : P.underlying t = some (.slice e)) (hi : P.info? e = some i) (hz : i.zero = some (.int .i64 0)) (hsize : i.size = 1) (hby : i.bytes = 8)
    (v : Value) (n : Nat) (xs : List Value) (hs : a.eval s = v) (hown : w.ownsRow base e 1 v n xs)
    (src : Value) (l : List Nat) (hx : a.eval x = src) (hd : IntsD w src l) (hn : n + l.length ≤ 1000000) (hbase : base ≤ w.heap.size)
    (h : ∀ v' w', w'.ownsRow base e 1 v' (n + l.length) (xs ++ intsV l) → w.grownBy w' v.ownBlock → wpList P ops Q rest (a.put o.dst v') w') : wpList P ops Q (o :: rest) a w := by
  rcases hd with ⟨rfl, rfl⟩ | ⟨b, off, cap, rfl, h1, h2, hlt, hc⟩
  · exact wpList_append_own_none hgd s x t ho base e i 1 ht hi v n xs hs hown hx (h v w (by simpa [intsV] using hown) (World.grownBy.refl w _))
  · refine wpList_append_own w hgd s x t ho base e i (.int .i64 0) 1 8 ht hi hz hsize hby rfl (by decide) v n xs hs hown ⟨b, off, none⟩ l.length cap (intsV l) hx (by simp [intsV]) ?_ ?_ (by unfold maxLen; omega) (by omega) hbase (fun v' w' g1 g2 _ => h v' w' g1 g2)
    · intro j u hj
      have hjl : j < l.length := by
        have := (List.getElem?_eq_some_iff.1 hj).1
        simpa [intsV] using this
      have e1 : (⟨b, off, none⟩ : Addr).add j = ⟨b, off + j, none⟩ := by
        unfold Addr.add
        split
        · rename_i h0; subst h0; rfl
        · rfl
      rw [e1, hc j hjl, ← hj]
      simp [intsV, hjl]
    · intro u hu
      simp only [intsV, List.mem_map] at hu
      obtain ⟨c, _, rfl⟩ := hu
      rfl
end Go.Proofs.Ytjpnkffdpcfnjaa
