/-
  Slices of bytes that came in; text.Latin.
-/
import Derived.Test.YtjpnkffdpcfnjaaDoorCmp2
import Derived.Test.YtjpnkffdpcfnjaaDoorRound
set_option linter.unusedVariables false
namespace Go.Proofs.YtjpnkffdpcfnjaaDoor
open Go.RowKit

/-- A slice of integers that came in: nil, or a row of 'cap' cells, the numbers 'zs'. -/
def IsRow (k : IntKind) (w : World) (a : Option Addr) (len cap : Nat) (zs : List Int) : Prop :=
  (a = none ∧ len = 0 ∧ cap = 0 ∧ zs = []) ∨
  ∃ x, a = some x ∧ len ≤ cap ∧ cap ≤ maxLen ∧ zs.length = cap ∧ (∀ i, i < zs.length → w.cell? (x.add i) = some (.int k (zs.getD i 0))) ∧ ∀ n ∈ zs, (Lit.int k n).wf = true

/-- A slice value whose elements are the bytes l, wherever it begins. -/
def BytesAt (w : World) (v : Value) (l : List Nat) : Prop :=
  ∃ a cap, v = .slice a l.length cap ∧ (∀ c ∈ l, c < 256) ∧ (l = [] ∨ ∃ b o, a = some ⟨b, o, none⟩ ∧ b < w.heap.size ∧ ∀ j (h : j < l.length), w.cell? ⟨b, o + j, none⟩ = some (.int .u8 (l[j] : Int)))

theorem BytesAt.below {w w' : World} {v : Value} {l : List Nat} (h : BytesAt w v l) (hb : Below w.heap.size w w') : BytesAt w' v l := by
  obtain ⟨a, cap, hv, h8, h⟩ := h
  refine ⟨a, cap, hv, h8, ?_⟩
  rcases h with h | ⟨b, o, ha, hlt, hc⟩
  · exact .inl h
  · exact .inr ⟨b, o, ha, Nat.lt_of_lt_of_le hlt hb.size, fun j hj => (hb.cell (p := ⟨b, o + j, none⟩) hlt).trans (hc j hj)⟩

theorem spot_none {w : World} {x : Addr} {v : Value} (h : w.cell? x = some v) : x.spot = none ∧ x.block < w.heap.size := by
  refine ⟨?_, World.block_lt_of_cell? w _ h⟩
  unfold World.cell? at h
  split at h
  · split at h
    · cases h
    · rename_i hs; simpa using hs
  · cases h

theorem isRow_bytes {w : World} {a : Option Addr} {len cap : Nat} {zs : List Int} (h : IsRow .u8 w a len cap zs) : ∃ l : List Nat, l.length = len ∧ BytesAt w (.slice a len cap) l := by
  rcases h with ⟨rfl, rfl, rfl, rfl⟩ | ⟨x, rfl, hl, hm, hz, hc, hw⟩
  · exact ⟨[], rfl, none, 0, rfl, by simp, .inl rfl⟩
  · have hb : ∀ i (h : i < len), 0 ≤ zs.getD i 0 ∧ zs.getD i 0 < 256 := fun i h => by
      have hi : i < zs.length := by omega
      have := hw _ (List.getElem_mem hi)
      rw [List.getD_eq_getElem?_getD, List.getElem?_eq_getElem hi]
      simp [Lit.wf, IntKind.min, IntKind.max, IntKind.signed, IntKind.bits] at this ⊢
      omega
    refine ⟨(zs.take len).map Int.toNat, by simp; omega, some x, cap, by simp; omega, ?_, ?_⟩
    · intro c hc'
      obtain ⟨n, hn, rfl⟩ := List.mem_map.1 hc'
      obtain ⟨i, hi, rfl⟩ := List.getElem_of_mem hn
      have h1 := hb i (by simp at hi; omega)
      rw [List.getD_eq_getElem?_getD, List.getElem?_eq_getElem (by simp at hi; omega)] at h1
      simp at h1 ⊢
      omega
    · by_cases h0 : len = 0
      · left
        subst h0
        rfl
      · right
        have h00 := hc 0 (by omega)
        rw [show x.add 0 = x from rfl] at h00
        obtain ⟨hs, hlt⟩ := spot_none h00
        obtain ⟨b, o, sp⟩ := x
        simp only at hs hlt
        subst hs
        refine ⟨b, o, rfl, hlt, fun j hj => ?_⟩
        have hj' : j < len := by simp at hj; omega
        have e : (⟨b, o, none⟩ : Addr).add j = ⟨b, o + j, none⟩ := by unfold Addr.add; split <;> simp_all
        have := hc j (by omega)
        rw [e] at this
        rw [this]
        have h1 := hb j hj'
        rw [List.getD_eq_getElem?_getD, List.getElem?_eq_getElem (by omega)] at h1 ⊢
        simp at h1 ⊢
        omega

theorem convert_bytes {w : World} {v : Value} {l : List Nat} (h : BytesAt w v l) :
    (convert 40 9 v).run Tryd.prog w = .ok (.string ⟨(l.map UInt8.ofNat).toArray⟩) w := by
  obtain ⟨a, cap, rfl, h8, h⟩ := h
  rcases h with rfl | ⟨b, o, rfl, hlt, hc⟩
  · cases a with
    | none => exact Lib.run_convert_nil_bytes w _ _ _ cap Tryd.underlying40 Tryd.underlying5 Tryd.underlying9
    | some a => exact run_convert_bytes_back w _ _ _ a cap [] Tryd.underlying40 Tryd.underlying5 Tryd.underlying9 (fun j hj => absurd hj (Nat.not_lt_zero _))
  · have hb := run_convert_bytes_back w _ _ _ ⟨b, o, none⟩ cap (l.map UInt8.ofNat) Tryd.underlying40 Tryd.underlying5 Tryd.underlying9 (fun j hj => by
      have hj' : j < l.length := by simpa using hj
      have e : (⟨b, o, none⟩ : Addr).add j = ⟨b, o + j, none⟩ := by unfold Addr.add; split <;> simp_all
      rw [e, hc j hj']
      have := h8 l[j] (List.getElem_mem hj')
      simp
      omega)
    simpa using hb

theorem narrow_of (l : List Nat) (h : ∀ c ∈ l, c < 256) : wideL l = false := by
  unfold wideL
  rw [List.any_eq_false]
  intro c hc
  have := h c hc
  simp
  omega

theorem pk_narrow (l : List Nat) (h : ∀ c ∈ l, c < 256) : strV l = .agg #[.string ⟨(l.map UInt8.ofNat).toArray⟩, .bool false] := by
  unfold strV pk packB
  rw [narrow_of l h]
  rfl

set_option maxHeartbeats 1000000 in
theorem latin_ok (l : List Nat) (hl : l.length ≤ 65536) (v : Value) (w : World) (h : BytesAt w v l) :
    Calls Tryd.prog 16 #[v] w fun e w' => e = .returned (.tuple #[strV l, .int .i64 0]) ∧ Below w.heap.size w w' := by
  have h8 : ∀ c ∈ l, c < 256 := by obtain ⟨_, _, _, h8, _⟩ := h; exact h8
  rw [pk_narrow l h8]
  have hn := h.below (w' := w.alloc (.cells #[.string ⟨#[]⟩, .bool false] 24)) ((Below.refl _ _).alloc (Nat.le_refl _) _)
  have hcv := convert_bytes hn
  obtain ⟨a, cap, rfl, _⟩ := h
  generalize (⟨(l.map UInt8.ofNat).toArray⟩ : ByteArray) = t at *
  have hnb : ¬ (65536 : Int) < (l.length : Int) := by omega
  clear hn h8 hl
  go_enter Tryd.func16, Tryd.ntmps16
  go_wp2
  refine bodyPost_ret (v := .tuple #[.agg #[.string t, .bool false], .int .i64 0]) (by simp [results, Tryd.results16, go_sem]) rfl ⟨rfl, ?_⟩
  exact (Below.refl _ _).alloc (Nat.le_refl _) _
end Go.Proofs.YtjpnkffdpcfnjaaDoor
