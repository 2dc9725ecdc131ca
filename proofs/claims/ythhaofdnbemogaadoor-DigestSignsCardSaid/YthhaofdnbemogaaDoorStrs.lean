/-
  A slice of strings that came in; hashes by the bytes that they have.
-/
import Derived.Test.YthhaofdnbemogaaDoorMac
import Derived.SliceStrings
import Derived.Laws.Rows
import Derived.Deep.Slices
import Derived.OpenShut
import Derived.ShutString
import Derived.ChangeOld
import Derived.Carry
import Derived.ProofKit
import Derived.SevenTiedAt
set_option linter.unusedVariables false
set_option maxRecDepth 100000
namespace Go.Proofs.YthhaofdnbemogaaDoor
open Go.ChangeShapes Go.WideShapes Go.ChangeAt Go.WideElems Go.RowKit Go.Deep

theorem spot_none {w : World} {x : Addr} {v : Value} (h : w.cell? x = some v) : x.spot = none ∧ x.block < w.heap.size := by
  refine ⟨?_, World.block_lt_of_cell? w _ h⟩
  unfold World.cell? at h
  split at h
  · split at h
    · cases h
    · rename_i hs; simpa using hs
  · cases h
theorem addr_of {w : World} {x : Addr} {v : Value} (h : w.cell? x = some v) : ∃ b o, x = ⟨b, o, none⟩ ∧ b < w.heap.size := by
  obtain ⟨hs, hb⟩ := spot_none h
  obtain ⟨b, o, sp⟩ := x
  simp only at hs hb
  subst hs
  exact ⟨b, o, rfl, hb⟩
theorem add_none (b o j : Nat) : (⟨b, o, none⟩ : Addr).add j = ⟨b, o + j, none⟩ := by unfold Addr.add; split <;> simp_all

theorem wpList_load_row_g {P : Program} {ops : Array Oper} {rest : List Oper} {o : Oper} {a : Act} {w : World} {Q : Exit → Act → World → Prop} (hw : Region.wanted o (yielded ops a.tmps) = true) (ty : TypeId) (x : Operand) (ho : o.op = .load ty x)
    (g : Nat) (hx : a.eval x = .pointer (some ⟨g, 0, none⟩)) (t : TypeId) (cs : Array Value) (fr : Nat × Nat) (d : TypeDesc) (hg : w.heap[g]? = some (.cells cs t fr))
    (hu : P.underlying ty = some d) (hd : (match d with | .struct _ | .array _ _ => true | _ => false) = true) (hi : (P.info? ty).map (·.size) = some cs.size)
    (h : wpList P ops Q rest (a.put o.dst (.agg cs)) w) : wpList P ops Q (o :: rest) a w := by
  unfold wpList
  rw [if_pos hw]
  exact Or.inl (wp_load_row ty x ho g hx t cs fr d hg hu hd hi h)
/-- A slice of strings. -/
def StrsAt (w : World) (v : Value) (ss : List ByteArray) : Prop :=
  ∃ a cap, v = .slice a ss.length cap ∧ (ss = [] ∨ ∃ b o, a = some ⟨b, o, none⟩ ∧ b < w.heap.size ∧ ∀ j, j < ss.length → w.cell? ⟨b, o + j, none⟩ = some (.string (ss.getD j ByteArray.empty)))
variable {H : Type} {enc : TypeId × Value → H} {W : World} {held : Bool}
theorem open_strs {r : Reach} {b0 : Nat} {v : Value} {d : DataW H} {p : List MemPlace} (hv : Value.okWide Tryd.prog W r b0 22 v) (h : DataW.Trod enc Tryd.prog W 0 (fun _ => true) held 22 v d p) :
    ∃ ss, StrsAt W v ss := by
  obtain ⟨a0, len0, cap0, rfl⟩ := okWide_slice Tryd.underlying22 hv
  obtain ⟨fuel, hf⟩ := h
  rcases open_strings Tryd.underlying22 Tryd.underlying9 (by kernel_rfl) hf with ⟨hcs, _⟩ | ⟨a, len, cap, ss, hcs, _, hl, _, hlen, _, hc, _⟩
  · simp [Value.cells] at hcs
    obtain ⟨rfl, rfl, rfl⟩ := hcs
    exact ⟨[], none, 0, rfl, .inl rfl⟩
  · simp [Value.cells] at hcs
    obtain ⟨rfl, rfl, rfl⟩ := hcs
    have hle : len0 ≤ ss.length := by rw [hlen]; split <;> omega
    have htl : (ss.take len0).length = len0 := by simp; omega
    refine ⟨ss.take len0, some a, cap0, by rw [htl], ?_⟩
    by_cases h0 : len0 = 0
    · left; subst h0; rfl
    · right
      have h00 := hc 0 (by omega)
      rw [show a.add 0 = a from rfl] at h00
      obtain ⟨b, o, rfl, hlt⟩ := addr_of h00
      refine ⟨b, o, rfl, hlt, fun j hj => ?_⟩
      have hj' : j < len0 := by rw [htl] at hj; exact hj
      have := hc j (by omega)
      rw [add_none] at this
      rw [this]
      simp [List.getD_eq_getElem?_getD, List.getElem?_take_of_lt hj']

/-- The hash that has these bytes. -/
def hashOf (L : List UInt8) : Array Value := hashV (absorb zero8 L) (strL (restL L)) (L.length : Int)
theorem hashOf_size (L : List UInt8) : (hashOf L).size = 10 := by unfold hashOf; rw [hashV_size, absorb_len rfl]
theorem hashOf_one (L : List UInt8) : (hashOf L).all (·.oneCell') = true := hashV_one _ _ _
theorem addH_any (L : List UInt8) (s : ByteArray) (hL : L.length ≤ 100000) (hs : s.size ≤ 100000) (w : World) (ht : TabD w) :
    Calls Tryd.prog 12 #[.agg (hashOf L), .string s] w fun e w' => e = .returned (.agg (hashOf (L ++ s.data.toList))) ∧ Below w.heap.size w w' := by
  have h := add_any (absorb zero8 L) (strL (restL L)) (L.length : Int) s (absorb_len rfl _) (by omega) (by omega) (by omega) (by rw [strL_size, restL_len]; omega) w ht
  have e : (L.length : Int) + (s.size : Int) = ((L ++ s.data.toList).length : Int) := by rw [List.length_append]; simp
  rw [strL_data, absorb_app, restL_app, e] at h
  exact h
theorem sumH_any (L : List UInt8) (hL : L.length ≤ 100000) (w : World) (ht : TabD w) :
    Calls Tryd.prog 13 #[.agg (hashOf L)] w fun e w' => e = .returned (.string (strL (shaL L))) ∧ Below w.heap.size w w' :=
  hsum_any (absorb zero8 L) (strL (restL L)) L.length (absorb_len rfl _) (by omega) (by rw [strL_size, restL_len]) w ht
set_option maxHeartbeats 1000000 in
theorem lenH_any (L : List UInt8) (w : World) :
    Calls Tryd.prog 15 #[.agg (hashOf L)] w fun e w' => e = .returned (.int .i64 (L.length : Int)) ∧ Below w.heap.size w w' := by
  obtain ⟨r, hr⟩ : ∃ r, r = strL (restL L) := ⟨_, rfl⟩
  obtain ⟨n, hn⟩ : ∃ n : Int, n = (L.length : Int) := ⟨_, rfl⟩
  obtain ⟨a, b, c, d, e, f, g, i, hA⟩ := eight (absorb_len (A := zero8) rfl L)
  unfold hashOf
  rw [hA, ← hr, ← hn]
  rw [show (.agg (hashV [a, b, c, d, e, f, g, i] r n) : Value) = .agg #[.int .u32 a, .int .u32 b, .int .u32 c, .int .u32 d, .int .u32 e, .int .u32 f, .int .u32 g, .int .u32 i, .string r, .int .i64 n] from rfl]
  clear hA hr hn
  go_enter Tryd.func15, Tryd.ntmps15
  go_wp2
  go_ret
  exact ⟨rfl, (Below.refl _ _).alloc (Nat.le_refl _) _⟩
/-- The bytes of the first k strings. -/
def catK (ss : List ByteArray) (k : Nat) : List UInt8 := ((ss.take k).map (·.data.toList)).flatten
theorem catK_step (ss : List ByteArray) (k : Nat) (h : k < ss.length) : catK ss (k + 1) = catK ss k ++ (ss.getD k ByteArray.empty).data.toList := by
  rw [catK, List.take_succ_eq_append_getElem h, List.map_append, List.flatten_append, catK]
  simp [List.getD_eq_getElem?_getD, List.getElem?_eq_getElem h]
end Go.Proofs.YthhaofdnbemogaaDoor
