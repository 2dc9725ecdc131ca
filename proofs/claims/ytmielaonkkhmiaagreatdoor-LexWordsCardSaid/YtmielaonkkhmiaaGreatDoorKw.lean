/-
  lex.IsKeyword, lex.leadingSign, lex.IsSign at any string.
-/
import Derived.Test.YtmielaonkkhmiaaGreatDoorLxA
import Derived.Below
import Derived.WalkLawsBesides
set_option linter.unusedVariables false
namespace Go.Proofs.YtmielaonkkhmiaaGreatDoor
open Go.RowKit

def kwV : Array Value := (keysL.map Value.string).toArray
def sgV : Array Value := (signsL.map Value.string).toArray
/-- The two tables as the program lays them. -/
def TabX (w : World) : Prop :=
  (∃ t fr, w.heap[0]? = some (.cells kwV t fr)) ∧ (∃ t fr, w.heap[1]? = some (.cells sgV t fr))
theorem TabX.of_block {w w' : World} (h : TabX w) (e0 : w'.heap[0]? = w.heap[0]?) (e1 : w'.heap[1]? = w.heap[1]?) : TabX w' := by
  unfold TabX at *
  rw [e0, e1]; exact h
theorem TabX.pos {w : World} (h : TabX w) : 1 < w.heap.size := by
  obtain ⟨_, t, fr, h⟩ := h
  exact (Array.getElem?_eq_some_iff.1 h).1
theorem TabX.below {B : Nat} {w w' : World} (h : TabX w) (hb : Below B w w') (hB : 1 < B) : TabX w' := h.of_block (hb.block _ (by omega)) (hb.block _ (by omega))
theorem kwV_size : kwV.size = 41 := by decide +kernel
theorem sgV_size : sgV.size = 49 := by decide +kernel
theorem kwV_at (i : Nat) (h : i < 41) : kwV[i]? = some (.string (keysL.getD i ⟨#[]⟩)) := by
  have : i < keysL.length := h
  unfold kwV
  rw [List.getElem?_toArray, List.getElem?_map, List.getD_eq_getElem?_getD, List.getElem?_eq_getElem this]
  rfl
theorem sgV_at (i : Nat) (h : i < 49) : sgV[i]? = some (.string (signsL.getD i ⟨#[]⟩)) := by
  have : i < signsL.length := h
  unfold sgV
  rw [List.getElem?_toArray, List.getElem?_map, List.getD_eq_getElem?_getD, List.getElem?_eq_getElem this]
  rfl
theorem infoStr : ∃ i, Tryz.prog.info? 9 = some i ∧ i.size = 1 := by
  cases h : Tryz.prog.info? 9 with
  | none => have := (show (Tryz.prog.info? 9).isSome = true by kernel_rfl); rw [h] at this; cases this
  | some i => exact ⟨i, rfl, by have := (show (Tryz.prog.info? 9).map (·.size) = some 1 by kernel_rfl); rw [h] at this; simpa using this⟩
theorem run_index_strs (T : TypeId) (n : Nat) (V : Array Value) (i : Nat) (x : Value) (hu : Tryz.prog.underlying T = some (.array n 9)) (hi : i < n) (hx : V[i]? = some x) (w : World) :
    (Instr.index T (.agg V) (.int .i64 (i : Int))).run Tryz.prog w = .ok x w := by
  obtain ⟨i0, h0, h1⟩ := infoStr
  simp [Instr.index, run_underlying hu, asIntOf, hi, part, isAgg, run_underlying Tryz.underlying9, sizeOf, typeInfo, h0, h1, hx]
def intOf : Value → Int
  | .int _ n => n
  | _ => 0
theorem any_no (L : List ByteArray) (s : ByteArray) (h : ∀ j, j < L.length → (s == L.getD j ⟨#[]⟩) = false) : L.any (fun k => s == k) = false := by
  rw [List.any_eq_false]
  intro x hx
  obtain ⟨j, hj, rfl⟩ := List.getElem_of_mem hx
  have := h j hj
  rw [List.getD_eq_getElem?_getD, List.getElem?_eq_getElem hj, Option.getD_some] at this
  rw [this]; decide
theorem any_yes (L : List ByteArray) (s : ByteArray) (j : Nat) (hj : j < L.length) (h : (s == L.getD j ⟨#[]⟩) = true) : L.any (fun k => s == k) = true := by
  rw [List.any_eq_true]
  rw [List.getD_eq_getElem?_getD, List.getElem?_eq_getElem hj, Option.getD_some] at h
  exact ⟨L[j], List.getElem_mem hj, h⟩
set_option maxRecDepth 100000 in
theorem isKeyword_any (s : ByteArray) (w : World) (ht : TabX w) : Calls Tryz.prog 13 #[.string s] w fun e w' => e = .returned (.bool (isKey s)) ∧ w = w' := by
  obtain ⟨⟨t, fr, hk⟩, _⟩ := ht
  have HK := Lib.hid hk
  clear hk
  have hsz := kwV_size
  have HA := Lib.hid kwV_at
  have HL : Hid (keysL.length = 41) := Lib.hid rfl
  have HN := Lib.hid (any_no keysL s)
  have HY := Lib.hid (any_yes keysL s)
  have HE : Hid (isKey s = keysL.any (fun k => s == k)) := Lib.hid rfl
  generalize kwV = V at *
  generalize isKey s = R at *
  generalize keysL = L at *
  go_enter Tryz.func13, Tryz.ntmps13
  go_wp2_with (refine wpList_load_row rfl 42 _ rfl 0 rfl t _ fr _ HK.out Tryz.underlying42 rfl ?z1 ?_; (case z1 => rw [hsz]; kernel_rfl))
  go_loop [4, 6] (fun _ i => ∃ k : Nat, k ≤ 41 ∧ i = .int .i64 k ∧ ∀ j, j < k → (s == L.getD j ⟨#[]⟩) = false) (fun _ i => 41 - (intOf i).toNat)
  case atStart => exact ⟨0, Nat.zero_le _, rfl, fun j h => absurd h (Nat.not_lt_zero j)⟩
  case round =>
    obtain ⟨k, hk, rfl, hno⟩ := hrel
    have HNO := Lib.hid hno
    clear hno
    by_cases hlt : k < 41
    · have hix := fun w => run_index_strs 42 41 V k _ Tryz.underlying42 hlt (HA.out k hlt) w
      have HYK := Lib.hid (HY.out k (by rw [HL.out]; exact hlt))
      have HNK : Hid ((s == L.getD k ⟨#[]⟩) = false → ∀ j, j < k + 1 → (s == L.getD j ⟨#[]⟩) = false) := Lib.hid (fun h j hj => by
        rcases Nat.lt_or_eq_of_le (Nat.le_of_lt_succ hj) with g | g
        · exact HNO.out j g
        · rw [g]; exact h)
      generalize L.getD k ⟨#[]⟩ = K at *
      rcases Bool.eq_false_or_eq_true (s == K) with g | g
      all_goals have g2 := g
      all_goals rw [beq_toListBytes] at g2
      · go_wp2
        go_ret
        exact ⟨ret_bool (by rw [HE.out, HYK.out g]), rfl⟩
      · go_wp2
        go_round
        case rel => exact ⟨k + 1, by omega, by go_num, HNK.out g⟩
        case measure => simp [intOf]; omega
    · obtain rfl : k = 41 := by omega
      have HF : Hid (R = false) := Lib.hid (by rw [HE.out]; exact HN.out (by rw [HL.out]; exact HNO.out))
      go_wp2
      go_ret
      exact ⟨ret_bool HF.out.symm, rfl⟩
set_option maxHeartbeats 1000000 in
theorem hasPrefixS_any (s p : ByteArray) (w : World) :
    Calls Tryz.prog 73 #[.string s, .string p] w fun e w' => e = .returned (.bool (Lib.hasPrefix s.data.toList p.data.toList)) ∧ w = w' := by
  rw [← Lib.hasPrefix_of_take, ← Lib.size_eq, ← Lib.size_eq]
  go_enter Tryz.func73, Tryz.ntmps73
  go_wp2
  · rename_i h
    go_ret
    refine ⟨?_, rfl⟩
    show Ending.returned (Value.bool ((s.extract 0 p.size).toList == p.toList)) = _
    rw [Lib.extract_toList, Lib.toList_data]
    simp [h]
  · rename_i h
    go_ret
    refine ⟨?_, rfl⟩
    show Ending.returned (Value.bool false) = _
    simp [h]
theorem hasPrefix_any (s p : ByteArray) (w : World) :
    Calls Tryz.prog 45 #[.string s, .string p] w fun e w' => e = .returned (.bool (Lib.hasPrefix s.data.toList p.data.toList)) ∧ w = w' := by
  have H := Lib.hid (fun w => hasPrefixS_any s p w)
  go_enter Tryz.func45, Tryz.ntmps45
  go_wp2_with fail
  refine (H.out _).mono ?_
  rintro e w1 ⟨rfl, rfl⟩
  go_wp2_with fail
  go_ret
  exact ⟨rfl, rfl⟩
theorem find_yes (L : List ByteArray) (f : ByteArray → Bool) (k : Nat) (hk : k < L.length) (hno : ∀ j, j < k → f (L.getD j ⟨#[]⟩) = false) (h : f (L.getD k ⟨#[]⟩) = true) : L.find? f = some (L.getD k ⟨#[]⟩) := by
  induction L generalizing k with
  | nil => exact absurd hk (Nat.not_lt_zero k)
  | cons a L ih =>
    cases k with
    | zero => simp only [List.getD_cons_zero] at h ⊢; simp [h]
    | succ k =>
      have h0 := hno 0 (Nat.succ_pos k)
      simp only [List.getD_cons_zero] at h0
      simp only [List.getD_cons_succ] at h ⊢
      rw [List.find?_cons, h0]
      exact ih k (by simpa using hk) (fun j hj => by have := hno (j + 1) (by omega); simpa using this) h
theorem find_no (L : List ByteArray) (f : ByteArray → Bool) (hno : ∀ j, j < L.length → f (L.getD j ⟨#[]⟩) = false) : L.find? f = none := by
  rw [List.find?_eq_none]
  intro x hx
  obtain ⟨j, hj, rfl⟩ := List.getElem_of_mem hx
  have := hno j hj
  rw [List.getD_eq_getElem?_getD, List.getElem?_eq_getElem hj, Option.getD_some] at this
  rw [this]; decide
set_option maxRecDepth 100000 in
theorem leadingSign_any (s : ByteArray) (w : World) (ht : TabX w) : Calls Tryz.prog 28 #[.string s] w fun e w' => e = .returned (.string (leadS s)) ∧ w = w' := by
  obtain ⟨_, ⟨t, fr, hk⟩⟩ := ht
  have HK := Lib.hid hk
  clear hk
  have hsz := sgV_size
  have HA := Lib.hid sgV_at
  have HL : Hid (signsL.length = 49) := Lib.hid rfl
  have HN := Lib.hid (find_no signsL (fun k => Lib.hasPrefix s.data.toList k.data.toList))
  have HY := Lib.hid (find_yes signsL (fun k => Lib.hasPrefix s.data.toList k.data.toList))
  have HE : Hid (leadS s = (signsL.find? (fun k => Lib.hasPrefix s.data.toList k.data.toList)).getD ⟨#[]⟩) := Lib.hid rfl
  generalize sgV = V at *
  generalize leadS s = R at *
  generalize signsL = L at *
  go_enter Tryz.func28, Tryz.ntmps28
  go_wp2_with (refine wpList_load_row rfl 66 _ rfl 1 rfl t _ fr _ HK.out Tryz.underlying66 rfl ?z1 ?_; (case z1 => rw [hsz]; kernel_rfl))
  go_loop [4, 6] (fun _ i => ∃ k : Nat, k ≤ 49 ∧ i = .int .i64 k ∧ ∀ j, j < k → Lib.hasPrefix s.data.toList (L.getD j ⟨#[]⟩).data.toList = false) (fun _ i => 49 - (intOf i).toNat)
  case atStart => exact ⟨0, Nat.zero_le _, rfl, fun j h => absurd h (Nat.not_lt_zero j)⟩
  case round =>
    obtain ⟨k, hk, rfl, hno⟩ := hrel
    have HNO := Lib.hid hno
    clear hno
    by_cases hlt : k < 49
    · have hix := fun w => run_index_strs 66 49 V k _ Tryz.underlying66 hlt (HA.out k hlt) w
      have HYK := Lib.hid (HY.out k (by rw [HL.out]; exact hlt) HNO.out)
      have HNK : Hid (Lib.hasPrefix s.data.toList (L.getD k ⟨#[]⟩).data.toList = false → ∀ j, j < k + 1 → Lib.hasPrefix s.data.toList (L.getD j ⟨#[]⟩).data.toList = false) := Lib.hid (fun h j hj => by
        rcases Nat.lt_or_eq_of_le (Nat.le_of_lt_succ hj) with g | g
        · exact HNO.out j g
        · rw [g]; exact h)
      generalize L.getD k ⟨#[]⟩ = K at *
      have HP := Lib.hid (fun w => hasPrefix_any s K w)
      rcases Bool.eq_false_or_eq_true (Lib.hasPrefix s.data.toList K.data.toList) with g | g
      all_goals rw [g] at HP
      · have HR : Hid (R = K) := Lib.hid (by rw [HE.out, HYK.out g]; rfl)
        clear g
        go_wp2_with fail
        refine (HP.out _).mono ?_
        rintro e w1 ⟨rfl, rfl⟩
        go_wp2_with fail
        go_ret
        exact ⟨by rw [HR.out]; rfl, rfl⟩
      · have HNK2 := Lib.hid (HNK.out g)
        clear g
        go_wp2_with fail
        refine (HP.out _).mono ?_
        rintro e w1 ⟨rfl, rfl⟩
        go_wp2_with fail
        go_round
        case rel => exact ⟨k + 1, by omega, by go_num, HNK2.out⟩
        case measure => simp [intOf]; omega
    · obtain rfl : k = 49 := by omega
      have HF : Hid (R = ⟨#[]⟩) := Lib.hid (by rw [HE.out, HN.out (by rw [HL.out]; exact HNO.out)]; rfl)
      go_wp2
      go_ret
      exact ⟨by rw [HF.out]; rfl, rfl⟩
set_option maxRecDepth 100000 in
theorem isSign_any (s : ByteArray) (w : World) (ht : TabX w) : Calls Tryz.prog 15 #[.string s] w fun e w' => e = .returned (.bool (isSgn s)) ∧ w = w' := by
  have HS := Lib.hid (fun w' (h : TabX w') => leadingSign_any s w' h)
  have HT := Lib.hid ht
  have HE := Lib.hid (sign_eq s)
  clear ht
  generalize isSgn s = R at *
  generalize leadS s = K at *
  rcases Bool.eq_false_or_eq_true (s == ⟨#[]⟩) with g | g
  all_goals rw [g] at HE
  · obtain rfl := (ba_eq s ⟨#[]⟩).1 g
    clear g
    have hz : (⟨#[]⟩ : ByteArray).toList = [] := by rw [ByteArray.toList_eq]
    go_enter Tryz.func15, Tryz.ntmps15
    go_wp2_with fail
    go_ret
    exact ⟨ret_bool (by rw [← HE.out]; rfl), rfl⟩
  · have hz : ¬ s.toList = [] := by
      intro h
      have : s = ⟨#[]⟩ := ByteArray.ext (by rw [ByteArray.toList_eq] at h; exact Array.toList_inj.mp h)
      rw [(ba_eq s ⟨#[]⟩).2 this] at g
      cases g
    clear g
    have HZ : Hid (s.toList.isEmpty = false) := Lib.hid (by rw [List.isEmpty_eq_false_iff]; exact hz)
    have HE2 : Hid ((s.toList == K.toList) = R) := Lib.hid (by rw [← beq_toListBytes, ← HE.out]; simp)
    go_enter Tryz.func15, Tryz.ntmps15
    go_wp2_with fail
    refine (HS.out _ HT.out).mono ?_
    rintro e w1 ⟨rfl, rfl⟩
    go_wp2_with fail
    go_ret
    exact ⟨ret_bool (by rw [HE2.out, HZ.out]; rfl), rfl⟩
end Go.Proofs.YtmielaonkkhmiaaGreatDoor
