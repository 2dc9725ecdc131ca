/-
  lex.IsName and acheronref05.IsName at any string.
-/
import Derived.Test.YtmielaonkkhmiaaGreatDoorSc
import Derived.Test.YtmielaonkkhmiaaGreatDoorRefKw
set_option linter.unusedVariables false
namespace Go.Proofs.YtmielaonkkhmiaaGreatDoor
open Go.RowKit

set_option maxRecDepth 100000 in
theorem refDigit_any (c : Int) (w : World) : Calls Tryz.prog 43 #[.int .u8 c] w fun e w' => e = .returned (.bool (isDi c)) ∧ w = w' := by
  by_cases g0 : 48 ≤ c
  · have d0 : (decide (48 ≤ c)) = true := by simpa using g0
    go_enter Tryz.func43, Tryz.ntmps43
    go_wp2
    go_ret
    exact ⟨ret_bool (by unfold isDi; rw [Bool.eq_iff_iff]; simp; try omega), rfl⟩
  · have d0 : (decide (48 ≤ c)) = false := by simpa using g0
    go_enter Tryz.func43, Tryz.ntmps43
    go_wp2
    go_ret
    exact ⟨ret_bool (by unfold isDi; rw [Bool.eq_iff_iff]; simp; try omega), rfl⟩
set_option maxRecDepth 100000 in
theorem refLetter_any (c : Int) (w : World) : Calls Tryz.prog 50 #[.int .u8 c] w fun e w' => e = .returned (.bool (isLe c)) ∧ w = w' := by
  by_cases g0 : 97 ≤ c
  · have d0 : (decide (97 ≤ c)) = true := by simpa using g0
    by_cases g1 : c ≤ 122
    · have d1 : (decide (c ≤ 122)) = true := by simpa using g1
      by_cases g2 : 65 ≤ c
      · have d2 : (decide (65 ≤ c)) = true := by simpa using g2
        go_enter Tryz.func50, Tryz.ntmps50
        go_wp2
        go_ret
        exact ⟨ret_bool (by unfold isLe; rw [Bool.eq_iff_iff]; simp; try omega), rfl⟩
      · have d2 : (decide (65 ≤ c)) = false := by simpa using g2
        go_enter Tryz.func50, Tryz.ntmps50
        go_wp2
        go_ret
        exact ⟨ret_bool (by unfold isLe; rw [Bool.eq_iff_iff]; simp; try omega), rfl⟩
    · have d1 : (decide (c ≤ 122)) = false := by simpa using g1
      by_cases g2 : 65 ≤ c
      · have d2 : (decide (65 ≤ c)) = true := by simpa using g2
        go_enter Tryz.func50, Tryz.ntmps50
        go_wp2
        go_ret
        exact ⟨ret_bool (by unfold isLe; rw [Bool.eq_iff_iff]; simp; try omega), rfl⟩
      · have d2 : (decide (65 ≤ c)) = false := by simpa using g2
        go_enter Tryz.func50, Tryz.ntmps50
        go_wp2
        go_ret
        exact ⟨ret_bool (by unfold isLe; rw [Bool.eq_iff_iff]; simp; try omega), rfl⟩
  · have d0 : (decide (97 ≤ c)) = false := by simpa using g0
    by_cases g1 : c ≤ 122
    · have d1 : (decide (c ≤ 122)) = true := by simpa using g1
      by_cases g2 : 65 ≤ c
      · have d2 : (decide (65 ≤ c)) = true := by simpa using g2
        go_enter Tryz.func50, Tryz.ntmps50
        go_wp2
        go_ret
        exact ⟨ret_bool (by unfold isLe; rw [Bool.eq_iff_iff]; simp; try omega), rfl⟩
      · have d2 : (decide (65 ≤ c)) = false := by simpa using g2
        go_enter Tryz.func50, Tryz.ntmps50
        go_wp2
        go_ret
        exact ⟨ret_bool (by unfold isLe; rw [Bool.eq_iff_iff]; simp; try omega), rfl⟩
    · have d1 : (decide (c ≤ 122)) = false := by simpa using g1
      by_cases g2 : 65 ≤ c
      · have d2 : (decide (65 ≤ c)) = true := by simpa using g2
        go_enter Tryz.func50, Tryz.ntmps50
        go_wp2
        go_ret
        exact ⟨ret_bool (by unfold isLe; rw [Bool.eq_iff_iff]; simp; try omega), rfl⟩
      · have d2 : (decide (65 ≤ c)) = false := by simpa using g2
        go_enter Tryz.func50, Tryz.ntmps50
        go_wp2
        go_ret
        exact ⟨ret_bool (by unfold isLe; rw [Bool.eq_iff_iff]; simp; try omega), rfl⟩
theorem run_index_str (T : ByteArray) (p : Nat) (h : p < T.size) (w : World) :
    (Instr.index 9 (.string T) (.int .i64 (p : Int))).run Tryz.prog w = .ok (.int .u8 ((T[p]'h).toNat : Int)) w := by
  rw [run_index_string w 9 T .i64 p Tryz.underlying9, dif_pos ⟨by omega, by omega⟩]
  rfl
set_option maxRecDepth 100000 in
theorem refWord_any (c : Int) (w : World) : Calls Tryz.prog 44 #[.int .u8 c] w fun e w' => e = .returned (.bool (isNa c)) ∧ w = w' := by
  have HL := Lib.hid (fun w => refLetter_any c w)
  have HD := Lib.hid (fun w => refDigit_any c w)
  rcases Bool.eq_false_or_eq_true (isLe c) with g0 | g0
  all_goals rcases Bool.eq_false_or_eq_true (isDi c) with g1 | g1
  all_goals
    rw [g0] at HL
    rw [g1] at HD
    have HF : Hid (isNa c = (isLe c || isDi c || decide (c = 95))) := Lib.hid (by unfold isNa isLe isDi; rw [Bool.eq_iff_iff]; simp; omega)
    rw [g0, g1] at HF
    clear g0 g1
    go_enter Tryz.func44, Tryz.ntmps44
    go_wp2_with fail
    refine (HL.out _).mono ?_
    rintro e w1 ⟨rfl, rfl⟩
    go_wp2_with fail
    try (refine (HD.out _).mono ?_; rintro e w2 ⟨rfl, rfl⟩; go_wp2_with fail)
    go_ret
    exact ⟨ret_bool (by rw [HF.out]; first | rfl | simp), rfl⟩
/-- All bytes are of names. -/
def allNa (s : ByteArray) : Bool := s.data.toList.all (fun b => isNa (b.toNat : Int))
theorem all_at (s : ByteArray) : allNa s = true ↔ ∀ i (h : i < s.size), isNa ((s[i]'h).toNat : Int) = true := by
  unfold allNa
  rw [List.all_eq_true]
  constructor
  · intro h i hi
    have h2 : i < s.data.toList.length := by rw [Array.length_toList]; exact hi
    have := h (s.data.toList[i]) (List.getElem_mem h2)
    rw [Array.getElem_toList] at this
    exact this
  · intro h b hb
    obtain ⟨i, hi, rfl⟩ := List.getElem_of_mem hb
    have h2 : i < s.size := by rw [Array.length_toList] at hi; exact hi
    have := h i h2
    rw [Array.getElem_toList]
    exact this
theorem not_all (s : ByteArray) (i : Nat) (h : i < s.size) (hn : isNa ((s[i]'h).toNat : Int) = false) : allNa s = false := by
  rcases Bool.eq_false_or_eq_true (allNa s) with g | g
  · have := (all_at s).1 g i h
    rw [this] at hn; cases hn
  · exact g
theorem empty_list (s : ByteArray) (h : s.size ≠ 0) : s.toList.isEmpty = false := by
  rw [List.isEmpty_eq_false_iff]
  intro hh
  apply h
  rw [ByteArray.toList_eq] at hh
  show s.data.size = 0
  rw [← Array.length_toList, hh]; rfl
set_option maxRecDepth 100000 in
set_option maxHeartbeats 1000000 in
theorem refSpelt_any (s : ByteArray) (w : World) (h0 : s.size ≠ 0) (hs : s.size ≤ 1000000) :
    Calls Tryz.prog 27 #[.string s] w fun e w' => e = .returned (.bool (!isDi ((s[0]'(by omega)).toNat : Int) && allNa s)) ∧ w = w' := by
  have hz : s.toList.isEmpty = false := empty_list s h0
  have hlt0 : 0 < s.size := by omega
  have hix := fun w => run_index_str s 0 hlt0 w
  have HD := Lib.hid (fun w => refDigit_any ((s[0]'hlt0).toNat : Int) w)
  have HI := Lib.hid (fun i (h : i < s.size) w => run_index_str s i h w)
  have HW := Lib.hid (fun i (h : i < s.size) w => refWord_any ((s[i]'h).toNat : Int) w)
  have HNO := Lib.hid (not_all s)
  have HYES := Lib.hid ((all_at s).2)
  have hb0 : (s[0]'hlt0).toNat < 256 := (s[0]'hlt0).toNat_lt
  have hcast : ((0 : Nat) : Int) = 0 := rfl
  rw [hcast] at hix
  clear hcast
  generalize hR : allNa s = R at *
  generalize hc : ((s[0]'hlt0).toNat : Int) = c0 at *
  rcases Bool.eq_false_or_eq_true (isDi c0) with g | g
  all_goals rw [g] at HD ⊢
  · clear g hc hR
    go_enter Tryz.func27, Tryz.ntmps27
    go_wp2_with fail
    refine (HD.out _).mono ?_
    rintro e w1 ⟨rfl, rfl⟩
    go_wp2_with fail
    go_ret
    exact ⟨ret_bool (by simp), rfl⟩
  · clear g hc hR
    go_enter Tryz.func27, Tryz.ntmps27
    go_wp2_with fail
    refine (HD.out _).mono ?_
    rintro e w1 ⟨rfl, rfl⟩
    go_wp2_with fail
    go_loop [3] (fun i => ∃ k : Nat, k ≤ s.size ∧ i = .int .i64 k ∧ ∀ j (h : j < s.size), j < k → isNa ((s[j]'h).toNat : Int) = true) (fun i => s.size - (intOf i).toNat)
    case atStart => exact ⟨0, Nat.zero_le _, rfl, fun j h hj => absurd hj (Nat.not_lt_zero j)⟩
    case round =>
      obtain ⟨k, hk, rfl, hall⟩ := hrel
      have HA := Lib.hid hall
      clear hall
      by_cases hlt : k < s.size
      · have hd : decide ((k : Int) < (s.size : Int)) = true := by simp; omega
        have hixk := fun w => HI.out k hlt w
        have HWK := Lib.hid (HW.out k hlt)
        have HNK := Lib.hid (HNO.out k hlt)
        have HX : Hid (isNa ((s[k]'hlt).toNat : Int) = true → ∀ j (h : j < s.size), j < k + 1 → isNa ((s[j]'h).toNat : Int) = true) := Lib.hid (fun h j hj hj2 => by
          rcases Nat.lt_or_eq_of_le (Nat.le_of_lt_succ hj2) with g | g
          · exact HA.out j hj g
          · subst g; exact h)
        have hbk : (s[k]'hlt).toNat < 256 := (s[k]'hlt).toNat_lt
        generalize ((s[k]'hlt).toNat : Int) = ck at *
        rcases Bool.eq_false_or_eq_true (isNa ck) with g | g
        all_goals rw [g] at HWK
        · have HX2 := Lib.hid (HX.out g)
          clear g
          go_wp2_with fail
          refine (HWK.out _).mono ?_
          rintro e w1 ⟨rfl, rfl⟩
          go_wp2_with fail
          go_round
          case rel => exact ⟨k + 1, by omega, by go_num, HX2.out⟩
          case measure => simp [intOf]; omega
        · have HF := Lib.hid (HNK.out g)
          clear g
          go_wp2_with fail
          refine (HWK.out _).mono ?_
          rintro e w1 ⟨rfl, rfl⟩
          go_wp2_with fail
          go_ret
          exact ⟨ret_bool (by first | (rw [HF.out]; done) | (rw [HF.out]; rfl)), rfl⟩
      · have hd : decide ((k : Int) < (s.size : Int)) = false := by simp; omega
        have HF := Lib.hid (HYES.out (fun j h => HA.out j h (by omega)))
        go_wp2_with fail
        go_ret
        exact ⟨ret_bool (by first | (rw [HF.out]; done) | (rw [HF.out]; rfl)), rfl⟩
set_option maxRecDepth 100000 in
theorem refSpelt_none (s : ByteArray) (h0 : s.size = 0) (w : World) :
    Calls Tryz.prog 27 #[.string s] w fun e w' => e = .returned (.bool false) ∧ w = w' := by
  obtain rfl : s = ⟨#[]⟩ := ByteArray.ext (Array.eq_empty_of_size_eq_zero h0)
  have hz : (⟨#[]⟩ : ByteArray).toList = [] := by rw [ByteArray.toList_eq]
  clear h0
  go_enter Tryz.func27, Tryz.ntmps27
  go_wp2_with fail
  go_ret
  exact ⟨rfl, rfl⟩
/-- What both sides say of a string: it is short, has bytes, does not begin with a digit, has bytes of names alone, and is no keyword. -/
def nameB (s : ByteArray) : Bool := if h : s.size = 0 ∨ 40 < s.size then false else !isDi ((s[0]'(by omega)).toNat : Int) && allNa s && !isKey s
set_option maxRecDepth 100000 in
set_option maxHeartbeats 1000000 in
theorem refIsName_any (s : ByteArray) (w : World) (hs : s.size ≤ 1000000) :
    Calls Tryz.prog 12 #[.string s] w fun e w' => e = .returned (.bool (nameB s)) ∧ w = w' := by
  by_cases h40 : 40 < s.size
  · have hd : decide ((s.size : Int) ≤ 40) = false := by simp; omega
    have HN : Hid (nameB s = false) := Lib.hid (by unfold nameB; rw [dif_pos (.inr h40)])
    clear h40
    go_enter Tryz.func12, Tryz.ntmps12
    go_wp2_with fail
    go_ret
    exact ⟨ret_bool (by rw [HN.out]), rfl⟩
  · have hd : decide ((s.size : Int) ≤ 40) = true := by simp; omega
    have HK := Lib.hid (fun w => refIsKeyword_any s w)
    by_cases h0 : s.size = 0
    · have HN : Hid (nameB s = false) := Lib.hid (by unfold nameB; rw [dif_pos (.inl h0)])
      have HS := Lib.hid (fun w => refSpelt_none s h0 w)
      clear h40 h0
      go_enter Tryz.func12, Tryz.ntmps12
      go_wp2_with fail
      refine (HS.out _).mono ?_
      rintro e w1 ⟨rfl, rfl⟩
      go_wp2_with fail
      go_ret
      exact ⟨ret_bool (by rw [HN.out]), rfl⟩
    · have hlt0 : 0 < s.size := Nat.pos_of_ne_zero h0
      have HN : Hid (nameB s = (!isDi ((s[0]'hlt0).toNat : Int) && allNa s && !isKey s)) := Lib.hid (by unfold nameB; rw [dif_neg (by omega)])
      have HS := Lib.hid (fun w => refSpelt_any s w h0 hs)
      clear h40
      generalize (!isDi ((s[0]'hlt0).toNat : Int) && allNa s) = B at *
      generalize isKey s = K at *
      cases B
      · go_enter Tryz.func12, Tryz.ntmps12
        go_wp2_with fail
        refine (HS.out _).mono ?_
        rintro e w1 ⟨rfl, rfl⟩
        go_wp2_with fail
        go_ret
        exact ⟨ret_bool (by first | (rw [HN.out]; done) | (rw [HN.out]; rfl)), rfl⟩
      · go_enter Tryz.func12, Tryz.ntmps12
        go_wp2_with fail
        refine (HS.out _).mono ?_
        rintro e w1 ⟨rfl, rfl⟩
        go_wp2_with fail
        refine (HK.out _).mono ?_
        rintro e w2 ⟨rfl, rfl⟩
        go_wp2_with fail
        go_ret
        exact ⟨ret_bool (by first | (rw [HN.out]; done) | (rw [HN.out]; rfl) | (rw [HN.out]; simp)), rfl⟩
set_option maxRecDepth 100000 in
set_option maxHeartbeats 2000000 in
theorem isName_any (s : ByteArray) (w : World) (hs : s.size ≤ 1000000) (ht : TabX w) :
    Calls Tryz.prog 11 #[.string s] w fun e w' => e = .returned (.bool (nameB s)) ∧ Below w.heap.size w w' := by
  have hpos := ht.pos
  have HT := Lib.hid ht
  clear ht
  by_cases h0 : s.size = 0
  · have HN : Hid (nameB s = false) := Lib.hid (by unfold nameB; rw [dif_pos (.inl h0)])
    obtain rfl : s = ⟨#[]⟩ := ByteArray.ext (Array.eq_empty_of_size_eq_zero h0)
    have hz : (⟨#[]⟩ : ByteArray).toList = [] := by rw [ByteArray.toList_eq]
    clear h0 hs
    go_enter Tryz.func11, Tryz.ntmps11
    go_wp2_with fail
    go_ret
    exact ⟨ret_bool (by rw [HN.out]), Below.refl _ _⟩
  · have hz : s.toList.isEmpty = false := empty_list s h0
    have hz2 : ¬ s.toList = [] := List.isEmpty_eq_false_iff.1 hz
    by_cases h40 : 40 < s.size
    · have HN : Hid (nameB s = false) := Lib.hid (by unfold nameB; rw [dif_pos (.inr h40)])
      have hd : decide ((40 : Int) < (s.size : Int)) = true := by simp; omega
      clear h40 h0
      go_enter Tryz.func11, Tryz.ntmps11
      go_wp2_with fail
      go_ret
      exact ⟨ret_bool (by rw [HN.out]), Below.refl _ _⟩
    · have hlt0 : 0 < s.size := Nat.pos_of_ne_zero h0
      have HN : Hid (nameB s = (!isDi ((s[0]'hlt0).toNat : Int) && allNa s && !isKey s)) := Lib.hid (by unfold nameB; rw [dif_neg (by omega)])
      have hd : decide ((40 : Int) < (s.size : Int)) = false := by simp; omega
      have hix := fun w => run_index_str s 0 hlt0 w
      rw [show ((0 : Nat) : Int) = 0 from rfl] at hix
      have HD := Lib.hid (fun w => isDigit_any ((s[0]'hlt0).toNat : Int) w)
      have hb0 : (s[0]'hlt0).toNat < 256 := (s[0]'hlt0).toNat_lt
      have hb1 : (0 : Int) ≤ ((s[0]'hlt0).toNat : Int) := by omega
      have hb2 : ((s[0]'hlt0).toNat : Int) < 256 := by omega
      clear hb0
      have HK := Lib.hid (fun w h => isKeyword_any s w h)
      have HNO := Lib.hid (not_all s)
      have HYES := Lib.hid ((all_at s).2)
      generalize isKey s = K at *
      generalize allNa s = R at *
      generalize ((s[0]'hlt0).toNat : Int) = c0 at *
      rcases Bool.eq_false_or_eq_true (isDi c0) with g | g
      all_goals rw [g] at HD HN
      · clear g h40
        go_enter Tryz.func11, Tryz.ntmps11
        go_wp2_with fail
        refine (HD.out _).mono ?_
        rintro e w1 ⟨rfl, rfl⟩
        go_wp2_with fail
        go_ret
        exact ⟨ret_bool (by first | (rw [HN.out]; done) | (rw [HN.out]; rfl) | (rw [HN.out]; simp)), Below.refl _ _⟩
      · clear g h40
        go_enter Tryz.func11, Tryz.ntmps11
        go_wp2_with fail
        refine (HD.out _).mono ?_
        rintro e w1 ⟨rfl, rfl⟩
        go_wp2
        go_loopw [4] (fun _ wr => ∃ pos : Nat, pos ≤ s.size ∧ wr.heap[w.heap.size]? = some (.stringIter s pos) ∧ Below w.heap.size w wr ∧ ∀ j (h : j < s.size), j < pos → isNa ((s[j]'h).toNat : Int) = true) (fun _ wr => s.size - wr.iterPos w.heap.size)
        case atStart => exact ⟨0, Nat.zero_le _, by have := World.iter_heap w s 0; simpa using this, (Below.refl _ _).alloc (Nat.le_refl _) _, fun j h hj => absurd hj (Nat.not_lt_zero j)⟩
        case round =>
          obtain ⟨pos, hp, hit, hbel, hall⟩ := hrel
          have HB := Lib.hid hbel
          have HIT := Lib.hid hit
          have HA := Lib.hid hall
          clear hbel hall
          by_cases hlt : pos < s.size
          · by_cases hasc : (s[pos]'hlt).toNat < 128
            · have hnx : ∀ ty, (Instr.next (.pointer (some ⟨w.heap.size, 0, none⟩)) true ty).run Tryz.prog wr = _ := fun ty => Lib.run_next_ascii_at wr w.heap.size s pos ty hit hlt hasc
              have HI2 := Lib.hid (Lib.iterAt_heap wr w.heap.size s pos (pos + 1) hit)
              have HB2 := Lib.hid (Lib.below_iterAt HB.out (k := w.heap.size) (Nat.le_refl _) s (pos + 1))
              have HX : Hid (isNa ((s[pos]'hlt).toNat : Int) = true → ∀ j (h : j < s.size), j < pos + 1 → isNa ((s[j]'h).toNat : Int) = true) := Lib.hid (fun h j hj hj2 => by
                rcases Nat.lt_or_eq_of_le (Nat.le_of_lt_succ hj2) with g | g
                · exact HA.out j hj g
                · subst g; exact h)
              have HF := Lib.hid (HNO.out pos hlt)
              have HC := Lib.hid (fun w => isNamePart_any ((s[pos]'hlt).toNat : Int) w)
              clear hasc hit
              generalize ((s[pos]'hlt).toNat : Int) = c at *
              rcases Bool.eq_false_or_eq_true (isNa c) with g | g
              all_goals rw [g] at HC
              · have HX2 := Lib.hid (HX.out g)
                clear g
                go_wp2_with fail
                refine (HC.out _).mono ?_
                rintro e w2 ⟨rfl, rfl⟩
                go_wp2_with fail
                go_roundw
                case rel => exact ⟨pos + 1, by omega, HI2.out, HB2.out, HX2.out⟩
                case measure => simp only [World.iterPos, HI2.out, HIT.out]; omega
              · have HF2 := Lib.hid (HF.out g)
                clear g
                go_wp2_with fail
                refine (HC.out _).mono ?_
                rintro e w2 ⟨rfl, rfl⟩
                go_wp2_with fail
                go_ret
                exact ⟨ret_bool (by rw [HN.out, HF2.out]; first | done | rfl | simp), HB2.out⟩
            · have hhi := decode_high s pos hlt (by omega)
              have hnx : ∀ ty, (Instr.next (.pointer (some ⟨w.heap.size, 0, none⟩)) true ty).run Tryz.prog wr = _ := fun ty => Lib.run_next_any_at wr w.heap.size s pos ty hit hlt
              have HB2 := Lib.hid (Lib.below_iterAt HB.out (k := w.heap.size) (Nat.le_refl _) s (pos + (Utf8.decode s pos).2))
              have HF2 := Lib.hid (HNO.out pos hlt (by unfold isNa; apply decide_eq_false; omega))
              have hn : isNa ((Utf8.decode s pos).1 : Int) = false := by unfold isNa; apply decide_eq_false; omega
              have HC := Lib.hid (fun w => hn ▸ isNamePart_any ((Utf8.decode s pos).1 : Int) w)
              clear hhi hn hasc
              generalize wr.iterAt w.heap.size s (pos + (Utf8.decode s pos).2) = wi at *
              generalize ((Utf8.decode s pos).1 : Int) = c at *
              go_wp2_with fail
              refine (HC.out _).mono ?_
              rintro e w2 ⟨rfl, rfl⟩
              go_wp2_with fail
              go_ret
              exact ⟨ret_bool (by rw [HN.out, HF2.out]; first | done | rfl | simp), HB2.out⟩
          · have hnx : ∀ ty, (Instr.next (.pointer (some ⟨w.heap.size, 0, none⟩)) true ty).run Tryz.prog wr = _ := fun ty => Lib.run_next_end_at wr w.heap.size s pos ty hit hlt
            have HT2 := Lib.hid (HT.out.below HB.out hpos)
            have HF2 := Lib.hid (HYES.out (fun j h => HA.out j h (by omega)))
            go_wp2_with fail
            refine (HK.out _ HT2.out).mono ?_
            rintro e w2 ⟨rfl, rfl⟩
            go_wp2_with fail
            go_ret
            exact ⟨ret_bool (by rw [HN.out, HF2.out]; first | done | rfl | simp), HB.out⟩
end Go.Proofs.YtmielaonkkhmiaaGreatDoor
