/-
  text.isChar, text.Str.Set, the errors of Slice and Set.
-/
import Derived.Test.YtjpnkffdpcfnjaaDoorJoin
import Derived.Test.YtjpnkffdpcfnjaaDoorIsc
import Derived.Deep.RegionHeld3
set_option linter.unusedVariables false
namespace Go.Proofs.YtjpnkffdpcfnjaaDoor
open Go.RowKit

theorem strsAt_three (W : World) (a b c : List Nat) : StrsAt (W.alloc (.cells #[.string (pk a), .bool (wideL a), .string (pk b), .bool (wideL b), .string (pk c), .bool (wideL c)] 24)) (.slice (some ⟨W.heap.size, 0, none⟩) 3 3) [a, b, c] := by
  refine ⟨_, 3, rfl, .inr ⟨W.heap.size, 0, rfl, by simp, fun j hj => ?_⟩⟩
  rw [World.cell?_alloc_at _ _ _ _ rfl, World.cell?_alloc_at _ _ _ _ rfl]
  have hj' : j < 3 := hj
  rcases (by omega : j = 0 ∨ j = 1 ∨ j = 2) with rfl | rfl | rfl <;> exact ⟨rfl, rfl⟩

theorem runes_one (W : World) (c : Nat) : Runes (W.alloc (.cells #[.int .i32 (c : Int)] 21)) 0 (.slice (some ⟨W.heap.size, 0, none⟩) 1 1) [c] :=
  World.ownsRow_lit W #[.int .i32 (c : Int)] 1 (Nat.zero_le _) (by decide) rfl

theorem keep6 {w w' : World} {b c : Nat} {x y z u : Value} (h0 : w.cell? ⟨b, 0, none⟩ = some x) (h1 : w.cell? ⟨b, 1, none⟩ = some y) (h2 : w.cell? ⟨c, 0, none⟩ = some z) (h3 : w.cell? ⟨c, 1, none⟩ = some u) (h4 : w.frozen? ⟨c, 0, none⟩ = false) (h5 : w.frozen? ⟨c, 1, none⟩ = false) (hb : Below w.heap.size w w') :
    w'.cell? ⟨b, 0, none⟩ = some x ∧ w'.cell? ⟨b, 1, none⟩ = some y ∧ w'.cell? ⟨c, 0, none⟩ = some z ∧ w'.cell? ⟨c, 1, none⟩ = some u ∧ w'.frozen? ⟨c, 0, none⟩ = false ∧ w'.frozen? ⟨c, 1, none⟩ = false := by
  have hlt : c < w.heap.size := World.block_lt_of_cell? w _ h2
  exact ⟨(cells_of_two h0 h1 hb).1, (cells_of_two h0 h1 hb).2, (cells_of_two h2 h3 hb).1, (cells_of_two h2 h3 hb).2, (hb.frozen (p := ⟨c, 0, none⟩) hlt).trans h4, (hb.frozen (p := ⟨c, 1, none⟩) hlt).trans h5⟩

/-- What a cell holds, whatever it is. -/
def curV (w : World) (b o : Nat) : Value := (w.cell? ⟨b, o, none⟩).getD undef
theorem curV_of {w : World} {b o : Nat} {v : Value} (h : w.cell? ⟨b, o, none⟩ = some v) : w.cell? ⟨b, o, none⟩ = some (curV w b o) := by unfold curV; rw [h]; rfl

theorem keepC {w w' : World} {b c : Nat} {x y : Value} (h0 : w.cell? ⟨b, 0, none⟩ = some x) (h1 : w.cell? ⟨b, 1, none⟩ = some y) (h2 : w.cell? ⟨c, 0, none⟩ = some (curV w c 0)) (h3 : w.cell? ⟨c, 1, none⟩ = some (curV w c 1)) (h4 : w.frozen? ⟨c, 0, none⟩ = false) (h5 : w.frozen? ⟨c, 1, none⟩ = false) (hb : Below w.heap.size w w') :
    w'.cell? ⟨b, 0, none⟩ = some x ∧ w'.cell? ⟨b, 1, none⟩ = some y ∧ w'.cell? ⟨c, 0, none⟩ = some (curV w' c 0) ∧ w'.cell? ⟨c, 1, none⟩ = some (curV w' c 1) ∧ w'.frozen? ⟨c, 0, none⟩ = false ∧ w'.frozen? ⟨c, 1, none⟩ = false := by
  obtain ⟨a1, a2, a3, a4, a5, a6⟩ := keep6 h0 h1 h2 h3 h4 h5 hb
  exact ⟨a1, a2, curV_of a3, curV_of a4, a5, a6⟩

theorem keepS {w : World} {b c : Nat} {x y u v : Value} (hbc : b ≠ c) (h0 : w.cell? ⟨b, 0, none⟩ = some x) (h1 : w.cell? ⟨b, 1, none⟩ = some y) (h2 : w.cell? ⟨c, 0, none⟩ = some (curV w c 0)) (h3 : w.cell? ⟨c, 1, none⟩ = some (curV w c 1)) (h4 : w.frozen? ⟨c, 0, none⟩ = false) (h5 : w.frozen? ⟨c, 1, none⟩ = false) :
    let w' := (w.setCell ⟨c, 0, none⟩ u).setCell ⟨c, 1, none⟩ v
    w'.cell? ⟨b, 0, none⟩ = some x ∧ w'.cell? ⟨b, 1, none⟩ = some y ∧ w'.cell? ⟨c, 0, none⟩ = some (curV w' c 0) ∧ w'.cell? ⟨c, 1, none⟩ = some (curV w' c 1) ∧ w'.frozen? ⟨c, 0, none⟩ = false ∧ w'.frozen? ⟨c, 1, none⟩ = false := by
  refine ⟨?_, ?_, curV_of (cell_zero w c u v h2), curV_of (cell_two w c u v h3), ?_, ?_⟩
  · exact (World.cell?_setCell_other _ _ _ _ (fun e => hbc (congrArg Addr.block e).symm)).trans ((World.cell?_setCell_other _ _ _ _ (fun e => hbc (congrArg Addr.block e).symm)).trans h0)
  · exact (World.cell?_setCell_other _ _ _ _ (fun e => hbc (congrArg Addr.block e).symm)).trans ((World.cell?_setCell_other _ _ _ _ (fun e => hbc (congrArg Addr.block e).symm)).trans h1)
  · rw [World.frozen?_setCell, World.frozen?_setCell]; exact h4
  · rw [World.frozen?_setCell, World.frozen?_setCell]; exact h5

theorem cell_back {w : World} {p q : Addr} {x v : Value} (h : (w.setCell p x).cell? q = some v) : ∃ u, w.cell? q = some u := by
  cases hq : w.cell? q with
  | some u => exact ⟨u, rfl⟩
  | none =>
    exfalso
    by_cases hb : p.block = q.block
    · have e : (w.setCell p x).heap[q.block]? = (w.heap[q.block]?).map fun | .cells c elem frozen => .cells (if p.spot.isSome then c else c.setIfInBounds p.off x) elem frozen | o => o := by
        simp only [World.setCell, Array.getElem?_modify, if_pos hb]
        rfl
      unfold World.cell? at h hq
      rw [e] at h
      cases ho : w.heap[q.block]? with
      | none => rw [ho] at h; simp at h
      | some o =>
        rw [ho] at h hq
        cases o with
        | cells c0 e0 f0 =>
          simp only [Option.map_some] at h hq
          by_cases hs : q.spot.isSome = true
          · rw [if_pos hs] at h; cases h
          · rw [if_neg hs] at h hq
            have hlt : c0.size ≤ q.off := Array.getElem?_eq_none_iff.1 hq
            have hn : (if p.spot.isSome = true then c0 else c0.setIfInBounds p.off x)[q.off]? = none := by
              apply Array.getElem?_eq_none
              split
              · exact hlt
              · rw [Array.size_setIfInBounds]; exact hlt
            rw [hn] at h
            cases h
        | _ => exact absurd (show (none : Option Value) = some v from h) (by simp)
    · have e : (w.setCell p x).heap[q.block]? = w.heap[q.block]? := by
        simp only [World.setCell, Array.getElem?_modify, if_neg hb]
      unfold World.cell? at h hq
      rw [e] at h
      rw [hq] at h
      cases h

theorem below_al {w W : World} {o : Obj} (h : Below w.heap.size w W) : Below w.heap.size w (W.alloc o) := h.alloc h.size o

theorem carry {P : Program} {f : FuncId} {args : Array Value} {w W : World} {r : Value} (h : Calls P f args W fun e w' => e = .returned r ∧ Below W.heap.size W w') (hB : Below w.heap.size w W) :
    Calls P f args W fun e w' => e = .returned r ∧ Below W.heap.size W w' ∧ Below w.heap.size w w' :=
  h.mono fun e w' ⟨he, hb⟩ => ⟨he, hb, below_from hB hb (Nat.le_refl _)⟩

set_option maxHeartbeats 4000000 in
theorem set_gen (l : List Nat) (hl : l.length ≤ 65536) (hch : Chars l) (i c j : Nat) (hi : i ≤ l.length) (hij : (i < l.length ∧ j = i + 1) ∨ (i = l.length ∧ j = l.length)) (hc : okc (c : Int) = true) (df : ByteArray) (wf : Bool) (er : Int)
    (hjn : ∀ v W, StrsAt W v [sub l 0 i, [c], sub l j l.length] → Calls Tryd.prog 21 #[v] W fun e w' => e = .returned (.tuple #[.agg #[.string df, .bool wf], .int .i64 er]) ∧ Below W.heap.size W w') (w : World) :
    Calls Tryd.prog 20 #[strV l, .int .i64 i, .int .i64 c] w fun e w' => e = .returned (.tuple #[.agg #[.string df, .bool wf], .int .i64 er]) ∧ Below w.heap.size w w' := by
  have h24 : ∀ c ∈ l, c < 16777216 := fun c h => by have := (hch c h).1; omega
  have hcb := (okc_iff c).1 hc
  have hjl : j ≤ l.length := by omega
  have hlen := len_any l (by omega)
  have hp1 := part_any l (by omega) h24 0 i (Nat.zero_le _) hi
  have hp2 := part_any l (by omega) h24 j l.length hjl (Nat.le_refl _)
  rw [show (((0 : Nat) : Int)) = 0 from rfl] at hp1
  have hs1 := sub_len l 0 i (Nat.zero_le _) hi
  have hs2 := sub_len l j l.length hjl (Nat.le_refl _)
  have hpk := fun v W (h : Runes W 0 v [c]) => pack_any [c] v 0 W (by simp) (by simp; omega) h
  have h3 := fun W => strsAt_three W (sub l 0 i) [c] (sub l j l.length)
  have hr1 := fun W => runes_one W c
  have hmin : (i < l.length ∧ (min ((i : Int) + 1) (l.length : Int) = (j : Int))) ∨ (i = l.length ∧ (min ((i : Int) + 1) (l.length : Int) = (j : Int))) := by omega
  unfold strV at hlen hp1 hp2 hpk ⊢
  generalize hA1 : sub l 0 i = A1 at *
  generalize hA2 : [c] = A2 at *
  generalize hA3 : sub l j l.length = A3 at *
  generalize pk l = d at *
  generalize wideL l = wl at *
  obtain ⟨z, hz⟩ : ∃ z : Int, z = (c : Int) := ⟨_, rfl⟩
  rw [← hz] at hc hr1 ⊢
  have hz0 : 0 ≤ z := by omega
  have hz1 : z ≤ 1114111 := by omega
  have HLEN := Lib.hid hlen
  have HP1 := Lib.hid hp1
  have HP2 := Lib.hid hp2
  have HPK := Lib.hid hpk
  have HJN := Lib.hid hjn
  have H3 := Lib.hid h3
  have HR1 := Lib.hid hr1
  have HYES := Lib.hid (isChar_yes z hc)
  have g0 : ¬ ((i : Int) < 0) := by omega
  have g1 : ¬ ((l.length : Int) < (i : Int)) := by omega
  have HMIN : Hid (min ((i : Int) + 1) (l.length : Int) = (j : Int)) := by show min ((i : Int) + 1) (l.length : Int) = (j : Int); omega
  have HL := Lib.hid hl
  clear hlen hp1 hp2 hpk hjn h3 hr1 hz hA1 hA2 hA3 h24 hch hcb hmin hs1 hs2 hc hij hl
  go_enter Tryd.func20, Tryd.ntmps20
  go_wp2_with fail
  refine (HLEN.out _).mono ?_
  rintro e w1 ⟨rfl, hb1⟩
  have B1 := (((Below.refl w.heap.size w).alloc (Nat.le_refl _) (Obj.cells #[Value.string d, Value.bool wl] 24)).alloc (by simp) (Obj.cells #[Value.string ⟨#[]⟩, Value.bool false] 24)).trans (hb1.mono (by simp; omega))
  obtain ⟨_, c0, c1⟩ := ((two_alloc w (.string d) (.bool wl) 24).below ((Below.refl _ _).alloc (Nat.le_refl _) (Obj.cells #[Value.string ⟨#[]⟩, Value.bool false] 24))).below hb1
  have d0 : w1.cell? ⟨w.heap.size + 1, 0, none⟩ = some (.string ⟨#[]⟩) := by
    rw [hb1.cell (p := ⟨w.heap.size + 1, 0, none⟩) (by simp), World.cell?_alloc_at _ _ _ _ (by simp)]; rfl
  have d1 : w1.cell? ⟨w.heap.size + 1, 1, none⟩ = some (.bool false) := by
    rw [hb1.cell (p := ⟨w.heap.size + 1, 1, none⟩) (by simp), World.cell?_alloc_at _ _ _ _ (by simp)]; rfl
  have f0 : w1.frozen? ⟨w.heap.size + 1, 0, none⟩ = false := by
    rw [hb1.frozen (p := ⟨w.heap.size + 1, 0, none⟩) (by simp)]; exact World.frozen?_alloc_at _ _ _ _ (by simp)
  have f1 : w1.frozen? ⟨w.heap.size + 1, 1, none⟩ = false := by
    rw [hb1.frozen (p := ⟨w.heap.size + 1, 1, none⟩) (by simp)]; exact World.frozen?_alloc_at _ _ _ _ (by simp)
  clear hb1
  go_wp2_with fail
  refine (HYES.out _).mono ?_
  rintro e w2 ⟨rfl, rfl⟩
  go_wp2_with fail
  have BW := B1
  have dd0 := curV_of d0
  have dd1 := curV_of d1
  clear d0 d1
  have dd0' : w1.drew.cell? ⟨w.heap.size + 1, 0, none⟩ = some (curV w1.drew (w.heap.size + 1) 0) := dd0
  have dd1' : w1.drew.cell? ⟨w.heap.size + 1, 1, none⟩ = some (curV w1.drew (w.heap.size + 1) 1) := dd1
  have BWd : Below w.heap.size w w1.drew := B1.drew
  have hmn := HMIN.out
  have hwi : IntKind.i64.wrap ((i : Int) + 1) = (i : Int) + 1 := IntWalk.i64_in _ (by have := HL.out; omega)
  have hwr : IntKind.i32.wrap z = z := IntWalk.i32_in z (by omega)
  go_region_held3 (fun w' => w'.cell? ⟨w.heap.size, 0, none⟩ = some (.string d) ∧ w'.cell? ⟨w.heap.size, 1, none⟩ = some (.bool wl) ∧ w'.cell? ⟨w.heap.size + 1, 0, none⟩ = some (curV w' (w.heap.size + 1) 0) ∧ w'.cell? ⟨w.heap.size + 1, 1, none⟩ = some (curV w' (w.heap.size + 1) 1) ∧ w'.frozen? ⟨w.heap.size + 1, 0, none⟩ = false ∧ w'.frozen? ⟨w.heap.size + 1, 1, none⟩ = false)
    (first
      | (go_split_ands; exact keepC (by assumption) (by assumption) (by assumption) (by assumption) (by assumption) (by assumption) hb3)
      | (go_split_ands; exact keepC (by assumption) (by assumption) (by assumption) (by assumption) (by assumption) (by assumption) ((Below.refl _ _).alloc (Nat.le_refl _) _))
      | (go_split_ands; exact keepS (by omega) (by assumption) (by assumption) (by assumption) (by assumption) (by assumption) (by assumption))
      | (go_split_ands; exact ⟨by assumption, by assumption, by assumption, by assumption, by assumption, by assumption⟩)
      | go_keep)
    (first
      | (go_at_call 41; (with_reducible refine (carry (w := w) (HP1.out _) ?_).mono ?_); (repeat (first | assumption | with_reducible refine below_al ?_ | with_reducible refine Below.drew ?_)); rintro e w3 ⟨rfl, hb3, hB3⟩)
      | (go_at_call 41; (with_reducible refine (carry (w := w) (HP2.out _) ?_).mono ?_); (repeat (first | assumption | with_reducible refine below_al ?_ | with_reducible refine Below.drew ?_)); rintro e w3 ⟨rfl, hb3, hB3⟩)
      | (go_at_call 31; refine (carry (w := w) (HPK.out _ _ ?_) ?_).mono ?_; (first | exact HR1.out _ | exact row_below (HR1.out _) (Nat.le_refl _) hb3 | exact row_below (World.ownsRow.drew (HR1.out w1)) (Nat.le_refl _) hb3); (repeat (first | assumption | with_reducible refine below_al ?_ | with_reducible refine Below.drew ?_)); rintro e w3 ⟨rfl, hb3, hB3⟩)
      | (go_at_call 21; refine (carry (w := w) (HJN.out _ _ ?_) ?_).mono ?_; exact H3.out _; (repeat (first | assumption | with_reducible refine below_al ?_ | with_reducible refine Below.drew ?_)); rintro e w3 ⟨rfl, hb3, hB3⟩))
  all_goals
    have hH := ‹_ ∧ _ ∧ _ ∧ _ ∧ _ ∧ _›
    obtain ⟨u, hu⟩ := cell_back hH.2.2.1
    obtain ⟨u0, hu0⟩ := cell_back hu
    obtain ⟨u', hu'⟩ := cell_back hH.2.2.2.1
    obtain ⟨u1, hu1⟩ := cell_back hu'
    have hs0 := cell_zero _ (w.heap.size + 1) (.string df) (.bool wf) hu0
    have hs1 := cell_two _ (w.heap.size + 1) (.string df) (.bool wf) hu1
    go_wp2
    refine bodyPost_ret (v := .tuple #[.agg #[.string df, .bool wf], .int .i64 er]) (by simp [results, Tryd.results20, go_sem, hs0, hs1]) rfl ⟨rfl, ?_⟩
    exact (hB3.setCell (p := ⟨w.heap.size + 1, 0, none⟩) (Nat.le_succ _) _).setCell (p := ⟨w.heap.size + 1, 1, none⟩) (Nat.le_succ _) _

theorem set_any (l : List Nat) (hl : l.length ≤ 65536) (hch : Chars l) (i c j : Nat) (hi : i ≤ l.length) (hij : (i < l.length ∧ j = i + 1) ∨ (i = l.length ∧ j = l.length)) (hc : okc (c : Int) = true) (hfl : ([sub l 0 i, [c], sub l j l.length]).flatten.length ≤ 65536) (w : World) :
    Calls Tryd.prog 20 #[strV l, .int .i64 i, .int .i64 c] w fun e w' => e = .returned (.tuple #[strV ([sub l 0 i, [c], sub l j l.length]).flatten, .int .i64 0]) ∧ Below w.heap.size w w' :=
  set_gen l hl hch i c j hi hij hc _ _ 0 (fun v W h => join_ok [sub l 0 i, [c], sub l j l.length] (by simp) hfl v W h (by simp)) w

theorem set_core (l : List Nat) (hl : l.length ≤ 1000) (hch : Chars l) (i c j : Nat) (hi : i ≤ l.length) (hij : (i < l.length ∧ j = i + 1) ∨ (i = l.length ∧ j = l.length)) (hc : okc (c : Int) = true) (w : World) :
    Calls Tryd.prog 20 #[strV l, .int .i64 i, .int .i64 c] w fun e w' => e = .returned (.tuple #[strV ([sub l 0 i, [c], sub l j l.length]).flatten, .int .i64 0]) ∧ Below w.heap.size w w' := by
  have hs1 := sub_len l 0 i (Nat.zero_le _) hi
  have hs2 := sub_len l j l.length (by omega) (Nat.le_refl _)
  exact set_any l (by omega) hch i c j hi hij hc (by simp; omega) w
end Go.Proofs.YtjpnkffdpcfnjaaDoor
