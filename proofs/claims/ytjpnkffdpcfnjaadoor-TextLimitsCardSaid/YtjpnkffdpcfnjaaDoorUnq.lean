/-
  text.Unquote: what it returns is what the plain function gives.
-/
import Derived.Test.YtjpnkffdpcfnjaaDoorUnqM
set_option linter.unusedVariables false
namespace Go.Proofs.YtjpnkffdpcfnjaaDoor
open Go.RowKit

def UnqRel (s : ByteArray) (w : World) (o : Obj) (R : List Nat × Nat × Int) (v i : Value) (wr : World) : Prop :=
  ∃ (a f : Nat) (acc : List Nat), Runes wr (w.heap.size + 1) v acc ∧ i = .int .i64 (a : Int) ∧ Below (w.heap.size + 1) (w.alloc o) wr ∧ unqF s f a acc = R ∧ s.size ≤ a + f ∧ a ≤ s.size ∧ Chars acc ∧ acc.length ≤ 65536

theorem strV_nil : strV [] = .agg #[.string ⟨#[]⟩, .bool false] := rfl
def ret3V (l : List Nat) (n : Nat) (e : Int) : Value := .tuple #[strV l, .int .i64 (n : Int), .int .i64 e]

/-- The box of the result. -/
theorem box_facts {w wr : World} (h : Below (w.heap.size + 1) (w.alloc (.cells #[.string ⟨#[]⟩, .bool false] 24)) wr) :
    wr.cell? ⟨w.heap.size, 0, none⟩ = some (.string ⟨#[]⟩) ∧ wr.cell? ⟨w.heap.size, 1, none⟩ = some (.bool false) ∧ wr.frozen? ⟨w.heap.size, 0, none⟩ = false ∧ wr.frozen? ⟨w.heap.size, 1, none⟩ = false ∧ Below w.heap.size w wr := by
  refine ⟨?_, ?_, ?_, ?_, ((Below.refl _ _).alloc (Nat.le_refl _) _).trans (h.mono (Nat.le_succ _))⟩
  · rw [h.cell (p := ⟨w.heap.size, 0, none⟩) (by show w.heap.size < _; omega), World.cell?_alloc_at _ _ _ _ rfl]; rfl
  · rw [h.cell (p := ⟨w.heap.size, 1, none⟩) (by show w.heap.size < _; omega), World.cell?_alloc_at _ _ _ _ rfl]; rfl
  · rw [h.frozen (p := ⟨w.heap.size, 0, none⟩) (by show w.heap.size < _; omega)]; exact World.frozen?_alloc_at _ _ _ _ rfl
  · rw [h.frozen (p := ⟨w.heap.size, 1, none⟩) (by show w.heap.size < _; omega)]; exact World.frozen?_alloc_at _ _ _ _ rfl

set_option maxHeartbeats 4000000 in
theorem unq_any (s : ByteArray) (hs : s.size ≤ 1000000000) (w : World) (ht : TabU w) :
    Calls Tryd.prog 9 #[.string s] w fun e w' => e = .returned (ret3V (unqL s).1 (unqL s).2.1 (unqL s).2.2) ∧ Below w.heap.size w w' := by
  have hpre : ∀ w, Calls Tryd.prog 30 #[.string s, .string ⟨#[34]⟩] w fun e w' => e = .returned (.bool (Lib.hasPrefix s.data.toList [34])) ∧ w = w' := fun w =>
    (Tryd.strings_HasPrefix s ⟨#[34]⟩ w).mono fun e w' h => ⟨h.1, h.2.symm⟩
  have hpi := prefix_iff s
  unfold unqL
  generalize Lib.hasPrefix s.data.toList [34] = pf at hpre hpi
  have HP := Lib.hid hpre
  clear hpre
  cases pf
  · rw [if_neg (fun h => by have := hpi.2 h; cases this)]
    clear hpi
    go_enter Tryd.func9, Tryd.ntmps9
    go_wp2_with fail
    refine (HP.out _).mono ?_
    rintro e w1 ⟨rfl, rfl⟩
    obtain ⟨d0, d1, f0, f1, hB⟩ := box_facts (Below.refl (w.heap.size + 1) (w.alloc (.cells #[.string ⟨#[]⟩, .bool false] 24)))
    generalize w.alloc (.cells #[.string ⟨#[]⟩, .bool false] 24) = wr at *
    have hs0 := cell_zero wr w.heap.size (.string ⟨#[]⟩) (.bool false) d0
    have hs1 := cell_two wr w.heap.size (.string ⟨#[]⟩) (.bool false) d1
    go_wp2
    refine bodyPost_ret (v := ret3V [] 0 9) (by simp [results, Tryd.results9, go_sem, hs0, hs1, ret3V, strV_nil]) rfl ⟨rfl, ?_⟩
    exact (hB.setCell (p := ⟨w.heap.size, 0, none⟩) (Nat.le_refl _) _).setCell (p := ⟨w.heap.size, 1, none⟩) (Nat.le_refl _) _
  · have hh := hpi.1 rfl
    rw [if_pos hh]
    clear hpi
    obtain ⟨R, hR⟩ : ∃ R, R = unqF s s.size 1 [] := ⟨_, rfl⟩
    rw [← hR]
    have h0 : UnqRel s w (.cells #[.string ⟨#[]⟩, .bool false] 24) R (.slice none 0 0) (.int .i64 1) (w.alloc (.cells #[.string ⟨#[]⟩, .bool false] 24)) :=
      ⟨1, s.size, [], World.ownsRow_nil _ _ _ _, rfl, Below.refl _ _, hR.symm, by omega, by omega, fun c hc => (by cases hc), Nat.zero_le _⟩
    have H0 := Lib.hid h0
    have HT := Lib.hid ht
    have hsI : (s.size : Int) ≤ 1000000000 := by omega
    clear h0 hR hh ht
    obtain ⟨i0, hi, hz0, hz1, hz2⟩ := info_parts infoRune
    go_enter Tryd.func9, Tryd.ntmps9
    go_wp2_with fail
    refine (HP.out _).mono ?_
    rintro e w1 ⟨rfl, rfl⟩
    go_wp2
    clear HP
    go_loopw [5, 6, 7, 8, 9] (fun v i _ _ _ wr => UnqRel s w (.cells #[.string ⟨#[]⟩, .bool false] 24) R v i wr) (fun _ i _ _ _ _ => s.size - (intOf i).toNat)
    case atStart => exact H0.out
    case round =>
      clear H0
      obtain ⟨a, f, acc, hown, rfl, hbel, hR, hf, has, hch, hal⟩ := hrel
      obtain ⟨d0, d1, f0, f1, hB⟩ := box_facts hbel
      have hlt : w.heap.size < wr.heap.size := World.block_lt_of_cell? wr _ d0
      obtain ⟨ao, cap, rfl⟩ : ∃ ao cap, u5 = .slice ao acc.length cap := by
        rcases row_form hown with ⟨rfl, hn⟩ | ⟨g, cap, rfl, _⟩
        · exact ⟨none, 0, by rw [hn]⟩
        · exact ⟨_, _, rfl⟩
      by_cases hend : s.size ≤ a
      · rw [unqF_end s f a acc hend] at hR
        subst hR
        obtain rfl : a = s.size := by omega
        have hs0 := cell_zero wr w.heap.size (.string ⟨#[]⟩) (.bool false) d0
        have hs1 := cell_two wr w.heap.size (.string ⟨#[]⟩) (.bool false) d1
        clear hown hbel hend hch hal has hf
        go_wp2
        refine bodyPost_ret (v := ret3V [] s.size 16) (by simp [results, Tryd.results9, go_sem, hs0, hs1, ret3V, strV_nil]) rfl ⟨rfl, ?_⟩
        exact (hB.setCell (p := ⟨w.heap.size, 0, none⟩) (Nat.le_refl _) _).setCell (p := ⟨w.heap.size, 1, none⟩) (Nat.le_refl _) _
      · have hai : a < s.size := by omega
        have hb := byteAt_eq s a hai
        have hw1 : IntKind.i64.wrap ((a : Int) + 1) = (a : Int) + 1 := IntWalk.i64_in _ (by omega)
        have hbelH := Lib.hid hbel
        have HB := Lib.hid hB
        obtain ⟨f, rfl⟩ : ∃ f', f = f' + 1 := ⟨f - 1, by omega⟩
        unfold unqF at hR
        rw [if_neg hend] at hR
        by_cases h34 : byteAt s a = 34
        · rw [if_pos h34] at hR
          subst hR
          have hq : ((s[a].toNat : Int) == 34) = true := by rw [hb, h34]; rfl
          have hpk := pack_any acc _ _ wr (by omega) (fun c h => by have := (hch c h).1; omega) hown
          have HPK := Lib.hid hpk
          clear hpk hown hbel hB hend hch hal has hf hb h34
          unfold strV at HPK
          go_wp2_with fail
          refine HPK.out.mono ?_
          rintro e w2 ⟨rfl, hb2⟩
          have he0 := (hb2.cell (p := ⟨w.heap.size, 0, none⟩) hlt).trans d0
          have he1 := (hb2.cell (p := ⟨w.heap.size, 1, none⟩) hlt).trans d1
          have hg0 := (hb2.frozen (p := ⟨w.heap.size, 0, none⟩) hlt).trans f0
          have hg1 := (hb2.frozen (p := ⟨w.heap.size, 1, none⟩) hlt).trans f1
          have hs0 := cell_zero w2 w.heap.size (.string (pk acc)) (.bool (wideL acc)) he0
          have hs1 := cell_two w2 w.heap.size (.string (pk acc)) (.bool (wideL acc)) he1
          have hbw2 : Below w.heap.size w w2 := HB.out.trans (hb2.mono (Nat.le_of_lt hlt))
          clear d0 d1 f0 f1
          go_wp2
          refine bodyPost_ret (v := ret3V acc (a + 1) 0) (by simp [results, Tryd.results9, go_sem, hs0, hs1, ret3V, strV]) rfl ⟨rfl, ?_⟩
          exact (hbw2.setCell (p := ⟨w.heap.size, 0, none⟩) (Nat.le_refl _) _).setCell (p := ⟨w.heap.size, 1, none⟩) (Nat.le_refl _) _
        · rw [if_neg h34] at hR
          have hq : ((s[a].toNat : Int) == 34) = false := by rw [hb]; simp; omega
          by_cases h10 : byteAt s a = 10
          · rw [if_pos h10] at hR
            subst hR
            have hq2 : ((s[a].toNat : Int) == 10) = true := by rw [hb, h10]; rfl
            have hs0 := cell_zero wr w.heap.size (.string ⟨#[]⟩) (.bool false) d0
            have hs1 := cell_two wr w.heap.size (.string ⟨#[]⟩) (.bool false) d1
            clear hown hbel hB hend hch hal has hf hb h34 h10
            go_wp2
            refine bodyPost_ret (v := ret3V [] a 9) (by simp [results, Tryd.results9, go_sem, hs0, hs1, ret3V, strV_nil]) rfl ⟨rfl, ?_⟩
            exact (HB.out.setCell (p := ⟨w.heap.size, 0, none⟩) (Nat.le_refl _) _).setCell (p := ⟨w.heap.size, 1, none⟩) (Nat.le_refl _) _
          · rw [if_neg h10] at hR
            have hq2 : ((s[a].toNat : Int) == 10) = false := by rw [hb]; simp; omega
            have hlit := literal_any s hs a hai wr (HT.out.below hB)
            have hok := litG_ok s a hai
            unfold tup3 at hlit
            generalize litG s a = r at hR hlit hok
            obtain ⟨c, n, er⟩ := r
            dsimp only at hR hlit hok
            have HLIT := Lib.hid hlit
            clear hlit hbel hB hend hb h34 h10
            by_cases her : er = 0
            · subst her
              rw [if_pos rfl] at hR
              obtain ⟨hc, hn1, hn2⟩ := hok rfl
              obtain ⟨cn, rfl, hcn⟩ := okc_nat hc
              rw [Int.toNat_natCast] at hR
              have HCN := Lib.hid hcn
              clear hok hc hcn
              by_cases hfull : acc.length = 65536
              · rw [if_pos hfull] at hR
                subst hR
                have hfI : ((acc.length : Int) == 65536) = true := by simp; omega
                clear hown hch hal has hf hfull hn1 hn2
                go_wp2_with fail
                refine HLIT.out.mono ?_
                rintro e w2 ⟨rfl, hb2⟩
                have he0 := (hb2.cell (p := ⟨w.heap.size, 0, none⟩) hlt).trans d0
                have he1 := (hb2.cell (p := ⟨w.heap.size, 1, none⟩) hlt).trans d1
                have hg0 := (hb2.frozen (p := ⟨w.heap.size, 0, none⟩) hlt).trans f0
                have hg1 := (hb2.frozen (p := ⟨w.heap.size, 1, none⟩) hlt).trans f1
                have hs0 := cell_zero w2 w.heap.size (.string ⟨#[]⟩) (.bool false) he0
                have hs1 := cell_two w2 w.heap.size (.string ⟨#[]⟩) (.bool false) he1
                have hbw2 : Below w.heap.size w w2 := HB.out.trans (hb2.mono (Nat.le_of_lt hlt))
                clear d0 d1 f0 f1
                go_wp2
                refine bodyPost_ret (v := ret3V [] a 3) (by simp [results, Tryd.results9, go_sem, hs0, hs1, ret3V, strV_nil]) rfl ⟨rfl, ?_⟩
                exact (hbw2.setCell (p := ⟨w.heap.size, 0, none⟩) (Nat.le_refl _) _).setCell (p := ⟨w.heap.size, 1, none⟩) (Nat.le_refl _) _
              · rw [if_neg hfull] at hR
                have hfI : ((acc.length : Int) == 65536) = false := by simp; omega
                have HR := Lib.hid hR
                have HFU := Lib.hid hfull
                have HCH := Lib.hid hch
                have HAL := Lib.hid hal
                have hsz0 := hbelH.out.size
                have hsz1 : w.heap.size + 1 ≤ wr.heap.size := by simpa using hsz0
                clear hR hfull hch hal d0 d1 f0 f1 hsz0
                go_wp2_with fail
                refine HLIT.out.mono ?_
                rintro e w2 ⟨rfl, hb2⟩
                have hown2 := row_below hown (Nat.le_refl _) hb2
                have hbel2 : Below (w.heap.size + 1) (w.alloc (.cells #[.string ⟨#[]⟩, .bool false] 24)) w2 := hbelH.out.trans (hb2.mono hsz1)
                have hsz2 : w.heap.size + 1 ≤ w2.heap.size := Nat.le_trans hsz1 hb2.size
                clear hown hb2
                go_wp2_with (at_builtin; refine wpList_append_own _ rfl _ _ 62 rfl (w.heap.size + 1) 21 i0 (.int .i32 0) 1 4 Tryd.underlying62 hi hz0 hz1 hz2 rfl (by decide) _ _ _ rfl (hown2.alloc _) ⟨w2.heap.size, 0, none⟩ 1 1 [.int .i32 (cn : Int)] rfl rfl ?c1 ?c2 ?c3 ?c4 ?c5 ?_)
                case c1 =>
                  intro j u hj
                  match j, hj with
                  | 0, hj => simp at hj; subst hj; simp [Addr.add]
                case c2 => intro u hu; simp at hu; subst hu; rfl
                case c3 => have := HAL.out; unfold maxLen; omega
                case c4 => have := HAL.out; omega
                case c5 => simp; omega
                intro v' w3 hown' hgrow _
                have hb3 := (hbel2.alloc (by omega) _).grown hgrow (by simp; omega) (fun j hj => (hown2.lt j hj).1)
                clear hown2 hbel2
                go_wp2
                go_roundw
                case rel =>
                  refine ⟨n, f, acc ++ [cn], ?_, rfl, hb3, HR.out, by omega, hn2, fun c hm => ?_, by have := HFU.out; have := HAL.out; rw [List.length_append, List.length_singleton]; omega⟩
                  · unfold Runes
                    have e : runeV (acc ++ [cn]) = runeV acc ++ [.int .i32 (cn : Int)] := by simp [runeV]
                    rw [e, List.length_append]
                    exact hown'
                  · rcases List.mem_append.1 hm with hm | hm
                    · exact HCH.out c hm
                    · rw [List.mem_singleton.1 hm]; exact HCN.out
                case measure => simp [intOf]; omega
            · rw [if_neg her] at hR
              subst hR
              have heI : (er == 0) = false := by simpa using her
              clear hown hch hal has hf hok
              go_wp2_with fail
              refine HLIT.out.mono ?_
              rintro e w2 ⟨rfl, hb2⟩
              have he0 := (hb2.cell (p := ⟨w.heap.size, 0, none⟩) hlt).trans d0
              have he1 := (hb2.cell (p := ⟨w.heap.size, 1, none⟩) hlt).trans d1
              have hg0 := (hb2.frozen (p := ⟨w.heap.size, 0, none⟩) hlt).trans f0
              have hg1 := (hb2.frozen (p := ⟨w.heap.size, 1, none⟩) hlt).trans f1
              have hs0 := cell_zero w2 w.heap.size (.string ⟨#[]⟩) (.bool false) he0
              have hs1 := cell_two w2 w.heap.size (.string ⟨#[]⟩) (.bool false) he1
              have hbw2 : Below w.heap.size w w2 := HB.out.trans (hb2.mono (Nat.le_of_lt hlt))
              clear d0 d1 f0 f1
              go_wp2
              refine bodyPost_ret (v := ret3V [] n er) (by simp [results, Tryd.results9, go_sem, hs0, hs1, ret3V, strV_nil]) rfl ⟨rfl, ?_⟩
              exact (hbw2.setCell (p := ⟨w.heap.size, 0, none⟩) (Nat.le_refl _) _).setCell (p := ⟨w.heap.size, 1, none⟩) (Nat.le_refl _) _
end Go.Proofs.YtjpnkffdpcfnjaaDoor
