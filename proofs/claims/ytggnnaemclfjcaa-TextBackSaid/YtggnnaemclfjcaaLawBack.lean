/-
  For every text s and all bytes b the law TextBack returns true and leaves its arguments as they were. No condition.
-/
import Derived.Test.YtggnnaemclfjcaaRows
import Derived.Test.YtggnnaemclfjcaaLatin
import Derived.WalkKit
import Derived.ProofKit
import Derived.OpenShut
import Derived.ShutString
import Derived.ChangeOld
import Derived.Below
import Derived.Deep.RegionHeld3
set_option linter.unusedVariables false
namespace Go.Proofs.Ytggnnaemclfjcaa.textBack
open Go.ChangeShapes Go.WideShapes Go.ChangeAt Go.RowKit
open Go.ChangeMaps (open_string shut_string)

theorem own : ownKnob Try.prog.godebug = none := by kernel_rfl
theorem laidOut : laidOutB Try.prog = true := by kernel_rfl

theorem carry {P : Program} {f : FuncId} {args : Array Value} {w W : World} {r : Value} (h : Calls P f args W fun e w' => e = .returned r ∧ Below W.heap.size W w') (hB : Below w.heap.size w W) :
    Calls P f args W fun e w' => e = .returned r ∧ Below W.heap.size W w' ∧ Below w.heap.size w w' :=
  h.mono fun e w' ⟨he, hb⟩ => ⟨he, hb, below_from hB hb (Nat.le_refl _)⟩

set_option maxRecDepth 100000 in
set_option maxHeartbeats 2000000 in
theorem walk (a0 : ByteArray) (a1 : Option Addr) (len1 cap1 : Nat) (z1 : List Int) (w : World) (w0 : a0.size ≤ maxLen) (w1 : IsRow .u8 w a1 len1 cap1 z1) :
    Calls Try.prog 4 #[.string a0, .slice a1 len1 cap1] w fun e w' => e = .returned (.bool true) ∧ Below w.heap.size w w' := by
  obtain ⟨bs, hbl, hbs⟩ := isRow_bytes w1
  subst hbl
  have hm : a0.size ≤ 9223372036854775807 := w0
  have hm' : (a0.size : Int) ≤ 9223372036854775807 := by omega
  have HAW := Lib.hid awake_any
  by_cases hbig : 2000 < a0.size
  · have hb : (2000 : Int) < (a0.size : Int) := by omega
    clear w0 w1 hm hbig hbs
    go_enter Try.func4, Try.ntmps4
    go_wp2_with fail
    refine (HAW.out _).mono ?_
    rintro e w2 ⟨rfl, hb1⟩
    go_wp2
    go_ret
    exact ⟨rfl, hb1⟩
  have hle : (a0.size : Int) ≤ 2000 := by omega
  by_cases hbig2 : 2000 < bs.length
  · have hb : (2000 : Int) < (bs.length : Int) := by omega
    clear w0 w1 hm hbig hbs
    go_enter Try.func4, Try.ntmps4
    go_wp2_with fail
    refine (HAW.out _).mono ?_
    rintro e w2 ⟨rfl, hb1⟩
    go_wp2
    go_ret
    exact ⟨rfl, hb1⟩
  have hdl := decs_len a0
  have hch := chars_decs a0
  have hOf1 := of_any a0 (by omega)
  have hText := text_any (decs a0) (by omega) hch
  have htl := textOf_len (decs a0)
  have hsz : (⟨(textOf (decs a0)).toArray⟩ : ByteArray).size = (textOf (decs a0)).length := size_list _
  have hrt := decs_textOf (decs a0) hch
  have hOf2 := fun w' => Of_ok ⟨(textOf (decs a0)).toArray⟩ w' (by omega) (by rw [hrt]; omega)
  rw [hrt] at hOf2
  have hCmp := compare_any (decs a0) (decs a0) hch hch (by omega) (by omega)
  unfold CmpPost at hCmp
  rw [cmpL_self] at hCmp
  have hLen := len_any (decs a0) (by omega)
  have hLat := fun w' h => latin_ok bs (by omega) (.slice a1 bs.length cap1) w' h
  have h8 : ∀ c ∈ bs, c < 256 := by obtain ⟨_, _, _, h8, _⟩ := hbs; exact h8
  have hch2 : Chars bs := fun c hc => by have := h8 c hc; omega
  have hW2 := charW_any bs
  rw [narrow_of bs h8] at hW2
  have hLen2 := len_any bs (by omega)
  have hAt2 := fun i hi => at_ok bs i hi (by omega) hch2
  unfold strV at hOf1 hText hOf2 hCmp hLen hLat hW2 hLen2 hAt2
  rw [narrow_of bs h8] at hLat hW2 hLen2 hAt2
  have hlN : (decs a0).length ≤ 2000 := by omega
  generalize decs a0 = l at *
  generalize wideL l = wl at *
  generalize pk l = d at *
  generalize pk bs = d2 at *
  generalize (⟨(textOf l).toArray⟩ : ByteArray) = t at *
  have HOF1 := Lib.hid hOf1
  have HTEXT := Lib.hid hText
  have HOF2 := Lib.hid hOf2
  have HCMP := Lib.hid hCmp
  have HLEN := Lib.hid hLen
  have HLAT := Lib.hid hLat
  have HW2 := Lib.hid hW2
  have HLEN2 := Lib.hid hLen2
  have HAT2 := Lib.hid hAt2
  have HBS := Lib.hid hbs
  have hble : (bs.length : Int) ≤ 2000 := by omega
  clear hOf1 hText hOf2 hCmp hLen hLat hW2 hLen2 hAt2 hbs h8 hch hch2 hrt htl hsz hdl w0 w1 hm hbig hbig2
  go_enter Try.func4, Try.ntmps4
  go_wp2_with fail
  refine (HAW.out _).mono ?_
  rintro e w2 ⟨rfl, hb1⟩
  go_wp2_with fail
  refine (HOF1.out _).mono ?_
  rintro e w3 ⟨rfl, hb2⟩
  have B3 := below_from hb1 hb2 (Nat.le_refl _)
  clear hb1 hb2
  go_wp2_with fail
  refine (HTEXT.out _).mono ?_
  rintro e w4 ⟨rfl, hb4⟩
  have T4 := (two_alloc w3 (.string d) (.bool wl) 24).below hb4
  have B4 := below_alloc B3 hb4
  have H4 := Lib.hid T4
  clear hb4 B3 T4
  go_wp2_with fail
  refine (HOF2.out _).mono ?_
  rintro e w5 ⟨rfl, hb5⟩
  have T5 := H4.out.below hb5
  have B5 := below_from B4 hb5 (Nat.le_refl _)
  clear hb5 H4 B4
  generalize hb0 : w3.heap.size = bx at T5 ⊢
  clear hb0
  have TX := T5.below ((Below.refl _ _).alloc (Nat.le_refl _) (.cells #[.string d, .bool wl] 24))
  have TY := two_alloc w5 (.string d) (.bool wl) 24
  have BW := B5.alloc (by exact B5.size) (.cells #[.string d, .bool wl] 24)
  obtain ⟨_, x0, x1⟩ := TX
  obtain ⟨_, y0, y1⟩ := TY
  have BWd : Below w.heap.size w (w5.alloc (.cells #[.string d, .bool wl] 24)).drew := BW.drew
  clear T5 B5
  go_wp2_with fail
  generalize hWW : w5.alloc (.cells #[.string d, .bool wl] 24) = W at *
  generalize hby : w5.heap.size = by0 at *
  clear hWW hby
  go_region_held3 (fun w' => w'.cell? ⟨bx, 0, none⟩ = some (.string d) ∧ w'.cell? ⟨bx, 1, none⟩ = some (.bool wl) ∧ w'.cell? ⟨by0, 0, none⟩ = some (.string d) ∧ w'.cell? ⟨by0, 1, none⟩ = some (.bool wl))
    (first
      | go_keep
      | (go_split_ands; exact keep4 (by assumption) (by assumption) (by assumption) (by assumption) hb3))
    (first
      | (go_at_call 15; refine (carry (HCMP.out _) (by assumption)).mono ?_; rintro e w3 ⟨rfl, hb3, hB3⟩)
      | (go_at_call 14; refine (carry (HTEXT.out _) (by assumption)).mono ?_; rintro e w3 ⟨rfl, hb3, hB3⟩)
      | (go_at_call 16; refine (carry (HLEN.out _) (by assumption)).mono ?_; rintro e w3 ⟨rfl, hb3, hB3⟩))
  have B7 := hB3
  have HI7 := Lib.hid (HBS.out.below B7)
  go_wp2_with fail
  refine (HLAT.out _ HI7.out).mono ?_
  rintro e w8 ⟨rfl, hb8⟩
  have B8 := below_from B7 hb8 (Nat.le_refl _)
  clear hb8 B7 HI7
  go_wp2_with fail
  refine (HW2.out _).mono ?_
  rintro e w9 ⟨rfl, hb9⟩
  have T9 := (two_alloc w8 (.string d2) (.bool false) 24).below hb9
  have B9 := below_alloc B8 hb9
  have H9 := Lib.hid T9
  obtain ⟨_, c0, c1⟩ := T9
  clear hb9 B8
  go_wp2_with fail
  refine (HLEN2.out _).mono ?_
  rintro e w10 ⟨rfl, hb10⟩
  clear c0 c1
  have T10 := H9.out.below hb10
  have B10 := below_from B9 hb10 (Nat.le_refl _)
  clear hb10 H9 B9
  generalize hb0 : w8.heap.size = bz at T10 ⊢
  clear hb0
  have HT10 := Lib.hid T10
  clear T10
  go_wp2
  go_loopw [9, 10, 11, 72] (fun _ _ _ i wr => ∃ k : Nat, k ≤ bs.length ∧ i = .int .i64 k ∧ Two wr bz (.string d2) (.bool false) ∧ Below w.heap.size w wr) (fun _ _ _ i _ => bs.length - (intOf i).toNat)
  case atStart => exact ⟨0, Nat.zero_le _, rfl, HT10.out, B10⟩
  case round =>
    obtain ⟨k, hk, rfl, T, B⟩ := hrel
    have HT := Lib.hid T
    obtain ⟨_, c0, c1⟩ := T
    by_cases hlt : k < bs.length
    · obtain ⟨a, cap, hv, h8, hin⟩ := HBS.out
      obtain ⟨rfl, rfl⟩ : a = a1 ∧ cap = cap1 := by
        injection hv with h1 _ h3
        exact ⟨h1.symm, h3.symm⟩
      rcases hin with hnil | ⟨b, o, rfl, hbl, hc⟩
      · rw [hnil] at hlt; exact absurd hlt (Nat.not_lt_zero _)
      have hx := hc k hlt
      have hv8 := h8 bs[k] (List.getElem_mem hlt)
      have HX := Lib.hid hx
      have HAk := HAT2.out k hlt
      have hz1 : (bs[k] : Int) < 256 := by omega
      have hz0 : 0 ≤ (bs[k] : Int) := by omega
      generalize (bs[k] : Int) = z at HX HAk hz1 hz0
      have HA := Lib.hid HAk
      clear hc hv hx h8 hv8 HAk
      go_wp2_with fail
      refine (HA.out _).mono ?_
      rintro e w6 ⟨rfl, hb6⟩
      have hx6 := ((below_from B hb6 (Nat.le_refl _)).cell (p := ⟨b, o + k, none⟩) hbl).trans HX.out
      have T6 := HT.out.below hb6
      have B6 := below_from B hb6 (Nat.le_refl _)
      have HT6 := Lib.hid T6
      clear c0 c1 T6 hb6 B
      go_wp2
      go_roundw
      case rel => exact ⟨k + 1, by omega, by go_num, HT6.out, B6⟩
      case measure => simp [intOf]; omega
    · obtain rfl : k = bs.length := by omega
      clear c0 c1
      go_wp2
      go_ret
      exact ⟨rfl, B⟩

set_option maxRecDepth 100000 in
theorem lifted (os : Os) (started : os.Started) (H : Type) (enc : TypeId × Value → H) :
    ReturnsInHanded {} Try.checked os 4 .any (Rows.textBackSpec.pre6 enc Try.prog Try.f4 Rows.textBackRow.domain false) (Rows.textBackSpec.post enc Try.prog Try.f4 false true false false) := by
  refine returnsInHanded_of_change (C := Try.checked) own started (by kernel_rfl) Try.func4
    (ChangeSpec.witness6 (enc := enc) (C := Try.checked) false ⟨#[], #[.string ByteArray.empty, .slice none 0 0], []⟩ 8 (by kernel_rfl) (by kernel_rfl) (by kernel_rfl) (by kernel_rfl)) ?_
  intro W base args ds gs before hval0 hW hcnd _
  have hval : ∀ (j : Nat) t v, Try.f4.params[j]? = some t → args[j]? = some v → Value.okWide Try.prog W .any base t v := hval0
  have hW' := hW
  obtain ⟨p, q, hA0, hV, rfl, hfz, hnd⟩ := hW
  have hA : DataW.TrodAll enc Try.prog W 0 (fun _ => true) true Try.f4.params.toList args.toList ds p := hA0
  rw [Try.params4] at hA hval
  obtain ⟨v0, vs0, d0, ds0, p0, q0, hargs, rfl, rfl, h0, r0⟩ := trodAll_cons hA
  obtain ⟨v1, vs1, d1, ds1, p1, q1, rfl, rfl, rfl, h1, r1⟩ := trodAll_cons r0
  obtain ⟨rfl, rfl, rfl⟩ := trodAll_nil r1
  obtain rfl : args = #[v0, v1] := by cases args; simp_all
  obtain ⟨rfl, rfl⟩ := trodVars_none hV
  obtain ⟨a0, rfl, rfl, rfl, w0⟩ := open_string Try.underlying9 (hval 0 9 v0 rfl rfl) h0
  obtain ⟨a1, len1, cap1, rfl⟩ := okWide_slice Try.underlying34 (hval 1 34 v1 rfl rfl)
  have k1 := h1
  have lt1 : ∀ x ∈ p1, x.block < W.heap.size := by obtain ⟨m, hm⟩ := k1; exact DataW.trod_lt m _ _ _ hm
  obtain ⟨z1, w1⟩ : ∃ zs, IsRow .u8 W a1 len1 cap1 zs := by
    obtain ⟨fuel, hf⟩ := h1
    rcases open_ints Try.underlying34 Try.underlying5 (by kernel_rfl) hf with ⟨hcs, _⟩ | ⟨x, l, c, zs, hcs, _, hl, hm, hz, _, hcell, hwz⟩
    · simp [Value.cells] at hcs
      obtain ⟨rfl, rfl, rfl⟩ := hcs
      exact ⟨[], .inl ⟨rfl, rfl, rfl, rfl⟩⟩
    · simp [Value.cells] at hcs
      obtain ⟨rfl, rfl, rfl⟩ := hcs
      exact ⟨zs, .inr ⟨_, rfl, hl, hm, by simpa using hz, hcell, hwz⟩⟩
  clear hA0 hval0
  refine (walk a0 a1 len1 cap1 z1 W w0 w1).mono fun e W' ⟨he, bel⟩ => ?_
  subst he
  exact ⟨_, rfl, _, _, _, [], _, [], hW', trodAll_mk1 (shut_bool Try.underlying4 _), (trodAll_cons_mk (shut_string Try.underlying9 w0) (trodAll_cons_mk (Below.trod laidOut (by kernel_rfl) (of_decide_eq_true (by kernel_rfl)) k1 bel lt1) trodAll_mk0)), rfl, bel.frame _, fun h => by cases h⟩

theorem over : Rows.textBackRow.holds Try.pinned (OpenSpec.ofChange Rows.textBackSpec) :=
  OpenClaim.holds_of_wide 4 Try.f4 rfl rfl rfl rfl rfl rfl rfl ⟨rfl, rfl, rfl, rfl, rfl⟩ rfl rfl rfl rfl rfl (by kernel_rfl) Try.func4 (by kernel_rfl)
    (of_decide_eq_true (by kernel_rfl)) (by unfold Func.isWrapper; first | (rw [if_pos (by decide +kernel)]; kernel_rfl) | (rw [if_neg (by decide +kernel)]; exact ⟨rfl, rfl⟩))
    (fun os started H enc _ => lifted os started H enc)

theorem proved : Rows.TextBackSaid := over
end Go.Proofs.Ytggnnaemclfjcaa.textBack

