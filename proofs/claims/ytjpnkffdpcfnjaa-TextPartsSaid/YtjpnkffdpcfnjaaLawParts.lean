/-
  For all texts s and other and all numbers n the law TextParts returns true and leaves its arguments as they were. No condition.
-/
import Derived.Test.YtjpnkffdpcfnjaaRows
import Derived.Test.YtjpnkffdpcfnjaaAppI
import Derived.Test.YtjpnkffdpcfnjaaArr4
import Derived.WalkKit
import Derived.ProofKit
import Derived.OpenShut
import Derived.ShutString
import Derived.ChangeOld
import Derived.Below
import Derived.Carry
import Derived.Deep.RegionHeld3
import Derived.Deep.DeepCutAuto
set_option linter.unusedVariables false
namespace Go.Proofs.Ytjpnkffdpcfnjaa.textParts
open Go.ChangeShapes Go.WideShapes Go.ChangeAt Go.RowKit
open Go.ChangeMaps (open_string shut_string)

theorem own : ownKnob Try.prog.godebug = none := by kernel_rfl
theorem laidOut : laidOutB Try.prog = true := by kernel_rfl

theorem keepF {w w' : World} {g : Nat} {a b : Value} (h0 : w.cell? ⟨g, 0, none⟩ = some a) (h1 : w.cell? ⟨g, 1, none⟩ = some b) (h2 : w.frozen? ⟨g, 0, none⟩ = false) (h3 : w.frozen? ⟨g, 1, none⟩ = false) (hb : Below w.heap.size w w') :
    w'.cell? ⟨g, 0, none⟩ = some a ∧ w'.cell? ⟨g, 1, none⟩ = some b ∧ w'.frozen? ⟨g, 0, none⟩ = false ∧ w'.frozen? ⟨g, 1, none⟩ = false := by
  have hlt := World.block_lt_of_cell? w _ h0
  exact ⟨(hb.cell (p := ⟨g, 0, none⟩) hlt).trans h0, (hb.cell (p := ⟨g, 1, none⟩) hlt).trans h1, (hb.frozen (p := ⟨g, 0, none⟩) hlt).trans h2, (hb.frozen (p := ⟨g, 1, none⟩) hlt).trans h3⟩
theorem fresh_two {W w' : World} {a b : Value} {T : TypeId} (hb : Below (W.alloc (.cells #[a, b] T)).heap.size (W.alloc (.cells #[a, b] T)) w') :
    w'.cell? ⟨W.heap.size, 0, none⟩ = some a ∧ w'.cell? ⟨W.heap.size, 1, none⟩ = some b ∧ w'.frozen? ⟨W.heap.size, 0, none⟩ = false ∧ w'.frozen? ⟨W.heap.size, 1, none⟩ = false :=
  keepF (by rw [World.cell?_alloc_at _ _ _ _ rfl]; rfl) (by rw [World.cell?_alloc_at _ _ _ _ rfl]; rfl) (World.frozen?_alloc_at _ _ _ _ rfl) (World.frozen?_alloc_at _ _ _ _ rfl) hb

theorem two_set {w : World} {g : Nat} {a b x y : Value} (h0 : w.cell? ⟨g, 0, none⟩ = some a) (h1 : w.cell? ⟨g, 1, none⟩ = some b) : Two ((w.setCell ⟨g, 0, none⟩ x).setCell ⟨g, 1, none⟩ y) g x y :=
  ⟨by have := World.block_lt_of_cell? w _ h0; simpa using this, cell_zero _ _ _ _ h0, cell_two _ _ _ _ h1⟩
theorem keepFA {w w' : World} {o : Obj} {g : Nat} {a b : Value} (h0 : w.cell? ⟨g, 0, none⟩ = some a) (h1 : w.cell? ⟨g, 1, none⟩ = some b) (h2 : w.frozen? ⟨g, 0, none⟩ = false) (h3 : w.frozen? ⟨g, 1, none⟩ = false) (hb : Below (w.alloc o).heap.size (w.alloc o) w') :
    w'.cell? ⟨g, 0, none⟩ = some a ∧ w'.cell? ⟨g, 1, none⟩ = some b ∧ w'.frozen? ⟨g, 0, none⟩ = false ∧ w'.frozen? ⟨g, 1, none⟩ = false :=
  keepF h0 h1 h2 h3 ((below_al (Below.refl w.heap.size w)).trans (hb.mono (by simp)))
theorem fresh_twoA {W w' : World} {o : Obj} {a b : Value} {T : TypeId} (hb : Below ((W.alloc (.cells #[a, b] T)).alloc o).heap.size ((W.alloc (.cells #[a, b] T)).alloc o) w') :
    w'.cell? ⟨W.heap.size, 0, none⟩ = some a ∧ w'.cell? ⟨W.heap.size, 1, none⟩ = some b ∧ w'.frozen? ⟨W.heap.size, 0, none⟩ = false ∧ w'.frozen? ⟨W.heap.size, 1, none⟩ = false :=
  keepFA (by rw [World.cell?_alloc_at _ _ _ _ rfl]; rfl) (by rw [World.cell?_alloc_at _ _ _ _ rfl]; rfl) (World.frozen?_alloc_at _ _ _ _ rfl) (World.frozen?_alloc_at _ _ _ _ rfl) hb
theorem fresh_twoB {W w' : World} {o : Obj} {a b : Value} {T : TypeId} (hb : Below ((W.alloc o).alloc (.cells #[a, b] T)).heap.size ((W.alloc o).alloc (.cells #[a, b] T)) w') :
    w'.cell? ⟨W.heap.size + 1, 0, none⟩ = some a ∧ w'.cell? ⟨W.heap.size + 1, 1, none⟩ = some b ∧ w'.frozen? ⟨W.heap.size + 1, 0, none⟩ = false ∧ w'.frozen? ⟨W.heap.size + 1, 1, none⟩ = false := by
  have h := fresh_two hb
  simpa using h
theorem size_al (w : World) (o : Obj) : w.heap.size < (w.alloc o).heap.size := by simp
theorem keepA1 {w : World} {o o' : Obj} {b : Nat} {x y : Value} (hb : b < w.heap.size) (h0 : (w.alloc o).cell? ⟨b, 0, none⟩ = some x) (h1 : (w.alloc o).cell? ⟨b, 1, none⟩ = some y) :
    (w.alloc o').cell? ⟨b, 0, none⟩ = some x ∧ (w.alloc o').cell? ⟨b, 1, none⟩ = some y := by
  rw [World.cell?_alloc_lt _ o ⟨b, 0, none⟩ hb] at h0
  rw [World.cell?_alloc_lt _ o ⟨b, 1, none⟩ hb] at h1
  rw [World.cell?_alloc_lt _ o' ⟨b, 0, none⟩ hb, World.cell?_alloc_lt _ o' ⟨b, 1, none⟩ hb]
  exact ⟨h0, h1⟩
theorem keepT1 {w : World} {b g : Nat} {x y p q : Value} (hb : b ≠ g) (h0 : w.cell? ⟨b, 0, none⟩ = some x) (h1 : w.cell? ⟨b, 1, none⟩ = some y) :
    ((w.setCell ⟨g, 0, none⟩ p).setCell ⟨g, 1, none⟩ q).cell? ⟨b, 0, none⟩ = some x ∧ ((w.setCell ⟨g, 0, none⟩ p).setCell ⟨g, 1, none⟩ q).cell? ⟨b, 1, none⟩ = some y := by
  have key : ∀ {i : Nat} {v : Value}, w.cell? ⟨b, i, none⟩ = some v → ((w.setCell ⟨g, 0, none⟩ p).setCell ⟨g, 1, none⟩ q).cell? ⟨b, i, none⟩ = some v := fun h =>
    (World.cell?_setCell_other _ _ _ _ (fun e => hb (congrArg Addr.block e).symm)).trans ((World.cell?_setCell_other _ _ _ _ (fun e => hb (congrArg Addr.block e).symm)).trans h)
  exact ⟨key h0, key h1⟩

theorem set_list (l : List Nat) (i j c : Nat) : intsV (sub l 0 i) ++ intsV [c] ++ intsV (sub l j l.length) = intsV ([sub l 0 i, [c], sub l j l.length]).flatten := by simp [intsV]
theorem set_list0 (l : List Nat) (i c : Nat) : intsV (sub l 0 i) ++ intsV [c] = intsV ([sub l 0 i, [c], sub l l.length l.length]).flatten := by simp [intsV, sub]
theorem set_chars {l : List Nat} (hl : Chars l) {c : Nat} (hc : okc (c : Int) = true) (i j : Nat) : Chars ([sub l 0 i, [c], sub l j l.length]).flatten := fun d hd => by
  simp only [List.flatten_cons, List.flatten_nil, List.append_nil, List.mem_append, List.mem_singleton] at hd
  rcases hd with h | rfl | h
  · exact hl d (sub_mem h)
  · have := (okc_iff d).1 hc; omega
  · exact hl d (sub_mem h)

set_option maxHeartbeats 40000000 in
set_option maxRecDepth 100000 in
theorem walk (a0 : ByteArray) (a1 : ByteArray) (n0 n1 n2 n3 : Int) (w0 : a0.size ≤ maxLen) (w1 : a1.size ≤ maxLen) (w : World) :
    Calls Try.prog 5 #[.string a0, .string a1, .agg #[.int .i64 n0, .int .i64 n1, .int .i64 n2, .int .i64 n3]] w fun e w' => e = .returned (.bool true) ∧ Below w.heap.size w w' := by
  have hm0 : (a0.size : Int) ≤ 9223372036854775807 := by unfold maxLen at w0; omega
  have hm1 : (a1.size : Int) ≤ 9223372036854775807 := by unfold maxLen at w1; omega
  have HAW := Lib.hid awake_any
  clear w0 w1
  by_cases hbig : 1000 < a0.size
  · have hb : (1000 : Int) < (a0.size : Int) := by omega
    clear hbig
    go_enter Try.func5, Try.ntmps5
    go_wp2_with fail
    refine (HAW.out _).mono ?_
    rintro e w2 ⟨rfl, hb1⟩
    have hB := below_alloc (Below.refl w.heap.size w) hb1
    go_wp2
    refine bodyPost_ret (v := .bool true) (by simp [results, Try.results5, go_sem]) rfl ⟨rfl, hB⟩
  have hle0 : (a0.size : Int) ≤ 1000 := by omega
  clear hbig
  by_cases hbig : 1000 < a1.size
  · have hb : (1000 : Int) < (a1.size : Int) := by omega
    clear hbig
    go_enter Try.func5, Try.ntmps5
    go_wp2_with fail
    refine (HAW.out _).mono ?_
    rintro e w2 ⟨rfl, hb1⟩
    have hB := below_alloc (Below.refl w.heap.size w) hb1
    go_wp2
    refine bodyPost_ret (v := .bool true) (by simp [results, Try.results5, go_sem]) rfl ⟨rfl, hB⟩
  have hle1 : (a1.size : Int) ≤ 1000 := by omega
  clear hbig
  have hdl := decs_len a0
  have hdm := decs_len a1
  have hcl := chars_decs a0
  have hcm := chars_decs a1
  have hOfA := of_any a0 (by omega)
  have hOfB := of_any a1 (by omega)
  have hDecA := decode_any a0 (by omega)
  have hDecB := decode_any a1 (by omega)
  unfold DecPost at hDecA hDecB
  generalize decs a0 = l at *
  generalize decs a1 = m at *
  have hll : l.length ≤ 1000 := by omega
  have hlm : m.length ≤ 1000 := by omega
  have h24 : ∀ {q : List Nat}, Chars q → ∀ c ∈ q, c < 16777216 := fun h c hc => by have := (h c hc).1; omega
  -- Slice
  obtain ⟨dp, wp, ep, hSl, hA1, hA2⟩ : ∃ (dp : ByteArray) (wp : Bool) (ep : Int), (∀ W, Calls Try.prog 19 #[strV l, .int .i64 n0, .int .i64 n1] W fun e w' => e = .returned (.tuple #[.agg #[.string dp, .bool wp], .int .i64 ep]) ∧ Below W.heap.size W w') ∧
      ((0 ≤ n0 ∧ n0 ≤ n1 ∧ n1 ≤ (l.length : Int)) → ep = 0 ∧ Value.agg #[.string dp, .bool wp] = strV (sub l n0.toNat n1.toNat)) ∧ (¬ (0 ≤ n0 ∧ n0 ≤ n1 ∧ n1 ≤ (l.length : Int)) → ep = 11 ∧ dp = ⟨#[]⟩ ∧ wp = false) := by
    by_cases h : 0 ≤ n0 ∧ n0 ≤ n1 ∧ n1 ≤ (l.length : Int)
    · have hs := fun W => slice_ok l (by omega) (h24 hcl) n0.toNat n1.toNat (by omega) (by omega) W
      rw [show ((n0.toNat : Nat) : Int) = n0 by omega, show ((n1.toNat : Nat) : Int) = n1 by omega] at hs
      exact ⟨_, _, _, hs, fun _ => ⟨rfl, rfl⟩, fun hn => absurd h hn⟩
    · exact ⟨_, _, _, fun W => slice_no l (by omega) n0 n1 (by omega) W, fun hy => absurd hy h, fun _ => ⟨rfl, rfl, rfl⟩⟩
  -- Set
  obtain ⟨dq, wq, eq, hSe, hB1, hB2, hB3⟩ : ∃ (dq : ByteArray) (wq : Bool) (eq : Int), (∀ W, Calls Try.prog 20 #[strV l, .int .i64 n2, .int .i64 n3] W fun e w' => e = .returned (.tuple #[.agg #[.string dq, .bool wq], .int .i64 eq]) ∧ Below W.heap.size W w') ∧
      (∀ j, 0 ≤ n2 → ((n2 < (l.length : Int) ∧ j = n2.toNat + 1) ∨ (n2 = (l.length : Int) ∧ j = l.length)) → okc n3 = true → eq = 0 ∧ Value.agg #[.string dq, .bool wq] = strV ([sub l 0 n2.toNat, [n3.toNat], sub l j l.length]).flatten) ∧
      ((n2 < 0 ∨ (l.length : Int) < n2) → eq = 11 ∧ dq = ⟨#[]⟩ ∧ wq = false) ∧ (0 ≤ n2 → n2 ≤ (l.length : Int) → okc n3 = false → eq = 1 ∧ dq = ⟨#[]⟩ ∧ wq = false) := by
    by_cases h : n2 < 0 ∨ (l.length : Int) < n2
    · exact ⟨_, _, _, fun W => set_no l (by omega) n2 n3 h W, fun j h0 hj => (by omega), fun _ => ⟨rfl, rfl, rfl⟩, fun h0 h1 => by omega⟩
    · cases hc : okc n3
      · exact ⟨_, _, _, fun W => set_arg l (by omega) n2 n3 (by omega) (by omega) hc W, fun _ _ _ h => (by cases h), fun hn => absurd hn h, fun _ _ _ => ⟨rfl, rfl, rfl⟩⟩
      · have h3 : 0 ≤ n3 := by unfold okc at hc; have := of_decide_eq_true hc; omega
        obtain ⟨c, rfl⟩ := Int.eq_ofNat_of_zero_le h3
        obtain ⟨i, rfl⟩ := Int.eq_ofNat_of_zero_le (show 0 ≤ n2 by omega)
        by_cases hi : i < l.length
        · exact ⟨_, _, _, fun W => set_core l hll hcl i c (i + 1) (by omega) (.inl ⟨hi, rfl⟩) hc W, fun j _ hj _ => (by have e : j = i + 1 := (by omega); subst e; exact ⟨rfl, rfl⟩), fun hn => absurd hn h, fun _ _ h => (by cases h)⟩
        · exact ⟨_, _, _, fun W => set_core l hll hcl i c l.length (by omega) (.inr ⟨by omega, rfl⟩) hc W, fun j _ hj _ => (by have e : j = l.length := (by omega); subst e; exact ⟨rfl, rfl⟩), fun hn => absurd hn h, fun _ _ h => (by cases h)⟩
  have hIsA : (0 ≤ n0 ∧ n0 ≤ n1 ∧ n1 ≤ (l.length : Int)) → ∀ v W, IntsAt W v (sub l n0.toNat n1.toNat) → Calls Try.prog 11 #[.agg #[.string dp, .bool wp], v] W fun e w' => e = .returned (.bool true) ∧ Below W.heap.size W w' := fun h v W hv => by
    rw [(hA1 h).2]
    exact is_same _ (by have := sub_len l n0.toNat n1.toNat (by omega) (by omega); omega) (fun c hc => hcl c (sub_mem hc)) v W hv
  have hL0 : ∀ W, Calls Try.prog 16 #[.agg #[.string ⟨#[]⟩, .bool false]] W fun e w' => e = .returned (.int .i64 0) ∧ Below W.heap.size W w' := fun W => len_narrow ⟨#[]⟩ (by decide) W
  have HOA := Lib.hid hOfA
  have HOB := Lib.hid hOfB
  have HDA := Lib.hid hDecA
  have HDB := Lib.hid hDecB
  have HSL := Lib.hid hSl
  have HA1 := Lib.hid hA1
  have HA2 := Lib.hid hA2
  have HSE := Lib.hid hSe
  have HB1 := Lib.hid hB1
  have HB2 := Lib.hid hB2
  have HB3 := Lib.hid hB3
  have HISA := Lib.hid hIsA
  have HL0 := Lib.hid hL0
  have HCL := Lib.hid hcl
  have HCM := Lib.hid hcm
  clear hOfA hOfB hDecA hDecB hSl hA1 hA2 hSe hB1 hB2 hB3 hIsA hL0 hcl hcm h24 hdl hdm
  unfold strV at HOA HOB HSL HSE
  generalize hdl : pk l = dl at HOA HSL HSE
  generalize hwl : wideL l = wl at HOA HSL HSE
  have HPK : Hid (strV l = .agg #[.string dl, .bool wl]) := by unfold strV; rw [hdl, hwl]; rfl
  clear hdl hwl
  go_enter Try.func5, Try.ntmps5
  go_wp2_with fail
  refine (HAW.out _).mono ?_
  rintro e w1 ⟨rfl, hb1⟩
  have B1 := below_alloc (Below.refl w.heap.size w) hb1
  have hn0 : w1.cell? ⟨w.heap.size, 0, none⟩ = some (.int .i64 n0) := by rw [hb1.cell (p := ⟨w.heap.size, 0, none⟩) (by simp), World.cell?_alloc_at _ _ _ _ rfl]; rfl
  have hn1 : w1.cell? ⟨w.heap.size, 1, none⟩ = some (.int .i64 n1) := by rw [hb1.cell (p := ⟨w.heap.size, 1, none⟩) (by simp), World.cell?_alloc_at _ _ _ _ rfl]; rfl
  have hn2 : w1.cell? ⟨w.heap.size, 2, none⟩ = some (.int .i64 n2) := by rw [hb1.cell (p := ⟨w.heap.size, 2, none⟩) (by simp), World.cell?_alloc_at _ _ _ _ rfl]; rfl
  have hn3 : w1.cell? ⟨w.heap.size, 3, none⟩ = some (.int .i64 n3) := by rw [hb1.cell (p := ⟨w.heap.size, 3, none⟩) (by simp), World.cell?_alloc_at _ _ _ _ rfl]; rfl
  have hlt1 : w.heap.size < w1.heap.size := World.block_lt_of_cell? w1 _ hn0
  have HN1 := Lib.hid (And.intro hn0 (And.intro hn1 (And.intro hn2 hn3)))
  clear hb1 hn0 hn1 hn2 hn3
  go_wp2_with fail
  refine (HOA.out _).mono ?_
  rintro e w2 ⟨rfl, hb2⟩
  have B2 := below_from B1 hb2 (Nat.le_refl _)
  go_wp2_with fail
  refine (HDA.out _).mono ?_
  rintro e w3 ⟨v1, rfl, hi3, hb3⟩
  have B3 := below_from B2 hb3 (Nat.le_refl _)
  have HB3 := Lib.hid (below_al (o := .cells #[.string dl, .bool wl] 24) B3)
  have HT3 := Lib.hid (two_alloc w3 (.string dl) (.bool wl) 24)
  obtain ⟨av, cv, rfl, _⟩ := hi3.c
  have HI3 := Lib.hid (hi3.d.below (below_al (o := .cells #[.string dl, .bool wl] 24) (Below.refl w3.heap.size w3)))
  have hb13 := hb2.trans (hb3.mono hb2.size)
  have hlt3 : w.heap.size < w3.heap.size := Nat.lt_of_lt_of_le hlt1 hb13.size
  have n0' := (hb13.cell (p := ⟨w.heap.size, 0, none⟩) hlt1).trans HN1.out.1
  have n1' := (hb13.cell (p := ⟨w.heap.size, 1, none⟩) hlt1).trans HN1.out.2.1
  have n2' := (hb13.cell (p := ⟨w.heap.size, 2, none⟩) hlt1).trans HN1.out.2.2.1
  have n3' := (hb13.cell (p := ⟨w.heap.size, 3, none⟩) hlt1).trans HN1.out.2.2.2
  clear hb2 hb3 B1 B2 B3 hi3 hb13 HN1
  go_wp2_with fail
  go_quiet (fail)
  have HB4 := Lib.hid (below_drewN HB3.out nq)
  have HT4 : Hid (Two ((w3.alloc (.cells #[.string dl, .bool wl] 24)).drewN nq) w3.heap.size (.string dl) (.bool wl)) := HT3.out
  have HI4 : Hid (IntsD ((w3.alloc (.cells #[.string dl, .bool wl] 24)).drewN nq) (.slice av l.length cv) l) := HI3.out
  clear n0' n1' n2' n3' HB3 HT3 HI3 hlt1 hlt3
  generalize (w3.alloc (.cells #[.string dl, .bool wl] 24)).drewN nq = w4 at HB4 HT4 HI4 ⊢
  generalize w3.heap.size = xb at HT4 ⊢
  obtain ⟨_, x0, x1⟩ := HT4.out
  go_wp2_with fail
  refine (HSL.out _).mono ?_
  rintro e w5 ⟨rfl, hb5⟩
  have HB5 := Lib.hid (below_from HB4.out hb5 (Nat.le_refl _))
  have HT5 := Lib.hid (HT4.out.below hb5)
  have HI5 := Lib.hid (HI4.out.below hb5)
  clear hb5 x0 x1 HB4 HT4 HI4
  obtain ⟨cA, hcA⟩ : ∃ cA, cA = !decide (0 ≤ n0 ∧ n0 ≤ n1 ∧ n1 ≤ (l.length : Int)) := ⟨_, rfl⟩
  have HCA1 : Hid (0 ≤ n0 → n0 ≤ n1 → n1 ≤ (l.length : Int) → cA = false) := fun h0 h1 h2 => by rw [hcA, decide_eq_true ⟨h0, h1, h2⟩]; rfl
  have HCA2 : Hid ((n0 < 0 ∨ n1 < n0 ∨ (l.length : Int) < n1) → cA = true) := fun h => by rw [hcA, decide_eq_false (by omega)]; rfl
  have HCA3 : Hid (cA = false → 0 ≤ n0 ∧ n0 ≤ n1 ∧ n1 ≤ (l.length : Int)) := fun h => by
    rw [hcA] at h
    simpa using h
  have HCA4 : Hid (cA = true → ¬ (0 ≤ n0 ∧ n0 ≤ n1 ∧ n1 ≤ (l.length : Int))) := fun h => by
    rw [hcA] at h
    simp at h
    omega
  have HCA5 : Hid (∀ b : Bool, (b = true ↔ (n0 < 0 ∨ n1 < n0 ∨ (l.length : Int) < n1)) → b = cA) := fun b h => by
    rw [hcA, Bool.eq_iff_iff, h]
    simp
    try omega
  clear hcA
  go_upto_region 8 with fail
  go_cut [60] (fun b wr => b = .bool cA ∧ wr = w5.alloc (.cells #[.string dp, .bool wp] 24))
  case first =>
    go_wp2_with fail
    all_goals
      go_meet
      refine ⟨congrArg Value.bool ?_, rfl⟩
      first
        | exact (HCA2.out (by omega)).symm
        | exact (HCA1.out (by omega) (by omega) (by omega)).symm
        | (refine HCA5.out _ ?_; simp; omega)
        | (refine HCA5.out _ ?_; simp)
  case rest =>
    obtain ⟨rfl, rfl⟩ := hcut
    have HB6 := Lib.hid (below_al (o := .cells #[.string dp, .bool wp] 24) HB5.out)
    have HT6 := Lib.hid (HT5.out.below (below_al (o := .cells #[.string dp, .bool wp] 24) (Below.refl w5.heap.size w5)))
    have HI6 := Lib.hid (HI5.out.below (below_al (o := .cells #[.string dp, .bool wp] 24) (Below.refl w5.heap.size w5)))
    have HP6 := Lib.hid (two_alloc w5 (.string dp) (.bool wp) 24)
    generalize w5.alloc (.cells #[.string dp, .bool wp] 24) = w6 at HB6 HT6 HI6 HP6 ⊢
    generalize w5.heap.size = pb at HP6 ⊢
    clear HB5 HT5 HI5
    go_upto_if 60 with fail
    go_cut [] (fun wr => Below w6.heap.size w6 wr)
    case first => as_aux_lemma =>
      obtain ⟨_, p0, p1⟩ := HP6.out
      cases hcase : cA
      · have hA := HCA3.out hcase
        obtain ⟨he, hdrop⟩ := HA1.out hA
        subst he
        clear hdrop
        have HIS := HISA.out hA
        have hW0 : Below w6.heap.size w6 w6.drew := (Below.refl _ _).drew
        have hW00 : Below w6.heap.size w6 w6 := Below.refl _ _
        have p0d : w6.drew.cell? ⟨pb, 0, none⟩ = some (.string dp) := p0
        have p1d : w6.drew.cell? ⟨pb, 1, none⟩ = some (.bool wp) := p1
        rcases HI6.out with ⟨hv, hl⟩ | ⟨b, o, cap, hv, h1, h2, hb, hc⟩
        · injection hv with hv1 hv2 hv3
          subst hv1 hv3
          have hl0 : l.length = 0 := by rw [hl]; rfl
          have e0 : n0 = 0 := by omega
          have e1 : n1 = 0 := by omega
          subst e0
          subst e1
          have HIS2 := Lib.hid (fun W => HIS (.slice none 0 0) W ⟨none, 0, by simp [sub], .inl (by simp [sub])⟩)
          clear hl hl0 hv2 hA hcase HIS HISA HA1 HA2 HSL HCA1 HCA2 HCA3 HCA4 HCA5
          go_wp2_with fail
          go_region_held3 (fun w' => w'.cell? ⟨pb, 0, none⟩ = some (.string dp) ∧ w'.cell? ⟨pb, 1, none⟩ = some (.bool wp))
            (first
              | (go_split_ands; exact cells_of_two (by assumption) (by assumption) hb7)
              | go_keep)
            ((go_at_call 11; (with_reducible refine (carry (w := w6) (HIS2.out _) ?_).mono ?_); (first | assumption | (refine Below.drew ?_; assumption)); rintro e w7 ⟨rfl, hb7, hB7⟩))
          all_goals
            go_wp2
            go_meet
            exact hB7
        · obtain ⟨i, rfl⟩ := Int.eq_ofNat_of_zero_le hA.1
          obtain ⟨j, rfl⟩ := Int.eq_ofNat_of_zero_le (show 0 ≤ n1 by omega)
          simp only [Int.toNat_natCast] at HIS
          have g1 : i ≤ j := by omega
          have g2 : j ≤ l.length := by omega
          have HISH := Lib.hid HIS
          clear hA hcase HIS HISA HA1 HA2 HSL HCA1 HCA2 HCA3 HCA4 HCA5
          injection hv with hv1 hv2 hv3
          subst hv1 hv3
          have h1I : (l.length : Int) ≤ (cv : Int) := by omega
          have h2I : (cv : Int) ≤ 9223372036854775807 := by unfold maxLen at h2; omega
          have g1I : (i : Int) ≤ (j : Int) := by omega
          have g2I : (j : Int) ≤ (cv : Int) := by omega
          by_cases hci : cv = i
          · have hji : j = i := by omega
            have HPD : Hid (∀ W, IntsAt W (.slice (some ⟨b, o, none⟩) 0 0) (sub l i j)) := fun W => ⟨some ⟨b, o, none⟩, 0, by rw [sub_len l i j g1 g2, hji]; simp, .inl (List.length_eq_zero_iff.1 (by rw [sub_len l i j g1 g2]; omega))⟩
            have hIS := HISH.out
            clear hc hv2
            subst hji
            subst hci
            have HIS2 := Lib.hid (fun W => hIS _ W (HPD.out W))
            clear hIS
            go_wp2_with fail
            go_region_held3 (fun w' => w'.cell? ⟨pb, 0, none⟩ = some (.string dp) ∧ w'.cell? ⟨pb, 1, none⟩ = some (.bool wp))
              (first
                | (go_split_ands; exact cells_of_two (by assumption) (by assumption) hb7)
                | go_keep)
              ((go_at_call 11; (with_reducible refine (carry (w := w6) (HIS2.out _) ?_).mono ?_); (first | assumption | (refine Below.drew ?_; assumption)); rintro e w7 ⟨rfl, hb7, hB7⟩))
            all_goals
              go_wp2
              go_meet
              exact hB7
          · have HPD := Lib.hid (part_d (i := i) (j := j) hb hc g1 g2 h1 h2)
            have HIS2 : Hid (∀ W, Below w6.heap.size w6 W → Calls Try.prog 11 #[.agg #[.string dp, .bool wp], .slice (some ⟨b, o + i, none⟩) (j - i) (cv - i)] W fun e w' => e = .returned (.bool true) ∧ Below W.heap.size W w') := fun W hW => HISH.out _ W (HPD.out.below hW).at
            clear hc hv2
            go_wp2_with fail
            go_region_held3 (fun w' => w'.cell? ⟨pb, 0, none⟩ = some (.string dp) ∧ w'.cell? ⟨pb, 1, none⟩ = some (.bool wp))
              (first
                | (go_split_ands; exact cells_of_two (by assumption) (by assumption) hb7)
                | go_keep)
              ((go_at_call 11; (with_reducible refine (carry (w := w6) (HIS2.out _ hW0) ?_).mono ?_); (first | assumption | (refine Below.drew ?_; assumption)); rintro e w7 ⟨rfl, hb7, hB7⟩))
            all_goals
              go_wp2
              go_meet
              exact hB7
      · obtain ⟨he, hd, hw⟩ := HA2.out (HCA4.out hcase)
        subst he hd hw
        clear hcase
        go_wp2_with fail
        refine (HL0.out _).mono ?_
        rintro e w7 ⟨rfl, hb7⟩
        go_wp2
        go_meet
        exact hb7
    case rest =>
      have HB7 := Lib.hid (below_from HB6.out hcut (Nat.le_refl _))
      have HT7 := Lib.hid (HT6.out.below hcut)
      have HI7 := Lib.hid (HI6.out.below hcut)
      clear hcut HB6 HT6 HI6 HP6 HISA HA1 HA2 HSL HCA1 HCA2 HCA3 HCA4 HCA5
      obtain ⟨_, x0, x1⟩ := HT7.out
      go_wp2_with fail
      refine (HSE.out _).mono ?_
      rintro e w8 ⟨rfl, hb8⟩
      have HB8 := Lib.hid (below_from HB7.out hb8 (Nat.le_refl _))
      have HT8 := Lib.hid (HT7.out.below hb8)
      have HI8 := Lib.hid (HI7.out.below hb8)
      clear hb8 x0 x1 HB7 HT7 HI7
      obtain ⟨cB, hcB⟩ : ∃ cB, cB = decide (n2 < 0 ∨ (l.length : Int) < n2) := ⟨_, rfl⟩
      have HCB1 : Hid (0 ≤ n2 → n2 ≤ (l.length : Int) → cB = false) := fun h0 h1 => by rw [hcB]; exact decide_eq_false (by omega)
      have HCB2 : Hid ((n2 < 0 ∨ (l.length : Int) < n2) → cB = true) := fun h => by rw [hcB]; exact decide_eq_true h
      have HCB3 : Hid (cB = false → 0 ≤ n2 ∧ n2 ≤ (l.length : Int)) := fun h => by rw [hcB] at h; have := of_decide_eq_false h; omega
      have HCB4 : Hid (cB = true → n2 < 0 ∨ (l.length : Int) < n2) := fun h => by rw [hcB] at h; exact of_decide_eq_true h
      have HCB5 : Hid (∀ b : Bool, (b = true ↔ (n2 < 0 ∨ (l.length : Int) < n2)) → b = cB) := fun b h => by
        rw [hcB, Bool.eq_iff_iff, h]
        simp
      clear hcB
      go_upto_region 14 with fail
      go_cut [93] (fun b wr => b = .bool cB ∧ wr = w8.alloc (.cells #[.string dq, .bool wq] 24))
      case first =>
        go_wp2_with fail
        all_goals
          go_meet
          refine ⟨congrArg Value.bool ?_, rfl⟩
          first
            | exact (HCB2.out (by omega)).symm
            | exact (HCB1.out (by omega) (by omega)).symm
            | (refine HCB5.out _ ?_; simp; omega)
            | (refine HCB5.out _ ?_; simp)
      case rest =>
        obtain ⟨rfl, rfl⟩ := hcut
        have HB9 := Lib.hid (below_al (o := .cells #[.string dq, .bool wq] 24) HB8.out)
        have HT9 := Lib.hid (HT8.out.below (below_al (o := .cells #[.string dq, .bool wq] 24) (Below.refl w8.heap.size w8)))
        have HI9 := Lib.hid (HI8.out.below (below_al (o := .cells #[.string dq, .bool wq] 24) (Below.refl w8.heap.size w8)))
        have HQ9 := Lib.hid (two_alloc w8 (.string dq) (.bool wq) 24)
        generalize w8.alloc (.cells #[.string dq, .bool wq] 24) = w9 at HB9 HT9 HI9 HQ9 ⊢
        generalize w8.heap.size = qb at HQ9 ⊢
        clear HB8 HT8 HI8
        go_upto_if 93 with fail
        go_cut [] (fun wr => Below w9.heap.size w9 wr)
        case first => as_aux_lemma =>
          obtain ⟨_, q0, q1⟩ := HQ9.out
          cases hcase : cB
          · obtain ⟨g0, g1⟩ := HCB3.out hcase
            cases hok : okc n3
            · obtain ⟨he, hd, hw⟩ := HB3.out g0 g1 hok
              subst he hd hw
              have HNO := Lib.hid (is_no n3 hok)
              clear hok hcase
              go_wp2_with fail
              refine (HNO.out _).mono ?_
              rintro e w10 ⟨rfl, rfl⟩
              go_wp2_with fail
              refine (HL0.out _).mono ?_
              rintro e w11 ⟨rfl, hb11⟩
              go_wp2
              go_meet
              exact hb11
            · have HYES := Lib.hid (is_yes n3 hok)
              clear hcase
              go_wp2_with fail
              refine (HYES.out _).mono ?_
              rintro e w10 ⟨rfl, rfl⟩
              have hc0 : 0 ≤ n3 := by unfold okc at hok; have := of_decide_eq_true hok; omega
              obtain ⟨c, rfl⟩ := Int.eq_ofNat_of_zero_le hc0
              obtain ⟨i0, hi, hz0, hz1, hz2⟩ := info_parts infoInt
              have HOK := Lib.hid hok
              clear hok hc0
              rcases HI9.out with ⟨hv, hl⟩ | ⟨b, o, cap, hv, h1, h2, hb, hc⟩
              · injection hv with hv1 hv2 hv3
                subst hv1 hv3
                have hl0 : l.length = 0 := by rw [hl]; rfl
                have e0 : n2 = 0 := by omega
                subst e0
                have HD0 : Hid (IntsD w9 (.slice none 0 0) (sub l 0 0)) := .inl ⟨rfl, by simp [sub]⟩
                have HL00 := Lib.hid hl0
                have hsl : (sub l 0 0).length ≤ 1000 := by simp [sub]
                clear hl hl0 hv2
                have hnew : (w9.alloc (.cells #[] 3)).ownsRow w9.heap.size 3 1 (.slice (some ⟨w9.heap.size, 0, none⟩) 0 0) 0 [] := World.ownsRow_lit w9 #[] 0 (Nat.le_refl _) (by decide) rfl
                have hba : Below w9.heap.size w9 (w9.alloc (.cells #[] 3)) := below_al (Below.refl _ _)
                have hD0 := HD0.out.below hba
                go_wp2_with (at_builtin; refine append_ints rfl _ _ 28 rfl w9.heap.size 3 i0 Try.underlying28 hi hz0 hz1 hz2 _ (0) ([]) rfl hnew _ (sub l 0 0) rfl hD0 ?w21a ?w21b ?_)
                case w21a => (try simp only [List.length_cons, List.length_nil]); omega
                case w21b => first | omega | (simp; done) | (simp; omega)
                intro v1 w11 hownw11 hgroww11
                have hb11 : Below w9.heap.size w9 w11 := hba.grown hgroww11 (by simp) (fun j hj => (hnew.lt j hj).1)
                have hown1 := hownw11.alloc (.cells #[.int .i64 (c : Int)] 3)
                have hD1 : IntsD (w11.alloc (.cells #[.int .i64 (c : Int)] 3)) (.slice (some ⟨w11.heap.size, 0, none⟩) 1 1) [c] := .inr ⟨w11.heap.size, 0, 1, rfl, Nat.le_refl _, by decide, by simp, fun j hj => by
                  have hj : j < 1 := hj
                  obtain rfl : j = 0 := by omega
                  rw [World.cell?_alloc_at _ _ _ _ rfl]; rfl⟩
                have hs11 := hb11.size
                clear hnew hba hD0 hgroww11
                go_wp2_with (at_builtin; refine append_ints rfl _ _ 28 rfl w9.heap.size 3 i0 Try.underlying28 hi hz0 hz1 hz2 v1 (_) (_) rfl hown1 _ ([c]) rfl hD1 ?w22a ?w22b ?_)
                case w22a => (try simp only [List.length_cons, List.length_nil]); omega
                case w22b => first | omega | (simp; done) | (simp; omega)
                intro v2 w12 hownw12 hgroww12
                have hb12 : Below w9.heap.size w9 w12 := (below_al (o := .cells #[.int .i64 (c : Int)] 3) hb11).grown hgroww12 (by simp; omega) (fun j hj => (hown1.lt j hj).1)
                have hs12 := hb12.size
                clear hown1 hD1 hgroww12 hb11 hs11 hownw11
                have hl0 := HL00.out
                obtain ⟨he, hagg⟩ := HB1.out l.length (by omega) (.inr ⟨by omega, rfl⟩) HOK.out
                simp only [Int.toNat_natCast, Int.toNat_zero] at hagg
                have hfl : ([sub l 0 0, [c], sub l l.length l.length]).flatten.length = (sub l 0 0).length + 1 := by simp [sub]
                have HIS : Hid (∀ v W, IntsAt W v ([sub l 0 0, [c], sub l l.length l.length]).flatten → Calls Try.prog 11 #[.agg #[.string dq, .bool wq], v] W fun e w' => e = .returned (.bool true) ∧ Below W.heap.size W w') := fun v W hv => by
                  rw [hagg]
                  exact is_same _ (by omega) (set_chars HCL.out HOK.out 0 l.length) v W hv
                have hIn : Ints w12 w9.heap.size v2 ([sub l 0 0, [c], sub l l.length l.length]).flatten := by
                  unfold Ints
                  rw [hfl, ← set_list0]
                  simpa only [Nat.zero_add, List.nil_append, List.append_assoc] using hownw12
                have HI12 := Lib.hid hIn.at
                subst he
                have hltI : ¬ (0 : Int) < (l.length : Int) := by omega
                clear hl0
                have qlt := HQ9.out.1
                have q0' := (hb12.cell (p := ⟨qb, 0, none⟩) qlt).trans q0
                have q1' := (hb12.cell (p := ⟨qb, 1, none⟩) qlt).trans q1
                have HB12 := Lib.hid hb12
                clear hagg hfl hIn hownw12 hb12
                go_wp2_with fail
                refine (HIS.out _ _ HI12.out).mono ?_
                rintro e w14 ⟨rfl, hb14⟩
                have hb15 := HB12.out.trans (hb14.mono HB12.out.size)
                clear hb14 q0' q1'
                go_wp2
                go_meet
                exact hb15
              · injection hv with hv1 hv2 hv3
                obtain ⟨i, rfl⟩ := Int.eq_ofNat_of_zero_le g0
                have hil : i ≤ l.length := by omega
                have hsl : (sub l 0 i).length ≤ 1000 := by have := sub_len l 0 i (Nat.zero_le _) hil; omega
                subst hv1 hv3
                have h1I : (l.length : Int) ≤ (cv : Int) := by omega
                have h2I : (cv : Int) ≤ 9223372036854775807 := by unfold maxLen at h2; omega
                have hilI : (i : Int) ≤ (cv : Int) := by omega
                have HD0 : Hid (IntsD w9 (.slice (some ⟨b, o, none⟩) i cv) (sub l 0 i)) := by
                  have := part_d (i := 0) (j := i) hb hc (Nat.zero_le _) hil h1 h2
                  show IntsD _ _ _
                  simpa using this
                have HC := Lib.hid hc
                clear hc hv2
                have hnew : (w9.alloc (.cells #[] 3)).ownsRow w9.heap.size 3 1 (.slice (some ⟨w9.heap.size, 0, none⟩) 0 0) 0 [] := World.ownsRow_lit w9 #[] 0 (Nat.le_refl _) (by decide) rfl
                have hba : Below w9.heap.size w9 (w9.alloc (.cells #[] 3)) := below_al (Below.refl _ _)
                have hD0 := HD0.out.below hba
                go_wp2_with (at_builtin; refine append_ints rfl _ _ 28 rfl w9.heap.size 3 i0 Try.underlying28 hi hz0 hz1 hz2 _ (0) ([]) rfl hnew _ (sub l 0 i) rfl hD0 ?w11a ?w11b ?_)
                case w11a => (try simp only [List.length_cons, List.length_nil]); omega
                case w11b => first | omega | (simp; done) | (simp; omega)
                intro v1 w11 hownw11 hgroww11
                have hb11 : Below w9.heap.size w9 w11 := hba.grown hgroww11 (by simp) (fun j hj => (hnew.lt j hj).1)
                have hown1 := hownw11.alloc (.cells #[.int .i64 (c : Int)] 3)
                have hD1 : IntsD (w11.alloc (.cells #[.int .i64 (c : Int)] 3)) (.slice (some ⟨w11.heap.size, 0, none⟩) 1 1) [c] := .inr ⟨w11.heap.size, 0, 1, rfl, Nat.le_refl _, by decide, by simp, fun j hj => by
                  have hj : j < 1 := hj
                  obtain rfl : j = 0 := by omega
                  rw [World.cell?_alloc_at _ _ _ _ rfl]; rfl⟩
                have hs11 := hb11.size
                clear hnew hba hD0 hgroww11
                go_wp2_with (at_builtin; refine append_ints rfl _ _ 28 rfl w9.heap.size 3 i0 Try.underlying28 hi hz0 hz1 hz2 v1 (_) (_) rfl hown1 _ ([c]) rfl hD1 ?w12a ?w12b ?_)
                case w12a => (try simp only [List.length_cons, List.length_nil]); omega
                case w12b => first | omega | (simp; done) | (simp; omega)
                intro v2 w12 hownw12 hgroww12
                have hb12 : Below w9.heap.size w9 w12 := (below_al (o := .cells #[.int .i64 (c : Int)] 3) hb11).grown hgroww12 (by simp; omega) (fun j hj => (hown1.lt j hj).1)
                have hs12 := hb12.size
                clear hown1 hD1 hgroww12 hb11 hs11 hownw11
                by_cases hlt : i < l.length
                · obtain ⟨he, hagg⟩ := HB1.out (i + 1) g0 (.inl ⟨by omega, by omega⟩) HOK.out
                  simp only [Int.toNat_natCast] at hagg
                  have hfl : ([sub l 0 i, [c], sub l (i + 1) l.length]).flatten.length = (sub l 0 i).length + 1 + (sub l (i + 1) l.length).length := by simp; omega
                  have hs2 := sub_len l (i + 1) l.length hlt (Nat.le_refl _)
                  have HIS : Hid (∀ v W, IntsAt W v ([sub l 0 i, [c], sub l (i + 1) l.length]).flatten → Calls Try.prog 11 #[.agg #[.string dq, .bool wq], v] W fun e w' => e = .returned (.bool true) ∧ Below W.heap.size W w') := fun v W hv => by
                    rw [hagg]
                    exact is_same _ (by omega) (set_chars HCL.out HOK.out i (i + 1)) v W hv
                  have HFL := Lib.hid hfl
                  have HS2 := Lib.hid hs2
                  subst he
                  clear hagg hfl hs2
                  have hltI : (i : Int) < (l.length : Int) := by omega
                  have hi1 : IntKind.i64.wrap ((i : Int) + 1) = (i : Int) + 1 := IntWalk.i64_in _ (by omega)
                  by_cases hci : cv = i + 1
                  · have hlen : l.length = i + 1 := by omega
                    have hl0 : (sub l (i + 1) l.length).length = 0 := by rw [sub_len l (i + 1) l.length hlt (Nat.le_refl _)]; omega
                    have hD2 : IntsD w12 (.slice (some ⟨b, o, none⟩) 0 0) (sub l (i + 1) l.length) :=
                      .inr ⟨b, o, 0, by rw [hl0], by omega, Nat.zero_le _, Nat.lt_of_lt_of_le hb hb12.size, fun q hq => by omega⟩
                    clear hl0
                    have hq1 : (i : Int) + 1 ≤ 2000 := by omega
                    have hq2 : (l.length : Int) ≤ (i : Int) + 1 := by omega
                    clear hlen
                    subst hci
                    clear h1 h2 h1I h2I hilI
                    have hlt1I : (i : Int) + 1 ≤ (l.length : Int) := by omega
                    go_wp2_with (at_builtin; refine append_ints rfl _ _ 28 rfl w9.heap.size 3 i0 Try.underlying28 hi hz0 hz1 hz2 v2 _ _ rfl hownw12 _ (sub l (i + 1) l.length) rfl hD2 ?w15a ?w15b ?_)
                    case w15a => have := HS2.out; omega
                    try (case w15b => omega)
                    intro v3 w13 hownw13 hgroww13
                    have hb13 : Below w9.heap.size w9 w13 := hb12.grown hgroww13 (by omega) (fun j hj => (hownw12.lt j hj).1)
                    have hIn : Ints w13 w9.heap.size v3 ([sub l 0 i, [c], sub l (i + 1) l.length]).flatten := by
                      unfold Ints
                      rw [HFL.out, ← set_list]
                      simpa only [Nat.zero_add, List.nil_append, List.append_assoc] using hownw13
                    have HI13 := Lib.hid hIn.at
                    have qlt := HQ9.out.1
                    have q0' := (hb13.cell (p := ⟨qb, 0, none⟩) qlt).trans q0
                    have q1' := (hb13.cell (p := ⟨qb, 1, none⟩) qlt).trans q1
                    clear hD2 hownw12 hownw13 hgroww13 hb12 hs12 hIn
                    go_wp2_with fail
                    refine (HIS.out _ _ HI13.out).mono ?_
                    rintro e w14 ⟨rfl, hb14⟩
                    have hb15 := hb13.trans (hb14.mono hb13.size)
                    clear hb13 hb14 q0' q1'
                    go_wp2
                    go_meet
                    exact hb15
                  · have hD2 : IntsD w12 (.slice (some ⟨b, o + (i + 1), none⟩) (l.length - (i + 1)) (cv - (i + 1))) (sub l (i + 1) l.length) := (part_d (i := i + 1) (j := l.length) hb HC.out hlt (Nat.le_refl _) h1 h2).below hb12
                    have hlt1I : (i : Int) + 1 ≤ (l.length : Int) := by omega
                    go_wp2_with (at_builtin; refine append_ints rfl _ _ 28 rfl w9.heap.size 3 i0 Try.underlying28 hi hz0 hz1 hz2 v2 _ _ rfl hownw12 _ (sub l (i + 1) l.length) rfl hD2 ?w13a ?w13b ?_)
                    case w13a => have := HS2.out; omega
                    try (case w13b => omega)
                    intro v3 w13 hownw13 hgroww13
                    have hb13 : Below w9.heap.size w9 w13 := hb12.grown hgroww13 (by omega) (fun j hj => (hownw12.lt j hj).1)
                    have hIn : Ints w13 w9.heap.size v3 ([sub l 0 i, [c], sub l (i + 1) l.length]).flatten := by
                      unfold Ints
                      rw [HFL.out, ← set_list]
                      simpa only [Nat.zero_add, List.nil_append, List.append_assoc] using hownw13
                    have HI13 := Lib.hid hIn.at
                    have qlt := HQ9.out.1
                    have q0' := (hb13.cell (p := ⟨qb, 0, none⟩) qlt).trans q0
                    have q1' := (hb13.cell (p := ⟨qb, 1, none⟩) qlt).trans q1
                    clear hD2 hownw12 hownw13 hgroww13 hb12 hs12 hIn
                    go_wp2_with fail
                    refine (HIS.out _ _ HI13.out).mono ?_
                    rintro e w14 ⟨rfl, hb14⟩
                    have hb15 := hb13.trans (hb14.mono hb13.size)
                    clear hb13 hb14 q0' q1'
                    go_wp2
                    go_meet
                    exact hb15
                · obtain ⟨he, hagg⟩ := HB1.out l.length g0 (.inr ⟨by omega, rfl⟩) HOK.out
                  simp only [Int.toNat_natCast] at hagg
                  have hfl : ([sub l 0 i, [c], sub l l.length l.length]).flatten.length = (sub l 0 i).length + 1 := by simp [sub]
                  have HIS : Hid (∀ v W, IntsAt W v ([sub l 0 i, [c], sub l l.length l.length]).flatten → Calls Try.prog 11 #[.agg #[.string dq, .bool wq], v] W fun e w' => e = .returned (.bool true) ∧ Below W.heap.size W w') := fun v W hv => by
                    rw [hagg]
                    exact is_same _ (by omega) (set_chars HCL.out HOK.out i l.length) v W hv
                  have hIn : Ints w12 w9.heap.size v2 ([sub l 0 i, [c], sub l l.length l.length]).flatten := by
                    unfold Ints
                    rw [hfl, ← set_list0]
                    simpa only [Nat.zero_add, List.nil_append, List.append_assoc] using hownw12
                  have HI12 := Lib.hid hIn.at
                  subst he
                  have hltI : ¬ (i : Int) < (l.length : Int) := by omega
                  have qlt := HQ9.out.1
                  have q0' := (hb12.cell (p := ⟨qb, 0, none⟩) qlt).trans q0
                  have q1' := (hb12.cell (p := ⟨qb, 1, none⟩) qlt).trans q1
                  have HB12 := Lib.hid hb12
                  clear hagg hfl hIn hownw12 hb12
                  go_wp2_with fail
                  refine (HIS.out _ _ HI12.out).mono ?_
                  rintro e w14 ⟨rfl, hb14⟩
                  have hb15 := HB12.out.trans (hb14.mono HB12.out.size)
                  clear hb14 q0' q1'
                  go_wp2
                  go_meet
                  exact hb15
          · obtain ⟨he, hd, hw⟩ := HB2.out (HCB4.out hcase)
            subst he hd hw
            clear hcase
            go_wp2_with fail
            refine (HL0.out _).mono ?_
            rintro e w10 ⟨rfl, hb10⟩
            go_wp2
            go_meet
            exact hb10
        case rest =>
          have HB10 := Lib.hid (below_from HB9.out hcut (Nat.le_refl _))
          have HT10 := Lib.hid (HT9.out.below hcut)
          have HI10 := Lib.hid (HI9.out.below hcut)
          clear hcut HB9 HT9 HI9 HQ9 HCB1 HCB2 HCB3 HCB4 HCB5 HB1 HB2 HB3 HSE
          have HNL := Lib.hid (fun (W : World) => strsAt_three W l m l)
          obtain ⟨J, hJ⟩ : ∃ J, J = l ++ (m ++ l) := ⟨_, rfl⟩
          have hfl : ([l, m, l]).flatten = J := by simp [hJ]
          have hJl : J.length ≤ 3000 := by rw [hJ, List.length_append, List.length_append]; omega
          have hcJ : Chars J := fun c hc => by
            rw [hJ, List.mem_append, List.mem_append] at hc
            rcases hc with h | h | h
            · exact HCL.out c h
            · exact HCM.out c h
            · exact HCL.out c h
          have hJo := fun v w h => join_ok [l, m, l] (by simp) (by rw [hfl]; omega) v w h (by simp)
          rw [hfl] at hJo
          have HIJ := Lib.hid (fun (v : Value) (W : World) (hv : IntsAt W v J) => is_same J (by omega) hcJ v W hv)
          have HIX := Lib.hid (fun (v : Value) (W : World) (hv : IntsAt W v l) => is_same l (by omega) HCL.out v W hv)
          have HJJ := Lib.hid hJ
          unfold strV at hJo HIJ
          have hpk := HPK.out
          unfold strV at hpk
          simp only [Value.agg.injEq] at hpk
          simp at hpk
          obtain ⟨hpk1, hpk2⟩ := hpk
          rw [hpk1, hpk2] at HNL
          rw [HPK.out] at HIX
          generalize pk m = dm at *
          generalize wideL m = wm at *
          have HNL2 : Hid (∀ W : World, StrsAt ((W.alloc (.cells #[.string ⟨#[]⟩, .bool false] 24)).alloc (.cells #[.string dl, .bool wl, .string dm, .bool wm, .string dl, .bool wl] 24)) (.slice (some ⟨W.heap.size + 1, 0, none⟩) 3 3) [l, m, l]) := fun W => by
            have h := HNL.out (W.alloc (.cells #[.string ⟨#[]⟩, .bool false] 24))
            have e : (W.alloc (.cells #[.string ⟨#[]⟩, .bool false] 24)).heap.size = W.heap.size + 1 := by simp
            rw [e] at h
            exact h
          generalize pk J = dJ at *
          generalize wideL J = wJ at *
          have HJO := Lib.hid hJo
          clear hJo hJ hfl hpk1 hpk2
          obtain ⟨_, x0, x1⟩ := HT10.out
          have hxlt := HT10.out.1
          have x0d : wc.drew.cell? ⟨xb, 0, none⟩ = some (.string dl) := x0
          have x1d : wc.drew.cell? ⟨xb, 1, none⟩ = some (.bool wl) := x1
          have hBR : Below wc.heap.size wc wc := Below.refl _ _
          have hBRd : Below wc.heap.size wc wc.drew := hBR.drew
          go_upto_region 25 with fail
          go_cut [14, 17] (fun er p wr => er = .int .i64 0 ∧ (∃ jb, p = .pointer (some ⟨jb, 0, none⟩) ∧ Two wr jb (.string dJ) (.bool wJ)) ∧ Below wc.heap.size wc wr)
          case first =>
            go_wp2_with fail
            go_region_held3 (fun w' => w'.cell? ⟨xb, 0, none⟩ = some (.string dl) ∧ w'.cell? ⟨xb, 1, none⟩ = some (.bool wl))
              (first
                | (go_split_ands; exact cells_of_two (by assumption) (by assumption) hb3)
                | (go_split_ands; exact cells_of_two (by assumption) (by assumption) ((Below.refl _ _).alloc (Nat.le_refl _) _))
                | (go_split_ands; exact keepA1 (Nat.lt_of_lt_of_le hxlt hB3.size) (by assumption) (by assumption))
                | (go_split_ands; exact keepT1 (Nat.ne_of_lt (Nat.lt_of_lt_of_le hxlt (Below.size (by assumption)))) (by assumption) (by assumption))
                | (go_split_ands; exact keepT1 (Nat.ne_of_lt (Nat.lt_succ_of_lt (Nat.lt_of_lt_of_le hxlt (Below.size (by assumption))))) (by assumption) (by assumption))
                | (go_split_ands; exact keepT1 (Nat.ne_of_lt hxlt) (by assumption) (by assumption))
                | go_keep)
              (first
                | (go_at_call 13; refine (carry (w := wc) (HOB.out _) ?_).mono ?_; (repeat (first | assumption | refine below_al ?_ | refine Below.drew ?_)); rintro e w3 ⟨rfl, hb3, hB3⟩; (first | (have hq : w3.cell? ⟨wc.heap.size, 0, none⟩ = some (.string ⟨#[]⟩) ∧ w3.cell? ⟨wc.heap.size, 1, none⟩ = some (.bool false) ∧ w3.frozen? ⟨wc.heap.size, 0, none⟩ = false ∧ w3.frozen? ⟨wc.heap.size, 1, none⟩ = false := fresh_two (W := wc.drew) hb3; obtain ⟨y0, y1, y2, y3⟩ := hq) | (have hq := fresh_two hb3; obtain ⟨y0, y1, y2, y3⟩ := hq) | (have hq := keepF y0 y1 y2 y3 hb3; obtain ⟨y0, y1, y2, y3⟩ := hq) | skip))
                | (go_at_call 22; refine (carry (w := wc) (HJO.out _ _ ?_) ?_).mono ?_; (first | exact HNL.out _ | exact HNL2.out _ | exact (HNL.out _).below (below_al (Below.refl _ _))); (repeat (first | assumption | refine below_al ?_ | refine Below.drew ?_)); rintro e w3 ⟨rfl, hb3, hB3⟩; (first | (have hq := fresh_twoA hb3; obtain ⟨y0, y1, y2, y3⟩ := hq) | (have hq := fresh_twoB hb3; obtain ⟨y0, y1, y2, y3⟩ := hq) | (have hq := keepFA y0 y1 y2 y3 hb3; obtain ⟨y0, y1, y2, y3⟩ := hq) | skip)))
            all_goals
              go_wp2_with fail
              go_meet
              first
                | exact ⟨rfl, ⟨_, rfl, two_alloc _ _ _ _⟩, below_al hB3⟩
                | exact ⟨rfl, ⟨_, rfl, two_set y0 y1⟩, (hB3.setCell (p := ⟨_, 0, none⟩) (Below.size (by assumption)) _).setCell (p := ⟨_, 1, none⟩) (Below.size (by assumption)) _⟩
                | exact ⟨rfl, ⟨_, rfl, two_set y0 y1⟩, (hB3.setCell (p := ⟨_, 0, none⟩) (Nat.le_succ_of_le (Below.size (by assumption))) _).setCell (p := ⟨_, 1, none⟩) (Nat.le_succ_of_le (Below.size (by assumption))) _⟩
                | exact ⟨rfl, ⟨_, rfl, two_set y0 y1⟩, (hB3.setCell (p := ⟨_, 0, none⟩) (Nat.le_refl _) _).setCell (p := ⟨_, 1, none⟩) (Nat.le_refl _) _⟩
          case rest =>
            obtain ⟨rfl, ⟨jb, rfl, hTj⟩, hBc⟩ := hcut
            have HB11 := Lib.hid (below_from HB10.out hBc (Nat.le_refl _))
            have HT11 := Lib.hid (HT10.out.below hBc)
            have HI11 := Lib.hid (HI10.out.below hBc)
            have HTJ := Lib.hid hTj
            have HDBH := HDB
            clear x0 x1 hxlt x0d x1d hBR hBRd HB10 HT10 HI10 HJO HNL HNL2 HOB hBc hTj
            obtain ⟨i0, hi, hz0, hz1, hz2⟩ := info_parts infoInt
            have hnew : (wc.alloc (.cells #[] 3)).ownsRow wc.heap.size 3 1 (.slice (some ⟨wc.heap.size, 0, none⟩) 0 0) 0 [] := World.ownsRow_lit wc #[] 0 (Nat.le_refl _) (by decide) rfl
            have hba : Below wc.heap.size wc (wc.alloc (.cells #[] 3)) := below_al (Below.refl _ _)
            have hD0 := HI11.out.below hba
            go_wp2_with (at_builtin; refine append_ints rfl _ _ 28 rfl wc.heap.size 3 i0 Try.underlying28 hi hz0 hz1 hz2 _ (0) ([]) rfl hnew _ l rfl hD0 ?w31a ?w31b ?_)
            case w31a => (try simp only [List.length_cons, List.length_nil]); omega
            case w31b => first | omega | (simp; done) | (simp; omega)
            intro v1 w11 hown11 hgrow11
            have hb11 : Below wc.heap.size wc w11 := hba.grown hgrow11 (by simp) (fun j hj => (hnew.lt j hj).1)
            have hs11 := hb11.size
            clear hnew hba hD0 hgrow11
            go_wp2_with fail
            refine (HDB.out _).mono ?_
            rintro e w12 ⟨v2, rfl, hi2, hb2⟩
            have hown12 := row_below hown11 (Nat.le_refl _) hb2
            have hb12 : Below wc.heap.size wc w12 := hb11.trans (hb2.mono hb11.size)
            have hD2 := hi2.d
            have hs12 := hb12.size
            clear hown11 hb11 hb2 hi2 hs11
            go_wp2_with (at_builtin; refine append_ints rfl _ _ 28 rfl wc.heap.size 3 i0 Try.underlying28 hi hz0 hz1 hz2 v1 (_) (_) rfl hown12 _ m rfl hD2 ?w32a ?w32b ?_)
            case w32a => (try simp only [List.length_cons, List.length_nil]); omega
            try (case w32b => first | omega | (simp; done) | (simp; omega))
            intro v3 w13 hown13 hgrow13
            have hb13 : Below wc.heap.size wc w13 := hb12.grown hgrow13 (by omega) (fun j hj => (hown12.lt j hj).1)
            have hs13 := hb13.size
            have hD3 := HI11.out.below hb13
            clear hown12 hD2 hgrow13 hb12 hs12
            go_wp2_with (at_builtin; refine append_ints rfl _ _ 28 rfl wc.heap.size 3 i0 Try.underlying28 hi hz0 hz1 hz2 v3 (_) (_) rfl hown13 _ l rfl hD3 ?w33a ?w33b ?_)
            case w33a => (try simp only [List.length_cons, List.length_nil]); omega
            try (case w33b => first | omega | (simp; done) | (simp; omega))
            intro v4 w14 hown14 hgrow14
            have hb14 : Below wc.heap.size wc w14 := hb13.grown hgrow14 (by omega) (fun j hj => (hown13.lt j hj).1)
            have hIn : Ints w14 wc.heap.size v4 J := by
              unfold Ints
              have e1 : J.length = 0 + l.length + m.length + l.length := by rw [HJJ.out, List.length_append, List.length_append]; omega
              have e2 : intsV J = [] ++ intsV l ++ intsV m ++ intsV l := by rw [HJJ.out]; simp [intsV]
              rw [e1, e2]
              simpa only [Nat.zero_add, List.nil_append, List.append_assoc] using hown14
            have HI14 := Lib.hid hIn.at
            have HT14 := Lib.hid (HTJ.out.below hb14)
            have HX14 := Lib.hid (HT11.out.below hb14)
            have HL14 := Lib.hid (HI11.out.below hb14)
            have HB14 := Lib.hid (below_from HB11.out hb14 (Nat.le_refl _))
            clear hown13 hD3 hgrow14 hb13 hs13 hown14 hIn hb14 HTJ HT11 HI11 HB11
            obtain ⟨_, j0, j1⟩ := HT14.out
            go_wp2_with fail
            refine (HIJ.out _ _ HI14.out).mono ?_
            rintro e w15 ⟨rfl, hb15⟩
            have HX15 := Lib.hid (HX14.out.below hb15)
            have HL15 := Lib.hid (HL14.out.below hb15).at
            have HB15 := Lib.hid (below_from HB14.out hb15 (Nat.le_refl _))
            clear j0 j1 hb15 HX14 HL14 HB14 HT14
            obtain ⟨_, x0, x1⟩ := HX15.out
            go_wp2_with fail
            refine (HIX.out _ _ HL15.out).mono ?_
            rintro e w16 ⟨rfl, hb16⟩
            have HB16 := Lib.hid (below_from HB15.out hb16 (Nat.le_refl _))
            clear x0 x1 hb16
            go_wp2
            refine bodyPost_ret (v := .bool true) (by simp [results, Try.results5, go_sem]) rfl ⟨rfl, HB16.out⟩

set_option maxRecDepth 100000 in
theorem lifted (os : Os) (started : os.Started) (H : Type) (enc : TypeId × Value → H) :
    ReturnsInHanded {} Try.checked os 5 .any (Rows.textPartsSpec.pre6 enc Try.prog Try.f5 Rows.textPartsRow.domain false) (Rows.textPartsSpec.post enc Try.prog Try.f5 false true false false) := by
  refine returnsInHanded_of_change (C := Try.checked) own started (by kernel_rfl) Try.func5
    (ChangeSpec.witness6 (enc := enc) (C := Try.checked) false ⟨#[], #[.string ByteArray.empty, .string ByteArray.empty, .agg #[.int .i64 0, .int .i64 0, .int .i64 0, .int .i64 0]], []⟩ 8 (by kernel_rfl) (by kernel_rfl) (by kernel_rfl) (by kernel_rfl)) ?_
  intro W base args ds gs before hval0 hW hcnd _
  have hval : ∀ (j : Nat) t v, Try.f5.params[j]? = some t → args[j]? = some v → Value.okWide Try.prog W .any base t v := hval0
  have hW' := hW
  obtain ⟨p, q, hA0, hV, rfl, hfz, hnd⟩ := hW
  have hA : DataW.TrodAll enc Try.prog W 0 (fun _ => true) true Try.f5.params.toList args.toList ds p := hA0
  rw [Try.params5] at hA hval
  obtain ⟨v0, vs0, d0, ds0, p0, q0, hargs, rfl, rfl, h0, r0⟩ := trodAll_cons hA
  obtain ⟨v1, vs1, d1, ds1, p1, q1, rfl, rfl, rfl, h1, r1⟩ := trodAll_cons r0
  obtain ⟨v2, vs2, d2, ds2, p2, q2, rfl, rfl, rfl, h2, r2⟩ := trodAll_cons r1
  obtain ⟨rfl, rfl, rfl⟩ := trodAll_nil r2
  obtain rfl : args = #[v0, v1, v2] := by cases args; simp_all
  obtain ⟨rfl, rfl⟩ := trodVars_none hV
  obtain ⟨a0, rfl, rfl, rfl, w0⟩ := open_string Try.underlying9 (hval 0 9 v0 rfl rfl) h0
  obtain ⟨a1, rfl, rfl, rfl, w1⟩ := open_string Try.underlying9 (hval 1 9 v1 rfl rfl) h1
  have k2 := h2
  have lt2 : ∀ x ∈ p2, x.block < W.heap.size := by obtain ⟨m, hm⟩ := k2; exact DataW.trod_lt m _ _ _ hm
  obtain ⟨n0, n1, n2, n3, rfl, _, _, _, _⟩ := open_int4 Try.underlying41 Try.underlying3 (by kernel_rfl) (by kernel_rfl) (hval 2 41 v2 rfl rfl) h2
  clear hA0 hval0
  refine (walk a0 a1 n0 n1 n2 n3 w0 w1 W).mono fun e W' ⟨he, bel⟩ => ?_
  subst he
  exact ⟨_, rfl, _, _, _, [], _, [], hW', (trodAll_cons_mk (shut_bool Try.underlying4 _) trodAll_mk0), (trodAll_cons_mk (shut_string Try.underlying9 w0) (trodAll_cons_mk (shut_string Try.underlying9 w1) (trodAll_cons_mk (Below.trod laidOut (by kernel_rfl) (of_decide_eq_true (by kernel_rfl)) k2 bel lt2) trodAll_mk0))), rfl, bel.frame _, fun h => by cases h⟩

theorem over : Rows.textPartsRow.holds Try.pinned (OpenSpec.ofChange Rows.textPartsSpec) :=
  OpenClaim.holds_of_wide 5 Try.f5 rfl rfl rfl rfl rfl rfl rfl ⟨rfl, rfl, rfl, rfl, rfl⟩ rfl rfl rfl rfl rfl (by kernel_rfl) Try.func5 (by kernel_rfl)
    (of_decide_eq_true (by kernel_rfl)) (by unfold Func.isWrapper; first | (rw [if_pos (by decide +kernel)]; kernel_rfl) | (rw [if_neg (by decide +kernel)]; exact ⟨rfl, rfl⟩))
    (fun os started H enc _ => lifted os started H enc)

theorem proved : Rows.TextPartsSaid :=
  over
end Go.Proofs.Ytjpnkffdpcfnjaa.textParts
