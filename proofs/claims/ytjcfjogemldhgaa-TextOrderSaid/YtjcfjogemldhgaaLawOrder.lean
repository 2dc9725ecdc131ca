/-
  For all texts a, b and c the law TextOrder returns true and leaves its arguments as they were. No condition.
-/
import Derived.Test.YtjcfjogemldhgaaRows
import Derived.Test.YtjcfjogemldhgaaFind2
import Derived.WalkKit
import Derived.ProofKit
import Derived.OpenShut
import Derived.ShutString
import Derived.ChangeOld
import Derived.Below
import Derived.Deep.RegionHeld3
import Derived.Deep.DeepCutAuto
set_option linter.unusedVariables false
namespace Go.Proofs.Ytjcfjogemldhgaa.textOrder
open Go.ChangeShapes Go.WideShapes Go.ChangeAt Go.RowKit
open Go.ChangeMaps (open_string shut_string)

theorem own : ownKnob Try.prog.godebug = none := by kernel_rfl
theorem laidOut : laidOutB Try.prog = true := by kernel_rfl

theorem keepA {w : World} {o o' : Obj} {b c : Nat} {x y z u : Value} (hb : b < w.heap.size) (hc : c < w.heap.size) (h0 : (w.alloc o).cell? ⟨b, 0, none⟩ = some x) (h1 : (w.alloc o).cell? ⟨b, 1, none⟩ = some y) (h2 : (w.alloc o).cell? ⟨c, 0, none⟩ = some z) (h3 : (w.alloc o).cell? ⟨c, 1, none⟩ = some u) :
    (w.alloc o').cell? ⟨b, 0, none⟩ = some x ∧ (w.alloc o').cell? ⟨b, 1, none⟩ = some y ∧ (w.alloc o').cell? ⟨c, 0, none⟩ = some z ∧ (w.alloc o').cell? ⟨c, 1, none⟩ = some u := by
  rw [World.cell?_alloc_lt _ o ⟨b, 0, none⟩ hb] at h0
  rw [World.cell?_alloc_lt _ o ⟨b, 1, none⟩ hb] at h1
  rw [World.cell?_alloc_lt _ o ⟨c, 0, none⟩ hc] at h2
  rw [World.cell?_alloc_lt _ o ⟨c, 1, none⟩ hc] at h3
  rw [World.cell?_alloc_lt _ o' ⟨b, 0, none⟩ hb, World.cell?_alloc_lt _ o' ⟨b, 1, none⟩ hb, World.cell?_alloc_lt _ o' ⟨c, 0, none⟩ hc, World.cell?_alloc_lt _ o' ⟨c, 1, none⟩ hc]
  exact ⟨h0, h1, h2, h3⟩

theorem keepT {w : World} {b c g : Nat} {x y z u p q : Value} (hb : b ≠ g) (hc : c ≠ g) (h0 : w.cell? ⟨b, 0, none⟩ = some x) (h1 : w.cell? ⟨b, 1, none⟩ = some y) (h2 : w.cell? ⟨c, 0, none⟩ = some z) (h3 : w.cell? ⟨c, 1, none⟩ = some u) :
    ((w.setCell ⟨g, 0, none⟩ p).setCell ⟨g, 1, none⟩ q).cell? ⟨b, 0, none⟩ = some x ∧ ((w.setCell ⟨g, 0, none⟩ p).setCell ⟨g, 1, none⟩ q).cell? ⟨b, 1, none⟩ = some y ∧ ((w.setCell ⟨g, 0, none⟩ p).setCell ⟨g, 1, none⟩ q).cell? ⟨c, 0, none⟩ = some z ∧ ((w.setCell ⟨g, 0, none⟩ p).setCell ⟨g, 1, none⟩ q).cell? ⟨c, 1, none⟩ = some u := by
  have key : ∀ {d i : Nat} {v : Value}, d ≠ g → w.cell? ⟨d, i, none⟩ = some v → ((w.setCell ⟨g, 0, none⟩ p).setCell ⟨g, 1, none⟩ q).cell? ⟨d, i, none⟩ = some v := fun hd h =>
    (World.cell?_setCell_other _ _ _ _ (fun e => hd (congrArg Addr.block e).symm)).trans ((World.cell?_setCell_other _ _ _ _ (fun e => hd (congrArg Addr.block e).symm)).trans h)
  exact ⟨key hb h0, key hb h1, key hc h2, key hc h3⟩

theorem keepF {w w' : World} {g : Nat} {a b : Value} (h0 : w.cell? ⟨g, 0, none⟩ = some a) (h1 : w.cell? ⟨g, 1, none⟩ = some b) (h2 : w.frozen? ⟨g, 0, none⟩ = false) (h3 : w.frozen? ⟨g, 1, none⟩ = false) (hb : Below w.heap.size w w') :
    w'.cell? ⟨g, 0, none⟩ = some a ∧ w'.cell? ⟨g, 1, none⟩ = some b ∧ w'.frozen? ⟨g, 0, none⟩ = false ∧ w'.frozen? ⟨g, 1, none⟩ = false := by
  have hlt := World.block_lt_of_cell? w _ h0
  exact ⟨(hb.cell (p := ⟨g, 0, none⟩) hlt).trans h0, (hb.cell (p := ⟨g, 1, none⟩) hlt).trans h1, (hb.frozen (p := ⟨g, 0, none⟩) hlt).trans h2, (hb.frozen (p := ⟨g, 1, none⟩) hlt).trans h3⟩
theorem fresh_two {W w' : World} {a b : Value} {T : TypeId} (hb : Below (W.alloc (.cells #[a, b] T)).heap.size (W.alloc (.cells #[a, b] T)) w') :
    w'.cell? ⟨W.heap.size, 0, none⟩ = some a ∧ w'.cell? ⟨W.heap.size, 1, none⟩ = some b ∧ w'.frozen? ⟨W.heap.size, 0, none⟩ = false ∧ w'.frozen? ⟨W.heap.size, 1, none⟩ = false :=
  keepF (by rw [World.cell?_alloc_at _ _ _ _ rfl]; rfl) (by rw [World.cell?_alloc_at _ _ _ _ rfl]; rfl) (World.frozen?_alloc_at _ _ _ _ rfl) (World.frozen?_alloc_at _ _ _ _ rfl) hb

theorem two_set {w : World} {g : Nat} {a b x y : Value} (h0 : w.cell? ⟨g, 0, none⟩ = some a) (h1 : w.cell? ⟨g, 1, none⟩ = some b) : Two ((w.setCell ⟨g, 0, none⟩ x).setCell ⟨g, 1, none⟩ y) g x y :=
  ⟨by have := World.block_lt_of_cell? w _ h0; simpa using this, cell_zero _ _ _ _ h0, cell_two _ _ _ _ h1⟩

/-- Three strings in memory. -/
def Mem3 (b0 b1 b2 : Nat) (x0 x1 y0 y1 z0 z1 : Value) (wr : World) : Prop := Two wr b0 x0 x1 ∧ Two wr b1 y0 y1 ∧ Two wr b2 z0 z1
theorem Mem3.below {b0 b1 b2 : Nat} {x0 x1 y0 y1 z0 z1 : Value} {w w' : World} (h : Mem3 b0 b1 b2 x0 x1 y0 y1 z0 z1 w) (hb : Below w.heap.size w w') : Mem3 b0 b1 b2 x0 x1 y0 y1 z0 z1 w' := ⟨h.1.below hb, h.2.1.below hb, h.2.2.below hb⟩
theorem found_join {n m l : List Nat} {r : Int} (h : Kmp.Found (n ++ (m ++ l)) m r) : ∃ i : Nat, r = i ∧ i ≤ n.length ∧ Kmp.At (n ++ (m ++ l)) m i := by
  have hat : Kmp.At (n ++ (m ++ l)) m n.length := ⟨by simp only [List.length_append]; omega, by rw [List.drop_left, List.take_left]⟩
  rcases h with ⟨_, h⟩ | ⟨i, rfl, h1, h2⟩
  · exact absurd hat (h _)
  · refine ⟨i, rfl, ?_, h1⟩
    rcases Nat.lt_or_ge n.length i with h | h
    · exact absurd hat (h2 _ h)
    · exact h
theorem at_sub {s p : List Nat} {i : Nat} (h : Kmp.At s p i) : sub s i (i + p.length) = p := by
  unfold sub
  rw [show i + p.length - i = p.length by omega]
  exact h.2

set_option maxHeartbeats 8000000 in
set_option maxRecDepth 100000 in
theorem walk (a0 : ByteArray) (a1 : ByteArray) (a2 : ByteArray) (w0 : a0.size ≤ maxLen) (w1 : a1.size ≤ maxLen) (w2 : a2.size ≤ maxLen) (w : World) :
    Calls Try.prog 6 #[.string a0, .string a1, .string a2] w fun e w' => e = .returned (.bool true) ∧ Below w.heap.size w w' := by
  have hm0 : (a0.size : Int) ≤ 9223372036854775807 := by unfold maxLen at w0; omega
  have hm1 : (a1.size : Int) ≤ 9223372036854775807 := by unfold maxLen at w1; omega
  have hm2 : (a2.size : Int) ≤ 9223372036854775807 := by unfold maxLen at w2; omega
  have HAW := Lib.hid awake_any
  clear w0 w1 w2
  by_cases hbig : 500 < a0.size
  · have hb : (500 : Int) < (a0.size : Int) := by omega
    clear hbig
    go_enter Try.func6, Try.ntmps6
    go_wp2_with fail
    refine (HAW.out _).mono ?_
    rintro e w2 ⟨rfl, hb1⟩
    go_wp2
    go_ret
    exact ⟨rfl, hb1⟩
  have hle0 : (a0.size : Int) ≤ 500 := by omega
  clear hbig
  by_cases hbig : 500 < a1.size
  · have hb : (500 : Int) < (a1.size : Int) := by omega
    clear hbig
    go_enter Try.func6, Try.ntmps6
    go_wp2_with fail
    refine (HAW.out _).mono ?_
    rintro e w2 ⟨rfl, hb1⟩
    go_wp2
    go_ret
    exact ⟨rfl, hb1⟩
  have hle1 : (a1.size : Int) ≤ 500 := by omega
  clear hbig
  by_cases hbig : 500 < a2.size
  · have hb : (500 : Int) < (a2.size : Int) := by omega
    clear hbig
    go_enter Try.func6, Try.ntmps6
    go_wp2_with fail
    refine (HAW.out _).mono ?_
    rintro e w2 ⟨rfl, hb1⟩
    go_wp2
    go_ret
    exact ⟨rfl, hb1⟩
  have hle2 : (a2.size : Int) ≤ 500 := by omega
  clear hbig
  have hdl := decs_len a0
  have hdm := decs_len a1
  have hdn := decs_len a2
  have hcl := chars_decs a0
  have hcm := chars_decs a1
  have hcn := chars_decs a2
  have hOfA := of_any a0 (by omega)
  have hOfB := of_any a1 (by omega)
  have hOfC := of_any a2 (by omega)
  have hDecA := decode_any a0 (by omega)
  have hDecB := decode_any a1 (by omega)
  unfold DecPost at hDecA hDecB
  generalize decs a0 = l at *
  generalize decs a1 = m at *
  generalize decs a2 = n at *
  have hll : l.length ≤ 500 := by omega
  have hlm : m.length ≤ 500 := by omega
  have hln : n.length ≤ 500 := by omega
  have h24 : ∀ {q : List Nat}, Chars q → ∀ c ∈ q, c < 16777216 := fun h c hc => by have := (h c hc).1; omega
  obtain ⟨J, hJ⟩ : ∃ J, J = n ++ (m ++ l) := ⟨_, rfl⟩
  have hfl : ([n, m, l]).flatten = J := by simp [hJ]
  have hJl : J.length ≤ 1500 := by rw [hJ, List.length_append, List.length_append]; omega
  have hcJ : Chars J := fun c hc => by
    rw [hJ, List.mem_append, List.mem_append] at hc
    rcases hc with h | h | h
    · exact hcn c h
    · exact hcm c h
    · exact hcl c h
  have hXY := compare_any l m hcl hcm (by omega) (by omega)
  have hYX := compare_any m l hcm hcl (by omega) (by omega)
  have hYZ := compare_any m n hcm hcn (by omega) (by omega)
  have hXZ := compare_any l n hcl hcn (by omega) (by omega)
  have hYY := compare_any m m hcm hcm (by omega) (by omega)
  unfold CmpPost at hXY hYX hYZ hXZ hYY
  rw [cmpL_self] at hYY
  have hFi := find_any l m (by omega) (by omega) (h24 hcl) (h24 hcm)
  have hFJ := find_any J m (by omega) (by omega) (h24 hcJ) (h24 hcm)
  unfold FindPost at hFi hFJ
  have hRC := fun v1 v2 w => refCompare_any l m (by omega) (by omega) v1 v2 w
  have hRF := fun v1 v2 w => refFind_any l m (by omega) (by omega) v1 v2 w
  unfold FindPost at hRF
  have hJo := fun v w h => join_ok [n, m, l] (by simp) (by rw [hfl]; omega) v w h (by simp)
  rw [hfl] at hJo
  have h3 := fun W => strsAt_three W n m l
  have hLZ := len_any n (by omega)
  have hLY := len_any m (by omega)
  have hSl := fun (i : Nat) (h : Kmp.At J m i) => slice_ok J (by omega) (h24 hcJ) i (i + m.length) (by omega) h.1
  have hSl2 : ∀ (i : Nat) (h : Kmp.At J m i) (w : World), Calls Try.prog 19 #[strV J, .int .i64 i, .int .i64 ((i : Int) + (m.length : Int))] w fun e w' => e = .returned (.tuple #[strV m, .int .i64 0]) ∧ Below w.heap.size w w' := fun i h w => by
    have := hSl i h w
    rw [at_sub h, show (((i + m.length : Nat)) : Int) = (i : Int) + (m.length : Int) by omega] at this
    exact this
  have HFD : Hid (∀ r, Kmp.Found J m r → ∃ i : Nat, r = i ∧ i ≤ n.length ∧ Kmp.At J m i) := fun r h => by rw [hJ] at h ⊢; exact found_join h
  have HSW := Lib.hid (cmpL_swap l m)
  have HTR := Lib.hid (cmpL_trans l m n)
  clear hSl hJ hfl
  unfold strV at hOfA hOfB hOfC hXY hYX hYZ hXZ hYY hFi hFJ hJo hLZ hLY hSl2
  generalize pk l = dl at *
  generalize wideL l = wl at *
  generalize pk m = dm at *
  generalize wideL m = wm at *
  generalize pk n = dn at *
  generalize wideL n = wn at *
  generalize pk J = dJ at *
  generalize wideL J = wJ at *
  have HOA := Lib.hid hOfA
  have HOB := Lib.hid hOfB
  have HOC := Lib.hid hOfC
  have HDA := Lib.hid hDecA
  have HDB := Lib.hid hDecB
  have HXY := Lib.hid hXY
  have HYX := Lib.hid hYX
  have HYZ := Lib.hid hYZ
  have HXZ := Lib.hid hXZ
  have HYY := Lib.hid hYY
  have HFI := Lib.hid hFi
  have HFJ := Lib.hid hFJ
  have HRC := Lib.hid hRC
  have HRF := Lib.hid hRF
  have HJO := Lib.hid hJo
  have H3 := Lib.hid h3
  have HLZ := Lib.hid hLZ
  have HLY := Lib.hid hLY
  have HSL := Lib.hid hSl2
  clear hOfA hOfB hOfC hDecA hDecB hXY hYX hYZ hXZ hYY hFi hFJ hRC hRF hJo h3 hLZ hLY hSl2 hcl hcm hcn hcJ h24 hdl hdm hdn
  go_enter Try.func6, Try.ntmps6
  go_wp2_with fail
  refine (HAW.out _).mono ?_
  rintro e w1 ⟨rfl, hb1⟩
  go_wp2_with fail
  refine (HOA.out _).mono ?_
  rintro e w2 ⟨rfl, hb2⟩
  go_wp2_with fail
  refine (HOB.out _).mono ?_
  rintro e w3 ⟨rfl, hb3⟩
  go_wp2_with fail
  refine (HOC.out _).mono ?_
  rintro e w4 ⟨rfl, hb4⟩
  have B4 := below_from (below_from (below_from hb1 hb2 (Nat.le_refl _)) hb3 (Nat.le_refl _)) hb4 (Nat.le_refl _)
  clear hb1 hb2 hb3 hb4
  have M4 : Mem3 w4.heap.size (w4.heap.size + 1) (w4.heap.size + 1 + 1) (.string dl) (.bool wl) (.string dm) (.bool wm) (.string dn) (.bool wn) (((w4.alloc (.cells #[.string dl, .bool wl] 24)).alloc (.cells #[.string dm, .bool wm] 24)).alloc (.cells #[.string dn, .bool wn] 24)) := by
    refine ⟨(two_alloc w4 (.string dl) (.bool wl) 24).below (below_al (below_al (Below.refl _ _))), ?_, ?_⟩
    · have := (two_alloc (w4.alloc (.cells #[.string dl, .bool wl] 24)) (.string dm) (.bool wm) 24).below (below_al (o := .cells #[.string dn, .bool wn] 24) (Below.refl _ _))
      simpa using this
    · have := two_alloc ((w4.alloc (.cells #[.string dl, .bool wl] 24)).alloc (.cells #[.string dm, .bool wm] 24)) (.string dn) (.bool wn) 24
      simpa using this
  have B5 := below_al (o := .cells #[.string dn, .bool wn] 24) (below_al (o := .cells #[.string dm, .bool wm] 24) (below_al (o := .cells #[.string dl, .bool wl] 24) B4))
  have HM5 := Lib.hid M4
  have HB5 := Lib.hid B5
  clear M4 B5 B4
  go_wp2_with fail
  generalize ((w4.alloc (.cells #[.string dl, .bool wl] 24)).alloc (.cells #[.string dm, .bool wm] 24)).alloc (.cells #[.string dn, .bool wn] 24) = w5 at HM5 HB5 ⊢
  generalize hbx : w4.heap.size = bx at HM5 ⊢
  clear hbx
  refine (HDA.out _).mono ?_
  rintro e w6 ⟨v1, rfl, hi6, hb6⟩
  have HI6 := Lib.hid hi6.c
  have HM6 := Lib.hid (HM5.out.below hb6)
  have HB6 := Lib.hid (below_from HB5.out hb6 (Nat.le_refl _))
  clear hi6 hb6 HM5 HB5
  go_wp2_with fail
  refine (HDB.out _).mono ?_
  rintro e w7 ⟨v2, rfl, hi7, hb7⟩
  have HK7 := Lib.hid hi7.c
  have HI7 := Lib.hid (HI6.out.below hb7)
  have HM7 := Lib.hid (HM6.out.below hb7)
  have HB7 := Lib.hid (below_from HB6.out hb7 (Nat.le_refl _))
  clear hi7 hb7 HM6 HB6 HI6
  obtain ⟨⟨_, x0, x1⟩, ⟨_, y0, y1⟩, ⟨_, z0, z1⟩⟩ := HM7.out
  go_wp2_with fail
  refine (HXY.out _).mono ?_
  rintro e w8 ⟨rfl, hb8⟩
  have HI8 := Lib.hid (HI7.out.below hb8)
  have HK8 := Lib.hid (HK7.out.below hb8)
  have HM8 := Lib.hid (HM7.out.below hb8)
  have HB8 := Lib.hid (below_from HB7.out hb8 (Nat.le_refl _))
  clear hb8 HM7 HB7 HI7 HK7 x0 x1 y0 y1 z0 z1
  obtain ⟨⟨_, x0, x1⟩, ⟨_, y0, y1⟩, ⟨_, z0, z1⟩⟩ := HM8.out
  go_wp2_with fail
  refine (HRC.out _ _ _ HI8.out.at HK8.out.at).mono ?_
  rintro e w9 ⟨rfl, hb9⟩
  have HI9 := Lib.hid (HI8.out.below hb9)
  have HK9 := Lib.hid (HK8.out.below hb9)
  have HM9 := Lib.hid (HM8.out.below hb9)
  have HB9 := Lib.hid (below_from HB8.out hb9 (Nat.le_refl _))
  clear hb9 HM8 HB8 HI8 HK8 x0 x1 y0 y1 z0 z1
  obtain ⟨⟨_, x0, x1⟩, ⟨_, y0, y1⟩, ⟨_, z0, z1⟩⟩ := HM9.out
  go_wp2_with fail
  refine (HFI.out _).mono ?_
  rintro e w10 ⟨r1, rfl, hf1, hb10⟩
  have HI10 := Lib.hid (HI9.out.below hb10)
  have HK10 := Lib.hid (HK9.out.below hb10)
  have HM10 := Lib.hid (HM9.out.below hb10)
  have HB10 := Lib.hid (below_from HB9.out hb10 (Nat.le_refl _))
  clear hb10 HM9 HB9 HI9 HK9 x0 x1 y0 y1 z0 z1
  obtain ⟨⟨_, x0, x1⟩, ⟨_, y0, y1⟩, ⟨_, z0, z1⟩⟩ := HM10.out
  go_wp2_with fail
  refine (HRF.out _ _ _ HI10.out HK10.out).mono ?_
  rintro e w11 ⟨r2, rfl, hf2, hb11⟩
  have HI11 := Lib.hid (HI10.out.below hb11)
  have HK11 := Lib.hid (HK10.out.below hb11)
  have HM11 := Lib.hid (HM10.out.below hb11)
  have HB11 := Lib.hid (below_from HB10.out hb11 (Nat.le_refl _))
  clear hb11 HM10 HB10 HI10 HK10 x0 x1 y0 y1 z0 z1
  obtain ⟨⟨_, x0, x1⟩, ⟨_, y0, y1⟩, ⟨_, z0, z1⟩⟩ := HM11.out
  obtain rfl := hf1.unique hf2
  clear hf1 hf2 HI11 HK11
  have NB : Hid (True) := trivial
  go_wp2_with fail
  refine (HJO.out _ _ (H3.out _)).mono ?_
  rintro e w12 ⟨rfl, hb12⟩
  have HM12 := Lib.hid ((HM11.out.below (below_al (Below.refl _ _))).below hb12)
  have HB12 := Lib.hid (below_alloc HB11.out hb12)
  clear hb12 HM11 HB11 x0 x1 y0 y1 z0 z1
  obtain ⟨⟨_, x0, x1⟩, ⟨_, y0, y1⟩, ⟨_, z0, z1⟩⟩ := HM12.out
  go_wp2_with fail
  have HM13 := Lib.hid (HM12.out.below (below_al (o := .cells #[.string dJ, .bool wJ] 24) (Below.refl _ _)))
  have HB13 := Lib.hid (below_al (o := .cells #[.string dJ, .bool wJ] 24) HB12.out)
  have HT13 := Lib.hid (two_alloc w12 (.string dJ) (.bool wJ) 24)
  have hne13 : bx + 1 ≠ w12.heap.size := by have := HM12.out.2.1.1; omega
  generalize w12.alloc (.cells #[.string dJ, .bool wJ] 24) = w13 at HM13 HB13 HT13 ⊢
  generalize w12.heap.size = jb at HT13 hne13 ⊢
  clear x0 x1 y0 y1 z0 z1 HM12 HB12
  refine (HFJ.out _).mono ?_
  rintro e w14 ⟨r2, rfl, hf, hb14⟩
  obtain ⟨i, rfl, hin, hat⟩ := HFD.out _ hf
  have HM14 := Lib.hid (HM13.out.below hb14)
  have HB14 := Lib.hid (below_from HB13.out hb14 (Nat.le_refl _))
  have HT14 := Lib.hid (HT13.out.below hb14)
  clear hb14 hf HM13 HB13 HT13
  obtain ⟨⟨_, x0, x1⟩, ⟨_, y0, y1⟩, ⟨_, z0, z1⟩⟩ := HM14.out
  obtain ⟨_, j0, j1⟩ := HT14.out
  have hi0 : (0 : Int) ≤ (i : Int) := by omega
  have hin' : ¬ (n.length : Int) < (i : Int) := by omega
  have hiJ : (i : Int) + (m.length : Int) ≤ 2000 := by omega
  have HSI := Lib.hid (HSL.out i hat)
  clear hin hat
  go_wp2_with fail
  refine (HLZ.out _).mono ?_
  rintro e w15 ⟨rfl, hb15⟩
  have HM15 := Lib.hid (HM14.out.below hb15)
  have HB15 := Lib.hid (below_from HB14.out hb15 (Nat.le_refl _))
  have HT15 := Lib.hid (HT14.out.below hb15)
  clear hb15 HM14 HB14 HT14 x0 x1 y0 y1 z0 z1 j0 j1
  obtain ⟨⟨_, x0, x1⟩, ⟨_, y0, y1⟩, ⟨_, z0, z1⟩⟩ := HM15.out
  obtain ⟨_, j0, j1⟩ := HT15.out
  have y0d : w15.drew.cell? ⟨bx + 1, 0, none⟩ = some (.string dm) := y0
  have y1d : w15.drew.cell? ⟨bx + 1, 1, none⟩ = some (.bool wm) := y1
  have j0d : w15.drew.cell? ⟨jb, 0, none⟩ = some (.string dJ) := j0
  have j1d : w15.drew.cell? ⟨jb, 1, none⟩ = some (.bool wJ) := j1
  have hBR : Below w15.heap.size w15 w15 := Below.refl _ _
  have hBRd : Below w15.heap.size w15 w15.drew := hBR.drew
  have hwi : IntKind.i64.wrap ((i : Int) + (m.length : Int)) = (i : Int) + (m.length : Int) := IntWalk.i64_in _ (by omega)
  have hjlt := HT15.out.1
  have hylt := HM15.out.2.1.1
  clear x0 x1 z0 z1
  go_upto_region 13 with fail
  go_cut [13, 15] (fun er p wr => er = .int .i64 0 ∧ (∃ pb, p = .pointer (some ⟨pb, 0, none⟩) ∧ Two wr pb (.string dm) (.bool wm)) ∧ Below w15.heap.size w15 wr)
  case first =>
   go_wp2_with fail
   go_region_held3 (fun w' => w'.cell? ⟨jb, 0, none⟩ = some (.string dJ) ∧ w'.cell? ⟨jb, 1, none⟩ = some (.bool wJ) ∧ w'.cell? ⟨bx + 1, 0, none⟩ = some (.string dm) ∧ w'.cell? ⟨bx + 1, 1, none⟩ = some (.bool wm))
     (first
       | (go_split_ands; exact keep4 (by assumption) (by assumption) (by assumption) (by assumption) hb3)
       | (go_split_ands; exact keep4 (by assumption) (by assumption) (by assumption) (by assumption) ((Below.refl _ _).alloc (Nat.le_refl _) _))
       | (go_split_ands; exact keepA (Nat.lt_of_lt_of_le hjlt hB3.size) (Nat.lt_of_lt_of_le hylt hB3.size) (by assumption) (by assumption) (by assumption) (by assumption))
       | (go_split_ands; exact keepT (Nat.ne_of_lt (Nat.lt_of_lt_of_le hjlt (Below.size (by assumption)))) (Nat.ne_of_lt (Nat.lt_of_lt_of_le hylt (Below.size (by assumption)))) (by assumption) (by assumption) (by assumption) (by assumption))
       | go_keep)
     (first
       | (go_at_call 16; refine (carry (w := w15) (HLY.out _) ?_).mono ?_; (first | assumption | exact Below.drew (by assumption) | exact below_al (by assumption) | exact below_al (Below.drew (by assumption))); rintro e w3 ⟨rfl, hb3, hB3⟩; (first | (have hq : w3.cell? ⟨w15.heap.size, 0, none⟩ = some (.string ⟨#[]⟩) ∧ w3.cell? ⟨w15.heap.size, 1, none⟩ = some (.bool false) ∧ w3.frozen? ⟨w15.heap.size, 0, none⟩ = false ∧ w3.frozen? ⟨w15.heap.size, 1, none⟩ = false := fresh_two (W := w15.drew) hb3; obtain ⟨q0, q1, q2, q3⟩ := hq) | (have hq := fresh_two hb3; obtain ⟨q0, q1, q2, q3⟩ := hq) | (have hq := keepF q0 q1 q2 q3 hb3; obtain ⟨q0, q1, q2, q3⟩ := hq) | skip))
       | (go_at_call 19; refine (carry (w := w15) (HSI.out _) ?_).mono ?_; (first | assumption | exact Below.drew (by assumption) | exact below_al (by assumption) | exact below_al (Below.drew (by assumption))); rintro e w3 ⟨rfl, hb3, hB3⟩; (first | (have hq : w3.cell? ⟨w15.heap.size, 0, none⟩ = some (.string ⟨#[]⟩) ∧ w3.cell? ⟨w15.heap.size, 1, none⟩ = some (.bool false) ∧ w3.frozen? ⟨w15.heap.size, 0, none⟩ = false ∧ w3.frozen? ⟨w15.heap.size, 1, none⟩ = false := fresh_two (W := w15.drew) hb3; obtain ⟨q0, q1, q2, q3⟩ := hq) | (have hq := fresh_two hb3; obtain ⟨q0, q1, q2, q3⟩ := hq) | (have hq := keepF q0 q1 q2 q3 hb3; obtain ⟨q0, q1, q2, q3⟩ := hq) | skip)))
   all_goals
    go_wp2_with fail
    go_meet
    first
      | exact ⟨rfl, ⟨_, rfl, two_alloc _ _ _ _⟩, below_al hB3⟩
      | exact ⟨rfl, ⟨_, rfl, two_set q0 q1⟩, (hB3.setCell (p := ⟨_, 0, none⟩) (Below.size (by assumption)) _).setCell (p := ⟨_, 1, none⟩) (Below.size (by assumption)) _⟩
      | exact ⟨rfl, ⟨_, rfl, two_set q0 q1⟩, (hB3.setCell (p := ⟨_, 0, none⟩) (Nat.le_refl _) _).setCell (p := ⟨_, 1, none⟩) (Nat.le_refl _) _⟩
  case rest =>
    obtain ⟨rfl, ⟨pb, rfl, hTp⟩, hBc⟩ := hcut
    have HM16 := Lib.hid (HM15.out.below hBc)
    have HB16 := Lib.hid (below_from HB15.out hBc (Nat.le_refl _))
    clear y0 y1 j0 j1 y0d y1d j0d j1d hBR hBRd hwi HM15 HB15 HT15
    obtain ⟨⟨_, x0, x1⟩, ⟨_, y0, y1⟩, ⟨_, z0, z1⟩⟩ := HM16.out
    obtain ⟨_, p0, p1⟩ := hTp
    go_wp2_with fail
    refine (HYY.out _).mono ?_
    rintro e w17 ⟨rfl, hb17⟩
    have HM17 := Lib.hid (HM16.out.below hb17)
    have HB17 := Lib.hid (below_from HB16.out hb17 (Nat.le_refl _))
    clear x0 x1 y0 y1 z0 z1 p0 p1 hb17 HM16 HB16
    obtain ⟨⟨_, x0, x1⟩, ⟨_, y0, y1⟩, ⟨_, z0, z1⟩⟩ := HM17.out
    have HRG := Lib.hid (cmpL_range l m)
    generalize cmpL l m = c1 at *
    generalize cmpL m l = c2 at *
    generalize cmpL m n = c3 at *
    generalize cmpL l n = c4 at *
    obtain rfl : c2 = -c1 := HSW.out
    clear HSW
    have x0d : w17.drew.cell? ⟨bx, 0, none⟩ = some (.string dl) := x0
    have x1d : w17.drew.cell? ⟨bx, 1, none⟩ = some (.bool wl) := x1
    have y0d : w17.drew.cell? ⟨bx + 1, 0, none⟩ = some (.string dm) := y0
    have y1d : w17.drew.cell? ⟨bx + 1, 1, none⟩ = some (.bool wm) := y1
    have hBR : Below w17.heap.size w17 w17 := Below.refl _ _
    have hBRd : Below w17.heap.size w17 w17.drew := hBR.drew
    clear z0 z1 hjlt hylt hBc hin' hi0 hiJ
    rcases HRG.out with rfl | rfl | rfl
    all_goals
      first
        | rw [show (-(-1) : Int) = 1 from rfl] at HYX
        | rw [show (-0 : Int) = 0 from rfl] at HYX
        | skip
      clear HRG
      go_wp2_with fail
      go_region_held3 (fun w' => w'.cell? ⟨bx, 0, none⟩ = some (.string dl) ∧ w'.cell? ⟨bx, 1, none⟩ = some (.bool wl) ∧ w'.cell? ⟨bx + 1, 0, none⟩ = some (.string dm) ∧ w'.cell? ⟨bx + 1, 1, none⟩ = some (.bool wm))
        (first
          | (go_split_ands; exact keep4 (by assumption) (by assumption) (by assumption) (by assumption) hb3)
          | go_keep)
        (first
          | (go_at_call 15; (with_reducible refine (carry (w := w17) (HXY.out _) ?_).mono ?_); (first | assumption | exact Below.drew (by assumption)); rintro e w3 ⟨rfl, hb3, hB3⟩)
          | (go_at_call 15; (with_reducible refine (carry (w := w17) (HYX.out _) ?_).mono ?_); (first | assumption | exact Below.drew (by assumption)); rintro e w3 ⟨rfl, hb3, hB3⟩))
      have HM18 := Lib.hid (HM17.out.below hB3)
      have HB18 := Lib.hid (below_from HB17.out hB3 (Nat.le_refl _))
      clear hb3 hB3 x0 x1 y0 y1 x0d x1d y0d y1d
      obtain ⟨⟨_, x0, x1⟩, ⟨_, y0, y1⟩, ⟨_, z0, z1⟩⟩ := HM18.out
      go_wp2_with fail
      refine (HXY.out _).mono ?_
      rintro e w19 ⟨rfl, hb19⟩
      have HM19 := Lib.hid (HM18.out.below hb19)
      have HB19 := Lib.hid (below_from HB18.out hb19 (Nat.le_refl _))
      clear hb19 HM18 HB18 x0 x1 y0 y1 z0 z1
      obtain ⟨⟨_, x0, x1⟩, ⟨_, y0, y1⟩, ⟨_, z0, z1⟩⟩ := HM19.out
      first
        | (go_wp2
           go_ret
           exact ⟨rfl, HB19.out⟩)
        | (go_wp2_with fail
           refine (HYZ.out _).mono ?_
           rintro e w20 ⟨rfl, hb20⟩
           have HM20 := Lib.hid (HM19.out.below hb20)
           have HB20 := Lib.hid (below_from HB19.out hb20 (Nat.le_refl _))
           clear hb20 HM19 HB19 x0 x1 y0 y1 z0 z1
           obtain ⟨⟨_, x0, x1⟩, ⟨_, y0, y1⟩, ⟨_, z0, z1⟩⟩ := HM20.out
           by_cases h3 : 0 < c3
           · go_wp2
             go_ret
             exact ⟨rfl, HB20.out⟩
           · have h4 : c4 ≤ 0 := HTR.out (by omega) (by omega)
             go_wp2_with fail
             refine (HXZ.out _).mono ?_
             rintro e w21 ⟨rfl, hb21⟩
             have HB21 := Lib.hid (below_from HB20.out hb21 (Nat.le_refl _))
             clear hb21 x0 x1 y0 y1 z0 z1
             go_wp2
             go_ret
             exact ⟨rfl, HB21.out⟩)

set_option maxRecDepth 100000 in
theorem lifted (os : Os) (started : os.Started) (H : Type) (enc : TypeId × Value → H) :
    ReturnsInHanded {} Try.checked os 6 .any (Rows.textOrderSpec.pre6 enc Try.prog Try.f6 Rows.textOrderRow.domain false) (Rows.textOrderSpec.post enc Try.prog Try.f6 false true false false) := by
  refine returnsInHanded_of_change (C := Try.checked) own started (by kernel_rfl) Try.func6
    (ChangeSpec.witness6 (enc := enc) (C := Try.checked) false ⟨#[], #[.string ByteArray.empty, .string ByteArray.empty, .string ByteArray.empty], []⟩ 8 (by kernel_rfl) (by kernel_rfl) (by kernel_rfl) (by kernel_rfl)) ?_
  intro W base args ds gs before hval0 hW hcnd _
  have hval : ∀ (j : Nat) t v, Try.f6.params[j]? = some t → args[j]? = some v → Value.okWide Try.prog W .any base t v := hval0
  have hW' := hW
  obtain ⟨p, q, hA0, hV, rfl, hfz, hnd⟩ := hW
  have hA : DataW.TrodAll enc Try.prog W 0 (fun _ => true) true Try.f6.params.toList args.toList ds p := hA0
  rw [Try.params6] at hA hval
  obtain ⟨v0, vs0, d0, ds0, p0, q0, hargs, rfl, rfl, h0, r0⟩ := trodAll_cons hA
  obtain ⟨v1, vs1, d1, ds1, p1, q1, rfl, rfl, rfl, h1, r1⟩ := trodAll_cons r0
  obtain ⟨v2, vs2, d2, ds2, p2, q2, rfl, rfl, rfl, h2, r2⟩ := trodAll_cons r1
  obtain ⟨rfl, rfl, rfl⟩ := trodAll_nil r2
  obtain rfl : args = #[v0, v1, v2] := by cases args; simp_all
  obtain ⟨rfl, rfl⟩ := trodVars_none hV
  obtain ⟨a0, rfl, rfl, rfl, w0⟩ := open_string Try.underlying9 (hval 0 9 v0 rfl rfl) h0
  obtain ⟨a1, rfl, rfl, rfl, w1⟩ := open_string Try.underlying9 (hval 1 9 v1 rfl rfl) h1
  obtain ⟨a2, rfl, rfl, rfl, w2⟩ := open_string Try.underlying9 (hval 2 9 v2 rfl rfl) h2
  clear hA0 hval0
  refine (walk a0 a1 a2 w0 w1 w2 W).mono fun e W' ⟨he, bel⟩ => ?_
  subst he
  exact ⟨_, rfl, _, _, _, [], _, [], hW', (trodAll_cons_mk (shut_bool Try.underlying4 _) trodAll_mk0), (trodAll_cons_mk (shut_string Try.underlying9 w0) (trodAll_cons_mk (shut_string Try.underlying9 w1) (trodAll_cons_mk (shut_string Try.underlying9 w2) trodAll_mk0))), rfl, bel.frame _, fun h => by cases h⟩

theorem over : Rows.textOrderRow.holds Try.pinned (OpenSpec.ofChange Rows.textOrderSpec) :=
  OpenClaim.holds_of_wide 6 Try.f6 rfl rfl rfl rfl rfl rfl rfl ⟨rfl, rfl, rfl, rfl, rfl⟩ rfl rfl rfl rfl rfl (by kernel_rfl) Try.func6 (by kernel_rfl)
    (of_decide_eq_true (by kernel_rfl)) (by unfold Func.isWrapper; first | (rw [if_pos (by decide +kernel)]; kernel_rfl) | (rw [if_neg (by decide +kernel)]; exact ⟨rfl, rfl⟩))
    (fun os started H enc _ => lifted os started H enc)

theorem proved : Rows.TextOrderSaid :=
  over
end Go.Proofs.Ytjcfjogemldhgaa.textOrder

