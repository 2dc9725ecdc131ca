/-
  For every character c and every number less the law TextLimits returns true and leaves its arguments as they were. Condition: the two tables of package utf8 are as the program's text lays them (the card ties them).
-/
import Derived.Test.YtjpnkffdpcfnjaaDoorRows
import Derived.Test.YtjpnkffdpcfnjaaDoorCards
import Derived.Test.YtjpnkffdpcfnjaaDoorTie
import Derived.Test.YtjpnkffdpcfnjaaDoorLaidT
import Derived.Test.YtjpnkffdpcfnjaaDoorLimW
import Derived.Test.YtjpnkffdpcfnjaaDoorAwake
import Derived.Test.YtjpnkffdpcfnjaaDoorCmp2
import Derived.WalkKit
import Derived.ProofKit
import Derived.OpenShut
import Derived.ShutString
import Derived.ChangeOld
import Derived.Below
import Derived.SevenTiedAt
import Derived.Deep.DeepCutAuto
import Derived.Deep.RegionHeld3
import Derived.Carry
set_option linter.unusedVariables false
namespace Go.Proofs.YtjpnkffdpcfnjaaDoor.textLimits
open Go.ChangeShapes Go.WideShapes Go.ChangeAt Go.RowKit

theorem own : ownKnob Tryd.prog.godebug = none := by kernel_rfl
theorem laidOut : laidOutB Tryd.prog = true := by kernel_rfl
theorem keepF {w w' : World} {g : Nat} {a b : Value} (h0 : w.cell? ⟨g, 0, none⟩ = some a) (h1 : w.cell? ⟨g, 1, none⟩ = some b) (h2 : w.frozen? ⟨g, 0, none⟩ = false) (h3 : w.frozen? ⟨g, 1, none⟩ = false) (hb : Below w.heap.size w w') :
    w'.cell? ⟨g, 0, none⟩ = some a ∧ w'.cell? ⟨g, 1, none⟩ = some b ∧ w'.frozen? ⟨g, 0, none⟩ = false ∧ w'.frozen? ⟨g, 1, none⟩ = false := by
  have hlt := World.block_lt_of_cell? w _ h0
  exact ⟨(hb.cell (p := ⟨g, 0, none⟩) hlt).trans h0, (hb.cell (p := ⟨g, 1, none⟩) hlt).trans h1, (hb.frozen (p := ⟨g, 0, none⟩) hlt).trans h2, (hb.frozen (p := ⟨g, 1, none⟩) hlt).trans h3⟩
theorem fresh_two {W w' : World} {a b : Value} {T : TypeId} (hb : Below (W.alloc (.cells #[a, b] T)).heap.size (W.alloc (.cells #[a, b] T)) w') :
    w'.cell? ⟨W.heap.size, 0, none⟩ = some a ∧ w'.cell? ⟨W.heap.size, 1, none⟩ = some b ∧ w'.frozen? ⟨W.heap.size, 0, none⟩ = false ∧ w'.frozen? ⟨W.heap.size, 1, none⟩ = false :=
  keepF (by rw [World.cell?_alloc_at _ _ _ _ rfl]; rfl) (by rw [World.cell?_alloc_at _ _ _ _ rfl]; rfl) (World.frozen?_alloc_at _ _ _ _ rfl) (World.frozen?_alloc_at _ _ _ _ rfl) hb
theorem size_le (w : World) (o : Obj) : w.heap.size ≤ (w.alloc o).heap.size := by simp
theorem u8_of {n : Int} (h : (Lit.int .u8 n).wf = true) : 0 ≤ n ∧ n ≤ 255 := by
  simp [Lit.wf, IntKind.min, IntKind.max, IntKind.signed, IntKind.bits] at h; omega

set_option maxHeartbeats 16000000 in
set_option maxRecDepth 100000 in
theorem walk (a0 : Int) (w0 : (Lit.int .i64 a0).wf = true) (a1 : Int) (w1 : (Lit.int .u8 a1).wf = true) (w : World) (ht : TabU w) :
    Calls Tryd.prog 5 #[.int .i64 a0, .int .u8 a1] w fun e w' => e = .returned (.bool true) ∧ Below w.heap.size w w' := by
  have hu := u8_of w1
  have HAW := Lib.hid awake_any
  clear w0 w1
  cases hok : okc a0
  · have HNO := Lib.hid (is_no a0 hok)
    clear hok hu
    go_enter Tryd.func5, Tryd.ntmps5
    go_wp2_with fail
    refine (HAW.out _).mono ?_
    rintro e w1 ⟨rfl, hb1⟩
    go_wp2_with fail
    refine (HNO.out _).mono ?_
    rintro e w2 ⟨rfl, rfl⟩
    go_wp2
    go_ret
    exact ⟨rfl, hb1⟩
  have HYES := Lib.hid (is_yes a0 hok)
  have hoka := hok
  obtain ⟨c, rfl, hc⟩ := okc_nat hok
  by_cases s10 : c = 10
  · have q10 : ((c : Int) == 10) = true := by rw [s10]; rfl
    generalize (c : Int) = z at *
    clear hok hoka hu hc s10
    go_enter Tryd.func5, Tryd.ntmps5
    go_wp2_with fail
    refine (HAW.out _).mono ?_
    rintro e w1 ⟨rfl, hb1⟩
    go_wp2_with fail
    refine (HYES.out _).mono ?_
    rintro e w2 ⟨rfl, rfl⟩
    go_wp2
    go_ret
    exact ⟨rfl, hb1⟩
  have q10 : ((c : Int) == 10) = false := by simp; omega
  by_cases s34 : c = 34
  · have q34 : ((c : Int) == 34) = true := by rw [s34]; rfl
    have q10 : ((c : Int) == 10) = false := by rw [s34]; rfl
    generalize (c : Int) = z at *
    clear hok hoka hu hc s34
    go_enter Tryd.func5, Tryd.ntmps5
    go_wp2_with fail
    refine (HAW.out _).mono ?_
    rintro e w1 ⟨rfl, hb1⟩
    go_wp2_with fail
    refine (HYES.out _).mono ?_
    rintro e w2 ⟨rfl, rfl⟩
    go_wp2
    go_ret
    exact ⟨rfl, hb1⟩
  have q34 : ((c : Int) == 34) = false := by simp; omega
  by_cases s92 : c = 92
  · have q92 : ((c : Int) == 92) = true := by rw [s92]; rfl
    have q10 : ((c : Int) == 10) = false := by rw [s92]; rfl
    have q34 : ((c : Int) == 34) = false := by rw [s92]; rfl
    generalize (c : Int) = z at *
    clear hok hoka hu hc s92
    go_enter Tryd.func5, Tryd.ntmps5
    go_wp2_with fail
    refine (HAW.out _).mono ?_
    rintro e w1 ⟨rfl, hb1⟩
    go_wp2_with fail
    refine (HYES.out _).mono ?_
    rintro e w2 ⟨rfl, rfl⟩
    go_wp2
    go_ret
    exact ⟨rfl, hb1⟩
  have q92 : ((c : Int) == 92) = false := by simp; omega
  obtain ⟨r, hr⟩ : ∃ r : Int, a1.tmod 3 = r := ⟨_, rfl⟩
  have hr3 : r = 0 ∨ r = 1 ∨ r = 2 := by rw [Int.tmod_eq_emod_of_nonneg hu.1] at hr; omega
  obtain ⟨p, hp⟩ : ∃ p : Nat, (p : Int) = 65536 - r := ⟨(65536 - r).toNat, by omega⟩
  have hwr0 : IntKind.i64.wrap r = r := IntWalk.i64_in _ (by omega)
  have hwr : wrap64 r = r := by
    first
      | exact hwr0
      | (rw [← IntKind.wrap_i64]; exact hwr0)
      | (unfold wrap64; omega)
      | (simp [wrap64]; omega)
  have hsub : IntKind.i64.wrap (65536 - r) = (p : Int) := by rw [IntWalk.i64_in _ (by omega)]; omega
  have hmk := make_zeros p (by omega)
  have hby := bytes_zeros p
  have hcvb := fun (W : World) (h : BytesAt W (.slice none 0 0) []) => h
  obtain ⟨l, hl⟩ : ∃ l, l = List.replicate p 0 := ⟨_, rfl⟩
  have hll : l.length = p := by rw [hl, List.length_replicate]
  have hch : Chars l := by rw [hl]; exact zeros_chars p
  have hzs : (⟨(l.map UInt8.ofNat).toArray⟩ : ByteArray) = zeroS p := by rw [hl]; rfl
  rw [← hl] at hby
  have hLat := fun v W (h : BytesAt W v l) => latin_ok l (by omega) v W h
  have hLen := len_any l (by omega)
  rw [hll] at hLen
  have hEnc := encode_any c hc.1
  have hel := enc_len c
  have hOf1 := of_one c hc
  have hLen1 := len_any [c] (by simp)
  have hUq := unq_full c hc s34 s10 s92
  obtain ⟨eb, heb⟩ : ∃ eb : ByteArray, eb = ⟨(enc c).toArray⟩ := ⟨_, rfl⟩
  have hes : eb.size ≤ 4 := by rw [heb]; show (List.toArray _).size ≤ _; rw [List.size_toArray]; exact hel
  rw [← heb] at hEnc hOf1
  have hUq' : ∀ m, m = 65536 → ∀ W, TabU W → Calls Tryd.prog 9 #[.string (((⟨#[34]⟩ : ByteArray) ++ zeroS m) ++ eb ++ ⟨#[34]⟩)] W fun e w' => e = .returned (.tuple #[.agg #[.string ⟨#[]⟩, .bool false], .int .i64 ((m + 1 : Nat) : Int), .int .i64 3]) ∧ Below W.heap.size W w' := fun m hm W h => by rw [heb]; exact hUq m hm W h
  clear hUq heb
  obtain ⟨dy, wy, ey, ny, hSet, hJoin, hLy, hcase⟩ : ∃ (dy : ByteArray) (wy : Bool) (ey ny : Int),
      (∀ W, Calls Tryd.prog 20 #[strV l, .int .i64 (p : Int), .int .i64 (c : Int)] W fun e w' => e = .returned (.tuple #[.agg #[.string dy, .bool wy], .int .i64 ey]) ∧ Below W.heap.size W w') ∧
      (∀ v W, StrsAt W v [l, [c]] → Calls Tryd.prog 21 #[v] W fun e w' => e = .returned (.tuple #[.agg #[.string dy, .bool wy], .int .i64 ey]) ∧ Below W.heap.size W w') ∧
      (∀ W, Calls Tryd.prog 17 #[.agg #[.string dy, .bool wy]] W fun e w' => e = .returned (.int .i64 ny) ∧ Below W.heap.size W w') ∧
      ((r = 0 ∧ ey = 3 ∧ ny = 0 ∧ p = 65536) ∨ (r ≠ 0 ∧ ey = 0 ∧ ny = (p : Int) + 1 ∧ ∀ W, Calls Tryd.prog 12 #[.agg #[.string dy, .bool wy], .agg #[.string dy, .bool wy]] W fun e w' => e = .returned (.int .i64 0) ∧ Below W.heap.size W w')) := by
    by_cases h0 : r = 0
    · have hpp : l.length = 65536 := by omega
      have hS := set_full l hpp hch c hoka
      rw [hll] at hS
      exact ⟨⟨#[]⟩, false, 3, 0, hS, fun v W h => join_full l hpp c v W h, fun W => len_narrow ⟨#[]⟩ (by decide) W, .inl ⟨h0, rfl, rfl, by omega⟩⟩
    · have hpp : l.length < 65536 := by omega
      have hS := set_end l hpp hch c hoka
      rw [hll] at hS
      have hL := len_any (l ++ [c]) (by rw [List.length_append, List.length_singleton]; omega)
      rw [show ((l ++ [c]).length : Int) = (p : Int) + 1 by rw [List.length_append, List.length_singleton]; omega] at hL
      have hC := compare_any (l ++ [c]) (l ++ [c]) (chars_one hc hch) (chars_one hc hch) (by rw [List.length_append, List.length_singleton]; omega) (by rw [List.length_append, List.length_singleton]; omega)
      unfold CmpPost at hC
      rw [cmpL_self] at hC
      exact ⟨pk (l ++ [c]), wideL (l ++ [c]), 0, (p : Int) + 1, hS, fun v W h => join_two l hpp c v W h, hL, .inr ⟨h0, rfl, rfl, hC⟩⟩
  have h2 := fun W => strsAt_two W l [c]
  unfold strV at hLat hLen hOf1 hLen1 hSet
  generalize pk l = dl at *
  generalize wideL l = wl at *
  generalize pk [c] = d1 at *
  generalize wideL [c] = v1 at *
  have HT := Lib.hid ht
  have HLAT := Lib.hid hLat
  have HLEN := Lib.hid hLen
  have HENC := Lib.hid hEnc
  have HOF1 := Lib.hid hOf1
  have HLEN1 := Lib.hid hLen1
  have HUQ := Lib.hid hUq'
  have HSET := Lib.hid hSet
  have HJOIN := Lib.hid hJoin
  have HLY := Lib.hid hLy
  have H2 := Lib.hid h2
  have HCASE := Lib.hid hcase
  have HES := Lib.hid hes
  have HPB := Lib.hid (show p ≤ 65536 by omega)
  have HBY := Lib.hid hby
  have HZS := Lib.hid hzs
  have H2B : Hid (∀ W : World, StrsAt ((W.alloc (.cells #[.string dy, .bool wy] 24)).alloc (.cells #[.string dl, .bool wl, .string d1, .bool v1] 24)) (.slice (some ⟨W.heap.size + 1, 0, none⟩) 2 2) [l, [c]]) := fun W => by
    have h := H2.out (W.alloc (.cells #[.string dy, .bool wy] 24))
    have e : (W.alloc (.cells #[.string dy, .bool wy] 24)).heap.size = W.heap.size + 1 := by simp
    rw [e] at h
    exact h
  generalize (c : Int) = z at *
  clear ht hLat hLen hEnc hOf1 hLen1 hUq' hSet hJoin hLy h2 hcase hes hby hzs hcvb hll hch hel hok hoka hu hc s10 s34 s92 hr3 hp hl
  go_enter Tryd.func5, Tryd.ntmps5
  go_wp2_with fail
  refine (HAW.out _).mono ?_
  rintro e w1 ⟨rfl, hb1⟩
  have HB1 := Lib.hid hb1
  clear hb1
  go_wp2_with fail
  refine (HYES.out _).mono ?_
  rintro e w1' ⟨rfl, rfl⟩
  go_wp2_with fail
  refine (HLAT.out _ _ (HBY.out _)).mono ?_
  rintro e w2 ⟨rfl, hb2⟩
  have HX2 := Lib.hid (two_alloc w2 (.string dl) (.bool wl) 24)
  have HV2 := Lib.hid (((HBY.out w1).below hb2).below (below_al (o := .cells #[.string dl, .bool wl] 24) (Below.refl w2.heap.size w2)))
  have HB2 := Lib.hid (below_al (o := .cells #[.string dl, .bool wl] 24) (below_from (below_al (o := zeroO p) HB1.out) hb2 (Nat.le_refl _)))
  clear hb2 HB1
  obtain ⟨_, x0, x1⟩ := HX2.out
  go_wp2_with fail
  refine (HLEN.out _).mono ?_
  rintro e w3 ⟨rfl, hb3⟩
  clear x0 x1
  have HX3 := Lib.hid ((HX2.out.below hb3))
  have HV3 := Lib.hid ((HV2.out.below hb3))
  have HB3 := Lib.hid (below_from HB2.out hb3 (Nat.le_refl _))
  clear hb3 HB2 HX2 HV2
  go_wp2_with fail
  refine (HENC.out _).mono ?_
  rintro e w4 ⟨rfl, hb4⟩
  have HX4 := Lib.hid ((HX3.out.below hb4))
  have HV4 := Lib.hid ((HV3.out.below hb4))
  have HB4 := Lib.hid (below_from HB3.out hb4 (Nat.le_refl _))
  clear hb4 HB3 HX3 HV3
  go_wp2_with fail
  refine (HOF1.out _).mono ?_
  rintro e w5 ⟨rfl, hb5⟩
  have HO5 := Lib.hid (two_alloc w5 (.string d1) (.bool v1) 24)
  have HX5 := Lib.hid ((HX4.out.below hb5).below (below_al (o := .cells #[.string d1, .bool v1] 24) (Below.refl w5.heap.size w5)))
  have HV5 := Lib.hid ((HV4.out.below hb5).below (below_al (o := .cells #[.string d1, .bool v1] 24) (Below.refl w5.heap.size w5)))
  have HB5 := Lib.hid (below_al (o := .cells #[.string d1, .bool v1] 24) (below_from HB4.out hb5 (Nat.le_refl _)))
  clear hb5 HB4 HX4 HV4
  obtain ⟨_, o0, o1⟩ := HO5.out
  go_wp2_with fail
  refine (HLEN1.out _).mono ?_
  rintro e w6 ⟨rfl, hb6⟩
  clear o0 o1
  have HX6 := Lib.hid ((HX5.out.below hb6))
  have HV6 := Lib.hid ((HV5.out.below hb6))
  have HO6 := Lib.hid ((HO5.out.below hb6))
  have HB6 := Lib.hid (below_from HB5.out hb6 (Nat.le_refl _))
  clear hb6 HB5 HX5 HV5 HO5
  obtain ⟨_, x0, x1⟩ := HX6.out
  go_wp2_with fail
  refine (HSET.out _).mono ?_
  rintro e w7 ⟨rfl, hb7⟩
  clear x0 x1
  have HY7 := Lib.hid (two_alloc w7 (.string dy) (.bool wy) 24)
  have HX7 := Lib.hid ((HX6.out.below hb7).below (below_al (o := .cells #[.string dy, .bool wy] 24) (Below.refl w7.heap.size w7)))
  have HV7 := Lib.hid ((HV6.out.below hb7).below (below_al (o := .cells #[.string dy, .bool wy] 24) (Below.refl w7.heap.size w7)))
  have HO7 := Lib.hid ((HO6.out.below hb7).below (below_al (o := .cells #[.string dy, .bool wy] 24) (Below.refl w7.heap.size w7)))
  have HB7 := Lib.hid (below_al (o := .cells #[.string dy, .bool wy] 24) (below_from HB6.out hb7 (Nat.le_refl _)))
  clear hb7 HB6 HX6 HV6 HO6
  obtain ⟨_, x0, x1⟩ := HX7.out
  obtain ⟨_, o0, o1⟩ := HO7.out
  go_wp2_with fail
  refine (HJOIN.out _ _ (H2B.out w7)).mono ?_
  rintro e w8 ⟨rfl, hb8⟩
  clear x0 x1 o0 o1
  have hq8 := (below_al (o := .cells #[.string dl, .bool wl, .string d1, .bool v1] 24) (Below.refl (w7.alloc (.cells #[.string dy, .bool wy] 24)).heap.size (w7.alloc (.cells #[.string dy, .bool wy] 24)))).trans (hb8.mono (by simp))
  have HZ8 := Lib.hid (two_alloc w8 (.string dy) (.bool wy) 24)
  clear hb8
  have hb8 := hq8
  clear hq8
  have HX8 := Lib.hid ((HX7.out.below hb8).below (below_al (o := .cells #[.string dy, .bool wy] 24) (Below.refl w8.heap.size w8)))
  have HV8 := Lib.hid ((HV7.out.below hb8).below (below_al (o := .cells #[.string dy, .bool wy] 24) (Below.refl w8.heap.size w8)))
  have HO8 := Lib.hid ((HO7.out.below hb8).below (below_al (o := .cells #[.string dy, .bool wy] 24) (Below.refl w8.heap.size w8)))
  have HY8 := Lib.hid ((HY7.out.below hb8).below (below_al (o := .cells #[.string dy, .bool wy] 24) (Below.refl w8.heap.size w8)))
  have HB8 := Lib.hid (below_al (o := .cells #[.string dy, .bool wy] 24) (below_from HB7.out hb8 (Nat.le_refl _)))
  clear hb8 HB7 HX7 HV7 HO7 HY7
  rcases HCASE.out with ⟨r0, e0, n0, p0⟩ | ⟨r0, e0, n0, hC⟩
  · -- the full string: all is refused
    subst r0 e0 n0
    obtain ⟨q, hq⟩ : ∃ q : Nat, q = 65537 := ⟨_, rfl⟩
    have hmkq : ∀ w, (Instr.makeSlice 40 (.int .i64 65537) (.int .i64 65537)).run Tryd.prog w = .ok (.slice (some ⟨w.heap.size, 0, none⟩) q q) (w.alloc (zeroO q)) := fun w => by
      have h := make_zeros q (by omega) w
      rwa [show ((q : Nat) : Int) = 65537 by omega] at h
    have hcvq : ∀ w : World, (convert 40 9 (.slice (some ⟨w.heap.size, 0, none⟩) q q)).run Tryd.prog (w.alloc (zeroO q)) = .ok (.string (zeroS q)) (w.alloc (zeroO q)) := fun w => convert_bytes (bytes_zeros q w)
    have hLQ := fun (W : World) => latin_limit (List.replicate q 0) (by rw [List.length_replicate]; omega) _ _ (bytes_zeros q (W.alloc (.cells #[.string dy, .bool wy] 24)))
    have hsz1 : ∀ (W : World) (o : Obj), (W.alloc o).heap.size = W.heap.size + 1 := fun W o => by simp
    simp only [hsz1] at hLQ
    have HLQ := Lib.hid hLQ
    have hcvq2 : ∀ w : World, (convert 40 9 (.slice (some ⟨w.heap.size + 1, 0, none⟩) q q)).run Tryd.prog ((w.alloc (.cells #[.string ⟨#[]⟩, .bool false] 24)).alloc (zeroO q)) = .ok (.string (zeroS q)) ((w.alloc (.cells #[.string ⟨#[]⟩, .bool false] 24)).alloc (zeroO q)) := fun w => by
      have h := hcvq (w.alloc (.cells #[.string ⟨#[]⟩, .bool false] 24))
      rwa [hsz1] at h
    clear hcvq hLQ hsz1
    have HOQ := Lib.hid (of_many q hq)
    have HQQ := Lib.hid hq
    have HPP := Lib.hid p0
    clear hq p0
    unfold noV at HLQ HOQ
    obtain ⟨W8, hW8⟩ : ∃ W8, W8 = w8.alloc (.cells #[.string dy, .bool wy] 24) := ⟨_, rfl⟩
    rw [← hW8] at HX8 HV8 HO8 HY8 HZ8 HB8
    go_wp2_with fail
    refine (HLQ.out w8).mono ?_
    rintro e w9 ⟨rfl, hb9⟩
    rw [← hW8] at hb9
    have hq9 := (below_al (o := zeroO q) (Below.refl W8.heap.size W8)).trans (hb9.mono (by have e : W8.heap.size = w8.heap.size + 1 := (by rw [hW8]; simp); omega))
    have HX9 := Lib.hid ((HX8.out.below hq9).below (below_al (o := .cells #[.string ⟨#[]⟩, .bool false] 24) (Below.refl w9.heap.size w9)))
    have HV9 := Lib.hid ((HV8.out.below hq9).below (below_al (o := .cells #[.string ⟨#[]⟩, .bool false] 24) (Below.refl w9.heap.size w9)))
    have HY9 := Lib.hid ((HY8.out.below hq9).below (below_al (o := .cells #[.string ⟨#[]⟩, .bool false] 24) (Below.refl w9.heap.size w9)))
    have HZ9 := Lib.hid ((HZ8.out.below hq9).below (below_al (o := .cells #[.string ⟨#[]⟩, .bool false] 24) (Below.refl w9.heap.size w9)))
    have HB9 := Lib.hid (below_al (o := .cells #[.string ⟨#[]⟩, .bool false] 24) (below_from HB8.out hq9 (Nat.le_refl _)))
    clear hb9 hq9 HX8 HV8 HO8 HY8 HZ8 HB8
    obtain ⟨W9, hW9⟩ : ∃ W9, W9 = w9.alloc (.cells #[.string ⟨#[]⟩, .bool false] 24) := ⟨_, rfl⟩
    rw [← hW9] at HX9 HV9 HY9 HZ9 HB9
    go_wp2_with fail
    refine (HOQ.out _).mono ?_
    rintro e w10 ⟨rfl, hb10⟩
    rw [← hW9] at hb10
    have hq10 := (below_al (o := zeroO q) (Below.refl W9.heap.size W9)).trans (hb10.mono (size_le W9 (zeroO q)))
    have HX10 := Lib.hid ((HX9.out.below hq10).below (below_al (o := .cells #[.string ⟨#[]⟩, .bool false] 24) (Below.refl w10.heap.size w10)))
    have HV10 := Lib.hid ((HV9.out.below hq10).below (below_al (o := .cells #[.string ⟨#[]⟩, .bool false] 24) (Below.refl w10.heap.size w10)))
    have HY10 := Lib.hid ((HY9.out.below hq10).below (below_al (o := .cells #[.string ⟨#[]⟩, .bool false] 24) (Below.refl w10.heap.size w10)))
    have HZ10 := Lib.hid ((HZ9.out.below hq10).below (below_al (o := .cells #[.string ⟨#[]⟩, .bool false] 24) (Below.refl w10.heap.size w10)))
    have HB10 := Lib.hid (below_al (o := .cells #[.string ⟨#[]⟩, .bool false] 24) (below_from HB9.out hq10 (Nat.le_refl _)))
    clear hb10 hq10 HX9 HV9 HY9 HZ9 HB9 hmkq hcvq2
    have HUF := Lib.hid (fun (W' : World) (h : Below w.heap.size w W') => HUQ.out p HPP.out W' (HT.out.below h))
    obtain ⟨zs, hzz⟩ : ∃ zs, zs = zeroS p := ⟨_, rfl⟩
    have hzsz : zs.size = p := by rw [hzz]; exact zeroS_size p
    rw [← hzz] at HUF
    have HCV : Hid (∀ W', Below (w10.alloc (.cells #[.string ⟨#[]⟩, .bool false] 24)).heap.size (w10.alloc (.cells #[.string ⟨#[]⟩, .bool false] 24)) W' → (convert 40 9 (.slice (some ⟨w1.heap.size, 0, none⟩) p p)).run Tryd.prog W' = .ok (.string zs) W') := fun W' h => by
      have h' := convert_bytes (HV10.out.below h)
      rw [HZS.out, ← hzz] at h'
      exact h'
    have hs1 : ¬ 9223372036854775807 < 1 + zs.size := by have := HPP.out; omega
    have hs2 : ¬ 9223372036854775807 < 1 + zs.size + eb.size := by have := HPP.out; have := HES.out; omega
    have hs3 : ¬ 9223372036854775807 < 1 + zs.size + eb.size + 1 := by have := HPP.out; have := HES.out; omega
    clear hzz hzsz
    go_upto_region 20 with fail
    obtain ⟨W10, hW10⟩ : ∃ W10, W10 = w10.alloc (.cells #[.string ⟨#[]⟩, .bool false] 24) := ⟨_, rfl⟩
    rw [← hW10] at HX10 HV10 HY10 HZ10 HB10 HCV ⊢
    have HUB := Lib.hid (fun (W' : World) (h : Below W10.heap.size W10 W') => HUF.out W' (below_from HB10.out h (Nat.le_refl _)))
    clear hW10
    have hBR : Below W10.heap.size W10 W10 := Below.refl _ _
    have hBRd : Below W10.heap.size W10 W10.drew := hBR.drew
    go_cut [18, 19] (fun n e wr => n = .int .i64 ((p : Int) + 1) ∧ e = .int .i64 3 ∧ Below W10.heap.size W10 wr)
    case first =>
      have hc0 := HCV.out _ hBR
      have hc0d := HCV.out _ hBRd
      go_wp2_with fail
      go_region_held3 (fun W => (convert 40 9 (.slice (some ⟨w1.heap.size, 0, none⟩) p p)).run Tryd.prog W = .ok (.string zs) W)
        (first
          | (refine HCV.out _ ?_; assumption)
          | (refine HCV.out _ (Below.drew ?_); assumption)
          | (refine HCV.out _ (below_al ?_); assumption)
          | (refine HCV.out _ (below_al (Below.drew ?_)); assumption)
          | (refine HCV.out _ ((Below.setCell (p := ⟨_, 0, none⟩) ?_ ?_ _).setCell (p := ⟨_, 1, none⟩) ?_ _) <;> (first | assumption | exact Nat.le_refl _ | exact Below.size (by assumption)))
          | go_keep)
        (first
          | (go_at_call 19; refine (carry (w := W10) (HENC.out _) ?_).mono ?_; (repeat (first | assumption | refine below_al ?_ | refine Below.drew ?_)); rintro e w3 ⟨rfl, hb3, hB3⟩; (first | (have hq : w3.cell? ⟨W10.heap.size, 0, none⟩ = some (.string ⟨#[]⟩) ∧ w3.cell? ⟨W10.heap.size, 1, none⟩ = some (.bool false) ∧ w3.frozen? ⟨W10.heap.size, 0, none⟩ = false ∧ w3.frozen? ⟨W10.heap.size, 1, none⟩ = false := fresh_two (W := W10.drew) hb3; obtain ⟨y0, y1, y2, y3⟩ := hq) | (have hq := fresh_two hb3; obtain ⟨y0, y1, y2, y3⟩ := hq) | (have hq := keepF y0 y1 y2 y3 hb3; obtain ⟨y0, y1, y2, y3⟩ := hq) | skip))
          | (go_at_call 9; refine (carry (w := W10) (HUB.out _ ?_) ?_).mono ?_; (repeat (first | assumption | refine below_al ?_ | refine Below.drew ?_)); (repeat (first | assumption | refine below_al ?_ | refine Below.drew ?_)); rintro e w3 ⟨rfl, hb3, hB3⟩; (first | (have hq : w3.cell? ⟨W10.heap.size, 0, none⟩ = some (.string ⟨#[]⟩) ∧ w3.cell? ⟨W10.heap.size, 1, none⟩ = some (.bool false) ∧ w3.frozen? ⟨W10.heap.size, 0, none⟩ = false ∧ w3.frozen? ⟨W10.heap.size, 1, none⟩ = false := fresh_two (W := W10.drew) hb3; obtain ⟨y0, y1, y2, y3⟩ := hq) | (have hq := fresh_two hb3; obtain ⟨y0, y1, y2, y3⟩ := hq) | (have hq := keepF y0 y1 y2 y3 hb3; obtain ⟨y0, y1, y2, y3⟩ := hq) | skip)))
      all_goals
        go_wp2_with fail
        go_meet
        first
          | exact ⟨rfl, rfl, below_al hB3⟩
          | exact ⟨rfl, rfl, (hB3.setCell (p := ⟨_, 0, none⟩) (Below.size (by assumption)) _).setCell (p := ⟨_, 1, none⟩) (Below.size (by assumption)) _⟩
          | exact ⟨rfl, rfl, (hB3.setCell (p := ⟨_, 0, none⟩) (Nat.le_refl _) _).setCell (p := ⟨_, 1, none⟩) (Nat.le_refl _) _⟩
    case rest =>
      obtain ⟨rfl, rfl, hBc⟩ := hcut
      have HY11 := Lib.hid (HY10.out.below hBc)
      have HZ11 := Lib.hid (HZ10.out.below hBc)
      have HB11 := Lib.hid (below_from HB10.out hBc (Nat.le_refl _))
      have hpw : IntKind.i64.wrap ((p : Int) + 1) = (p : Int) + 1 := IntWalk.i64_in _ (by have := HPB.out; omega)
      clear hBc hBR hBRd HY10 HZ10 HB10 HX10 HV10 hs1 hs2 hs3
      obtain ⟨_, y0, y1⟩ := HY11.out
      go_wp2_with fail
      refine (HLY.out _).mono ?_
      rintro e w12 ⟨rfl, hb12⟩
      have HZ12 := Lib.hid (HZ11.out.below hb12)
      have HB12 := Lib.hid (below_from HB11.out hb12 (Nat.le_refl _))
      clear hb12 y0 y1 HY11 HZ11 HB11
      obtain ⟨_, z0, z1⟩ := HZ12.out
      go_wp2_with fail
      refine (HLY.out _).mono ?_
      rintro e w13 ⟨rfl, hb13⟩
      have HB13 := Lib.hid (below_from HB12.out hb13 (Nat.le_refl _))
      clear hb13 z0 z1
      go_wp2
      go_ret
      exact ⟨rfl, HB13.out⟩
  · -- one character less: all is accepted
    subst e0 n0
    have hr0 : (r == 0) = false := by simpa using r0
    have HCM := Lib.hid hC
    have hpw : IntKind.i64.wrap ((p : Int) + 1) = (p : Int) + 1 := IntWalk.i64_in _ (by have := HPB.out; omega)
    clear hC r0
    obtain ⟨_, y0, y1⟩ := HY8.out
    go_wp2_with fail
    refine (HLY.out _).mono ?_
    rintro e w9 ⟨rfl, hb9⟩
    clear y0 y1
    have HX9 := Lib.hid ((HX8.out.below hb9))
    have HV9 := Lib.hid ((HV8.out.below hb9))
    have HO9 := Lib.hid ((HO8.out.below hb9))
    have HY9 := Lib.hid ((HY8.out.below hb9))
    have HZ9 := Lib.hid ((HZ8.out.below hb9))
    have HB9 := Lib.hid (below_from HB8.out hb9 (Nat.le_refl _))
    clear hb9 HB8 HX8 HV8 HO8 HY8 HZ8
    obtain ⟨_, y0, y1⟩ := HY9.out
    obtain ⟨_, z0, z1⟩ := HZ9.out
    go_wp2_with fail
    refine (HCM.out _).mono ?_
    rintro e w10 ⟨rfl, hb10⟩
    clear y0 y1 z0 z1
    have HX10 := Lib.hid ((HX9.out.below hb10))
    have HV10 := Lib.hid ((HV9.out.below hb10))
    have HO10 := Lib.hid ((HO9.out.below hb10))
    have HY10 := Lib.hid ((HY9.out.below hb10))
    have HZ10 := Lib.hid ((HZ9.out.below hb10))
    have HB10 := Lib.hid (below_from HB9.out hb10 (Nat.le_refl _))
    clear hb10 HB9 HX9 HV9 HO9 HY9 HZ9
    obtain ⟨_, x0, x1⟩ := HX10.out
    go_wp2_with fail
    refine (HLEN.out _).mono ?_
    rintro e w11 ⟨rfl, hb11⟩
    clear x0 x1
    have HX11 := Lib.hid ((HX10.out.below hb11))
    have HV11 := Lib.hid ((HV10.out.below hb11))
    have HO11 := Lib.hid ((HO10.out.below hb11))
    have HY11 := Lib.hid ((HY10.out.below hb11))
    have HZ11 := Lib.hid ((HZ10.out.below hb11))
    have HB11 := Lib.hid (below_from HB10.out hb11 (Nat.le_refl _))
    clear hb11 HB10 HX10 HV10 HO10 HY10 HZ10
    go_wp2
    go_ret
    exact ⟨rfl, HB11.out⟩

set_option maxRecDepth 100000 in
theorem lifted (os : Os) (started : os.Started) (H : Type) (enc : TypeId × Value → H) :
    ReturnsInHanded {} Tryd.checked os 5 .any (fun w args => (Rows.textLimitsSpec.pre enc Tryd.prog Tryd.f5 [] false w args ∧ laidMetH Tryd.prog laidN w) ∧ sizedMet enc Tryd.prog Tryd.f5 (OpenSpec.ofChange Rows.textLimitsSpec) false w args)
      (Rows.textLimitsSpec.post enc Tryd.prog Tryd.f5 false true false false) := by
  refine returnsInHanded_and_shaped (C := Tryd.checked) (X := fun w _ => laidMetH Tryd.prog laidN w) (fun _ _ _ hh h => h.of_heap hh) own started (by kernel_rfl) Tryd.func5
    (ChangeSpec.witness_shaped (enc := enc) (C := Tryd.checked) (os := os) (X := fun w _ => laidMetH Tryd.prog laidN w) false (World.laidAll Tryd.prog os laidN) #[.int .i64 0, .int .u8 0] 8 (World.laidAll_os _ _ _) (shaped_all os _) (by kernel_rfl) (by kernel_rfl) (by kernel_rfl) (met_all os _)) ?_
  intro W base args ds gs before hval0 hW hL hSh
  have hval : ∀ (j : Nat) t v, Tryd.f5.params[j]? = some t → args[j]? = some v → Value.okWide Tryd.prog W .any base t v := hval0
  have hW' := hW
  obtain ⟨p, q, hA0, hV, rfl, hfz, hnd⟩ := hW
  have hA : DataW.TrodAll enc Tryd.prog W 0 (fun _ => true) true Tryd.f5.params.toList args.toList ds p := hA0
  rw [Tryd.params5] at hA hval
  obtain ⟨v0, vs0, d0, ds0, p0, q0, hargs, rfl, rfl, h0, r0⟩ := trodAll_cons hA
  obtain ⟨v1, vs1, d1, ds1, p1, q1, rfl, rfl, rfl, h1, r1⟩ := trodAll_cons r0
  obtain ⟨rfl, rfl, rfl⟩ := trodAll_nil r1
  obtain rfl : args = #[v0, v1] := by cases args; simp_all
  obtain ⟨rfl, rfl⟩ := trodVars_none hV
  obtain ⟨a0, rfl, rfl, rfl, w0⟩ := open_int Tryd.underlying3 (hval 0 3 v0 rfl rfl) h0
  obtain ⟨a1, rfl, rfl, rfl, w1⟩ := open_int Tryd.underlying5 (hval 1 5 v1 rfl rfl) h1
  clear hA0 hval0
  have ht := of_laid hSh hL
  refine (walk a0 w0 a1 w1 W ht).mono fun e W' ⟨he, bel⟩ => ?_
  subst he
  exact ⟨_, rfl, _, _, _, [], _, [], hW', trodAll_mk1 (shut_bool Tryd.underlying4 _), (trodAll_cons_mk (shut_int Tryd.underlying3 w0) (trodAll_cons_mk (shut_int Tryd.underlying5 w1) trodAll_mk0)), rfl, bel.frame _, fun h => by cases h⟩

set_option maxHeartbeats 16000000 in
set_option maxRecDepth 100000 in
theorem joined : joinedFacts Tryd.prog 5 Tryd.f5 Rows.textLimitsSpec Rows.textLimitsRow = true := by
  unfold joinedFacts
  simp only [Bool.and_eq_true]
  repeat' apply And.intro
  all_goals as_aux_lemma => kernel_rfl
theorem over : Rows.textLimitsRow.holds Tryd.pinned (OpenSpec.ofChange Rows.textLimitsSpec) :=
  OpenClaim.holds_of_wide 5 Tryd.f5 rfl rfl rfl rfl rfl rfl rfl ⟨rfl, rfl, rfl, rfl, rfl⟩ rfl rfl rfl rfl rfl (by kernel_rfl) Tryd.func5 joined
    (of_decide_eq_true (by kernel_rfl)) (by unfold Func.isWrapper; first | (rw [if_pos (by decide +kernel)]; kernel_rfl) | (rw [if_neg (by decide +kernel)]; exact ⟨rfl, rfl⟩))
    (fun os started H enc _ => lifted os started H enc)

theorem card_holds : Rows.TextLimitsCardSaid :=
  Claim7.holds_tied_plain_at .later [] [.data, .pinned] true (true, "e0d32f956efe4eedf389720fb974a17cf7b6010b9b6cb12dc063cf45e59b4206") false
    over (fun _ h => by cases h) (by kernel_rfl) (fun _ h => by cases h) textLimits_row_tie rfl ⟨rfl, rfl⟩ (by kernel_rfl) rfl
    (fun f fn hf hfn => by
      obtain rfl : f = 5 := Option.some.inj ((show Tryd.prog.funcNamed "acheron/acheronlaw01.TextLimits" = some 5 by kernel_rfl).symm.trans hf) |>.symm
      obtain rfl : fn = Tryd.f5 := (Option.some.inj (Tryd.func5.symm.trans hfn)).symm
      exact ⟨by kernel_rfl, fun j t ht => by
        rw [Tryd.params5] at ht
        have hm : t ∈ [3, 5] := by have := Array.mem_of_getElem? ht; simp at this ⊢; omega
        have hall : ([3, 5].all fun u => !Tryd.prog.wantsStandIn u) = true := by kernel_rfl
        exact (show Tryd.prog.wantsStandIn t = false by simpa using List.all_eq_true.1 hall t hm)⟩)
    (by kernel_rfl)
end Go.Proofs.YtjpnkffdpcfnjaaDoor.textLimits

