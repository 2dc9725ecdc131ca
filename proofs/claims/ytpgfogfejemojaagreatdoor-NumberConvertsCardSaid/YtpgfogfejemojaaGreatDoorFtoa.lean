/-
  internal/strconv.FormatFloat of 150 in the format e, without a digit behind the point and with one.
-/
import Derived.Test.YtpgfogfejemojaaGreatDoorEfg
set_option linter.unusedVariables false
namespace Go.Proofs.YtpgfogfejemojaaGreatDoor
open Go.RowKit Go.Sort Go.Lib

theorem run_bits_int (n : Nat) (w : World) : (callFunc 125 #[.float .f64 n]).run Tryz.prog w = .ok (.value (.int .u64 n)) w := by
  rw [run_callFunc_extern (e := Extern.MathFloatBits.float64bits) Tryz.func125 (by kernel_rfl) (by kernel_rfl) (by kernel_rfl) (by kernel_rfl)]
  rfl

theorem own_drewN {w : World} {B n : Nat} {T : TypeId} {v : Value} {xs : List Value} (h : w.ownsRow B T 1 v n xs) (k : Nat) : (w.drewN k).ownsRow B T 1 v n xs := h
theorem zeros24_at' (j : Nat) (h : j < 24) : (#[.int .u8 0, .int .u8 0, .int .u8 0, .int .u8 0, .int .u8 0, .int .u8 0, .int .u8 0, .int .u8 0, .int .u8 0, .int .u8 0, .int .u8 0, .int .u8 0, .int .u8 0, .int .u8 0, .int .u8 0, .int .u8 0, .int .u8 0, .int .u8 0, .int .u8 0, .int .u8 0, .int .u8 0, .int .u8 0, .int .u8 0, .int .u8 0] : Array Value)[j]? = some (.int .u8 0) := zeros24_at j h
/-- A row whose block lies below what may have changed. -/
theorem own_below {w w' : World} {B D n : Nat} {bs : List UInt8} (h : w.ownsRow B 5 1 (.slice (some ⟨D, 0, none⟩) n 24) n (u8s bs)) (hb : Below w.heap.size w w') (hB : B ≤ w.heap.size) : w'.ownsRow B 5 1 (.slice (some ⟨D, 0, none⟩) n 24) n (u8s bs) := by
  have hl := (h.lt D rfl).2
  refine ⟨h.1, ?_⟩
  rcases h.2 with ⟨hn, _⟩ | ⟨g, cap, cur, hv, hb2, hgg, rest⟩
  · cases hn
  · obtain rfl : D = g := by injection hv with h1; injection h1 with h2; injection h2
    exact .inr ⟨D, cap, cur, hv, hb2, (hb.block D hl).trans hgg, rest⟩
theorem own_below' {w w' : World} {B D n g : Nat} {bs : List UInt8} (h : w.ownsRow B 5 1 (.slice (some ⟨D, 0, none⟩) n 24) n (u8s bs)) (hb : Below g w w') (hB : D < g) : w'.ownsRow B 5 1 (.slice (some ⟨D, 0, none⟩) n 24) n (u8s bs) := by
  refine ⟨h.1, ?_⟩
  rcases h.2 with ⟨hn, _⟩ | ⟨k, cap, cur, hv, hb2, hgg, rest⟩
  · cases hn
  · obtain rfl : D = k := by injection hv with h1; injection h1 with h2; injection h2
    exact .inr ⟨D, cap, cur, hv, hb2, (hb.block D hB).trans hgg, rest⟩
theorem ftoa0_d : fxD 10808639105689190400 (-56) 1 = 2 := by decide +kernel
theorem ftoa0_p : fxP 10808639105689190400 (-56) 1 = 2 := by decide +kernel
theorem ftoa0_l : decDigits 2 = [50] := by decide +kernel
theorem ftoa0_n : nDigits 2 = 1 := by decide +kernel
set_option maxHeartbeats 1000000 in
set_option maxRecDepth 100000 in
theorem ftoa0 (B D : Nat) (hB : B ≤ D) (w : World) (ht : TabN w) (hd : Dst w B D []) (hs : B ≤ w.heap.size) (hDs : D < w.heap.size) :
    Calls Tryz.prog 107 #[.slice (some ⟨D, 0, none⟩) 0 24, .float .f64 4639481672377565184, .int .u8 101, .int .i64 0] w fun e w' =>
      e = .returned (.slice (some ⟨D, 0, none⟩) 5 24) ∧ Dst w' B D [50, 101, 43, 48, 50] ∧ Below B w w' := by
  have hr := run_bits_int
  have x1 : bits .and .i64 1030 2047 = 1030 := by decide +kernel
  have x2 : bits .and .u64 4639481672377565184 4503599627370495 = 774056185954304 := by decide +kernel
  have x3 : bits .or .u64 774056185954304 4503599627370496 = 5277655813324800 := by decide +kernel
  have HD := Lib.hid hd
  have HT := Lib.hid ht
  have hpos : 16 < w.heap.size := by obtain ⟨k, h⟩ := ht.ml; exact World.block_lt_of_cell? w ⟨16, 0, none⟩ h
  have HL : Hid (∀ w, Calls Tryz.prog 129 #[.int .u64 5277655813324800] w fun e w' => e = .returned (.int .i64 53) ∧ w' = w) := Lib.hid (fun w => (Tryz.bits_Len64 5277655813324800 w (by decide) (by decide)).mono fun e w' ⟨h1, h2⟩ => ⟨h1.trans (ret_int (by decide +kernel)), h2⟩)
  have HX : Hid (∀ w, TabN w → Calls Tryz.prog 134 #[.int .u64 10808639105689190400, .int .i64 (-56), .int .i64 1, .int .i64 0, .int .u8 101] w fun en w' => en = .returned (.tuple #[.int .u64 2, .int .i64 2]) ∧ Below w.heap.size w w') := Lib.hid (fun w ht => by
    have h := fixed_any 10808639105689190400 (-56) 1 0 (by decide) (by decide) (by decide) (by decide) (by decide) w ht
    rw [ftoa0_d, ftoa0_p] at h
    exact h)
  have HN : Hid (∀ w, TabN w → Calls Tryz.prog 132 #[.int .u64 2] w fun e w' => e = .returned (.int .i64 1) ∧ w' = w) := Lib.hid (fun w ht => by
    have h := Tryz.internal_strconv_numDigits 2 (by decide) (by decide) w ht.ti
    rw [ftoa0_n] at h
    exact h)
  have HS : Hid (∀ g w, TabN w → Zero24 w g → 16 < g → Calls Tryz.prog 131 #[.slice (some ⟨g, 0, none⟩) 24 24, .int .u64 2, .int .i64 2, .int .i64 1] w fun en w' => en = .returned (.tuple #[.int .i64 3, .int .i64 1]) ∧ Buf w' g [50] ∧ Below g w w') := Lib.hid (fun g w ht hz hg => by
    have h := setDigits_any g 2 2 (by decide) (by decide) (by decide) (by decide) w ht hz hg
    rw [ftoa0_n, ftoa0_l] at h
    exact h)
  clear ht hd
  go_enter Tryz.func107, Tryz.ntmps107
  go_wp2_with fail
  go_quiet (fail)
  have HT1 := Lib.hid (HT.out.below (below_drewN (Below.refl _ _) nq))
  have HD1 : Hid (Dst (w.drewN nq) B D []) := Lib.hid (own_drewN HD.out nq)
  have HB1 := Lib.hid (below_drewN (Below.refl B w) nq)
  have hs1 : B ≤ (w.drewN nq).heap.size := hs
  have hDs1 : D < (w.drewN nq).heap.size := hDs
  have hp1 : 16 < (w.drewN nq).heap.size := hpos
  obtain ⟨w1, hw1⟩ : ∃ w1, w1 = w.drewN nq := ⟨_, rfl⟩
  rw [← hw1] at HT1 HD1 HB1 hs1 hDs1 hp1 ⊢
  clear hw1
  have ho := HT1.out.opt
  have HZ : Hid (Zero24 (w1.alloc (.cells #[.int .u8 0, .int .u8 0, .int .u8 0, .int .u8 0, .int .u8 0, .int .u8 0, .int .u8 0, .int .u8 0, .int .u8 0, .int .u8 0, .int .u8 0, .int .u8 0, .int .u8 0, .int .u8 0, .int .u8 0, .int .u8 0, .int .u8 0, .int .u8 0, .int .u8 0, .int .u8 0, .int .u8 0, .int .u8 0, .int .u8 0, .int .u8 0] 129)) w1.heap.size) := Lib.hid (fun j hj => ⟨by rw [World.cell?_alloc_new, zeros24_at' j hj], World.frozen?_alloc_new _ _ _ _⟩)
  have HB2 : Hid (Below w1.heap.size w1 (w1.alloc (.cells #[.int .u8 0, .int .u8 0, .int .u8 0, .int .u8 0, .int .u8 0, .int .u8 0, .int .u8 0, .int .u8 0, .int .u8 0, .int .u8 0, .int .u8 0, .int .u8 0, .int .u8 0, .int .u8 0, .int .u8 0, .int .u8 0, .int .u8 0, .int .u8 0, .int .u8 0, .int .u8 0, .int .u8 0, .int .u8 0, .int .u8 0, .int .u8 0] 129))) := Lib.hid ((Below.refl _ _).alloc (Nat.le_refl _) _)
  have HD2 : Hid (Dst (w1.alloc (.cells #[.int .u8 0, .int .u8 0, .int .u8 0, .int .u8 0, .int .u8 0, .int .u8 0, .int .u8 0, .int .u8 0, .int .u8 0, .int .u8 0, .int .u8 0, .int .u8 0, .int .u8 0, .int .u8 0, .int .u8 0, .int .u8 0, .int .u8 0, .int .u8 0, .int .u8 0, .int .u8 0, .int .u8 0, .int .u8 0, .int .u8 0, .int .u8 0] 129)) B D []) := Lib.hid (HD1.out.alloc _)
  go_wp2_with fail
  refine (HL.out _).mono ?_
  rintro e w2 ⟨rfl, hw2⟩
  have HT2 : Hid (TabN w2) := Lib.hid (by rw [hw2]; exact HT1.out.below HB2.out)
  have HZ2 : Hid (Zero24 w2 w1.heap.size) := Lib.hid (by rw [hw2]; exact HZ.out)
  have HD3 : Hid (Dst w2 B D []) := Lib.hid (by rw [hw2]; exact HD2.out)
  have HB3 : Hid (Below w1.heap.size w1 w2) := Lib.hid (by rw [hw2]; exact HB2.out)
  have hz2 : w1.heap.size < w2.heap.size := by rw [hw2]; simp
  clear hw2 ho
  go_wp2_with fail
  refine (HX.out _ HT2.out).mono ?_
  rintro e w3 ⟨rfl, hb⟩
  have HT3 := Lib.hid (HT2.out.below hb)
  have HZ3 : Hid (Zero24 w3 w1.heap.size) := Lib.hid (fun j hj => ⟨cell_keep hb (HZ2.out j hj).1, by rw [hb.frozen (p := ⟨w1.heap.size, j, none⟩) hz2]; exact (HZ2.out j hj).2⟩)
  have HD4 : Hid (Dst w3 B D []) := Lib.hid (own_below HD3.out hb (by have := HB1.out.size; omega))
  have HB4 := Lib.hid (HB3.out.trans (hb.mono (by omega)))
  have hz3 : w1.heap.size < w3.heap.size := by have := hb.size; omega
  clear hb
  have HT3d : Hid (TabN w3.drew) := Lib.hid (HT3.out.below (Below.refl _ _).drew)
  have HZ3d : Hid (Zero24 w3.drew w1.heap.size) := HZ3
  have HD4d : Hid (Dst w3.drew B D []) := HD4
  have HB4d : Hid (Below w1.heap.size w1 w3.drew) := Lib.hid HB4.out.drew
  go_wp2_with fail
  go_region_with (first
    | (go_at_call 132; refine (HN.out _ HT3d.out).mono ?_; rintro e w4 ⟨rfl, rfl⟩)
    | (go_at_call 131; refine (HS.out _ _ HT3d.out HZ3d.out hp1).mono ?_; rintro e w5 ⟨rfl, hbuf, hb⟩))
  have HBUF := Lib.hid hbuf
  have HD5 : Hid (Dst w5 B D []) := Lib.hid (own_below' HD4d.out hb (by omega))
  have HB5 := Lib.hid (HB1.out.trans ((HB4d.out.trans hb).mono hs1))
  have hz5 : B ≤ w5.heap.size := by have := hb.size; simp at this; omega
  clear hb hbuf
  go_wp2_with fail
  refine (efg0 B D w1.heap.size hB hs1 (by omega) _ HD5.out HBUF.out hz5).mono ?_
  rintro e w6 ⟨rfl, hd6, hb⟩
  have HD6 := Lib.hid hd6
  have HB6 := Lib.hid (HB5.out.trans hb)
  clear hd6 hb
  go_wp2_with fail
  go_ret
  exact ⟨rfl, HD6.out, HB6.out⟩
theorem ftoa1_d : fxD 10808639105689190400 (-56) 2 = 15 := by decide +kernel
theorem ftoa1_p : fxP 10808639105689190400 (-56) 2 = 1 := by decide +kernel
theorem ftoa1_l : decDigits 15 = [49, 53] := by decide +kernel
theorem ftoa1_n : nDigits 15 = 2 := by decide +kernel
set_option maxHeartbeats 1000000 in
set_option maxRecDepth 100000 in
theorem ftoa1 (B D : Nat) (hB : B ≤ D) (w : World) (ht : TabN w) (hd : Dst w B D []) (hs : B ≤ w.heap.size) (hDs : D < w.heap.size) :
    Calls Tryz.prog 107 #[.slice (some ⟨D, 0, none⟩) 0 24, .float .f64 4639481672377565184, .int .u8 101, .int .i64 1] w fun e w' =>
      e = .returned (.slice (some ⟨D, 0, none⟩) 7 24) ∧ Dst w' B D [49, 46, 53, 101, 43, 48, 50] ∧ Below B w w' := by
  have hr := run_bits_int
  have x1 : bits .and .i64 1030 2047 = 1030 := by decide +kernel
  have x2 : bits .and .u64 4639481672377565184 4503599627370495 = 774056185954304 := by decide +kernel
  have x3 : bits .or .u64 774056185954304 4503599627370496 = 5277655813324800 := by decide +kernel
  have HD := Lib.hid hd
  have HT := Lib.hid ht
  have hpos : 16 < w.heap.size := by obtain ⟨k, h⟩ := ht.ml; exact World.block_lt_of_cell? w ⟨16, 0, none⟩ h
  have HL : Hid (∀ w, Calls Tryz.prog 129 #[.int .u64 5277655813324800] w fun e w' => e = .returned (.int .i64 53) ∧ w' = w) := Lib.hid (fun w => (Tryz.bits_Len64 5277655813324800 w (by decide) (by decide)).mono fun e w' ⟨h1, h2⟩ => ⟨h1.trans (ret_int (by decide +kernel)), h2⟩)
  have HX : Hid (∀ w, TabN w → Calls Tryz.prog 134 #[.int .u64 10808639105689190400, .int .i64 (-56), .int .i64 2, .int .i64 1, .int .u8 101] w fun en w' => en = .returned (.tuple #[.int .u64 15, .int .i64 1]) ∧ Below w.heap.size w w') := Lib.hid (fun w ht => by
    have h := fixed_any 10808639105689190400 (-56) 2 1 (by decide) (by decide) (by decide) (by decide) (by decide) w ht
    rw [ftoa1_d, ftoa1_p] at h
    exact h)
  have HN : Hid (∀ w, TabN w → Calls Tryz.prog 132 #[.int .u64 15] w fun e w' => e = .returned (.int .i64 2) ∧ w' = w) := Lib.hid (fun w ht => by
    have h := Tryz.internal_strconv_numDigits 15 (by decide) (by decide) w ht.ti
    rw [ftoa1_n] at h
    exact h)
  have HS : Hid (∀ g w, TabN w → Zero24 w g → 16 < g → Calls Tryz.prog 131 #[.slice (some ⟨g, 0, none⟩) 24 24, .int .u64 15, .int .i64 1, .int .i64 2] w fun en w' => en = .returned (.tuple #[.int .i64 3, .int .i64 2]) ∧ Buf w' g [49, 53] ∧ Below g w w') := Lib.hid (fun g w ht hz hg => by
    have h := setDigits_any g 15 1 (by decide) (by decide) (by decide) (by decide) w ht hz hg
    rw [ftoa1_n, ftoa1_l] at h
    exact h)
  clear ht hd
  go_enter Tryz.func107, Tryz.ntmps107
  go_wp2_with fail
  go_quiet (fail)
  have HT1 := Lib.hid (HT.out.below (below_drewN (Below.refl _ _) nq))
  have HD1 : Hid (Dst (w.drewN nq) B D []) := Lib.hid (own_drewN HD.out nq)
  have HB1 := Lib.hid (below_drewN (Below.refl B w) nq)
  have hs1 : B ≤ (w.drewN nq).heap.size := hs
  have hDs1 : D < (w.drewN nq).heap.size := hDs
  have hp1 : 16 < (w.drewN nq).heap.size := hpos
  obtain ⟨w1, hw1⟩ : ∃ w1, w1 = w.drewN nq := ⟨_, rfl⟩
  rw [← hw1] at HT1 HD1 HB1 hs1 hDs1 hp1 ⊢
  clear hw1
  have ho := HT1.out.opt
  have HZ : Hid (Zero24 (w1.alloc (.cells #[.int .u8 0, .int .u8 0, .int .u8 0, .int .u8 0, .int .u8 0, .int .u8 0, .int .u8 0, .int .u8 0, .int .u8 0, .int .u8 0, .int .u8 0, .int .u8 0, .int .u8 0, .int .u8 0, .int .u8 0, .int .u8 0, .int .u8 0, .int .u8 0, .int .u8 0, .int .u8 0, .int .u8 0, .int .u8 0, .int .u8 0, .int .u8 0] 129)) w1.heap.size) := Lib.hid (fun j hj => ⟨by rw [World.cell?_alloc_new, zeros24_at' j hj], World.frozen?_alloc_new _ _ _ _⟩)
  have HB2 : Hid (Below w1.heap.size w1 (w1.alloc (.cells #[.int .u8 0, .int .u8 0, .int .u8 0, .int .u8 0, .int .u8 0, .int .u8 0, .int .u8 0, .int .u8 0, .int .u8 0, .int .u8 0, .int .u8 0, .int .u8 0, .int .u8 0, .int .u8 0, .int .u8 0, .int .u8 0, .int .u8 0, .int .u8 0, .int .u8 0, .int .u8 0, .int .u8 0, .int .u8 0, .int .u8 0, .int .u8 0] 129))) := Lib.hid ((Below.refl _ _).alloc (Nat.le_refl _) _)
  have HD2 : Hid (Dst (w1.alloc (.cells #[.int .u8 0, .int .u8 0, .int .u8 0, .int .u8 0, .int .u8 0, .int .u8 0, .int .u8 0, .int .u8 0, .int .u8 0, .int .u8 0, .int .u8 0, .int .u8 0, .int .u8 0, .int .u8 0, .int .u8 0, .int .u8 0, .int .u8 0, .int .u8 0, .int .u8 0, .int .u8 0, .int .u8 0, .int .u8 0, .int .u8 0, .int .u8 0] 129)) B D []) := Lib.hid (HD1.out.alloc _)
  go_wp2_with fail
  refine (HL.out _).mono ?_
  rintro e w2 ⟨rfl, hw2⟩
  have HT2 : Hid (TabN w2) := Lib.hid (by rw [hw2]; exact HT1.out.below HB2.out)
  have HZ2 : Hid (Zero24 w2 w1.heap.size) := Lib.hid (by rw [hw2]; exact HZ.out)
  have HD3 : Hid (Dst w2 B D []) := Lib.hid (by rw [hw2]; exact HD2.out)
  have HB3 : Hid (Below w1.heap.size w1 w2) := Lib.hid (by rw [hw2]; exact HB2.out)
  have hz2 : w1.heap.size < w2.heap.size := by rw [hw2]; simp
  clear hw2 ho
  go_wp2_with fail
  refine (HX.out _ HT2.out).mono ?_
  rintro e w3 ⟨rfl, hb⟩
  have HT3 := Lib.hid (HT2.out.below hb)
  have HZ3 : Hid (Zero24 w3 w1.heap.size) := Lib.hid (fun j hj => ⟨cell_keep hb (HZ2.out j hj).1, by rw [hb.frozen (p := ⟨w1.heap.size, j, none⟩) hz2]; exact (HZ2.out j hj).2⟩)
  have HD4 : Hid (Dst w3 B D []) := Lib.hid (own_below HD3.out hb (by have := HB1.out.size; omega))
  have HB4 := Lib.hid (HB3.out.trans (hb.mono (by omega)))
  have hz3 : w1.heap.size < w3.heap.size := by have := hb.size; omega
  clear hb
  have HT3d : Hid (TabN w3.drew) := Lib.hid (HT3.out.below (Below.refl _ _).drew)
  have HZ3d : Hid (Zero24 w3.drew w1.heap.size) := HZ3
  have HD4d : Hid (Dst w3.drew B D []) := HD4
  have HB4d : Hid (Below w1.heap.size w1 w3.drew) := Lib.hid HB4.out.drew
  go_wp2_with fail
  go_region_with (first
    | (go_at_call 132; refine (HN.out _ HT3d.out).mono ?_; rintro e w4 ⟨rfl, rfl⟩)
    | (go_at_call 131; refine (HS.out _ _ HT3d.out HZ3d.out hp1).mono ?_; rintro e w5 ⟨rfl, hbuf, hb⟩))
  have HBUF := Lib.hid hbuf
  have HD5 : Hid (Dst w5 B D []) := Lib.hid (own_below' HD4d.out hb (by omega))
  have HB5 := Lib.hid (HB1.out.trans ((HB4d.out.trans hb).mono hs1))
  have hz5 : B ≤ w5.heap.size := by have := hb.size; simp at this; omega
  clear hb hbuf
  go_wp2_with fail
  refine (efg1 B D w1.heap.size hB hs1 (by omega) _ HD5.out HBUF.out hz5).mono ?_
  rintro e w6 ⟨rfl, hd6, hb⟩
  have HD6 := Lib.hid hd6
  have HB6 := Lib.hid (HB5.out.trans hb)
  clear hd6 hb
  go_wp2_with fail
  go_ret
  exact ⟨rfl, HD6.out, HB6.out⟩
end Go.Proofs.YtpgfogfejemojaaGreatDoor
