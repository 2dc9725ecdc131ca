/-
  internal/strconv.fmtEFG at the two texts that the worked example of the chapter needs.
-/
import Derived.Test.YtpgfogfejemojaaGreatDoorSetD
import Derived.OwnWalk
import Derived.Lib.BufferRead
import Derived.Deep.AppendLies
set_option linter.unusedVariables false
namespace Go.Proofs.YtpgfogfejemojaaGreatDoor
open Go.RowKit Go.Sort Go.Lib

theorem infoU8 : (Tryz.prog.info? 5).map (fun i => (i.zero, i.size, i.bytes)) = some (some (.int .u8 0), 1, 1) := by kernel_rfl
open Go.RowKit

theorem addr_at (g j : Nat) : (⟨g, 0, none⟩ : Addr).add j = ⟨g, j, none⟩ := by unfold Addr.add; split <;> simp_all
def u8s (bs : List UInt8) : List Value := bs.map fun b => Value.int .u8 b.toNat
theorem u8s_len (bs : List UInt8) : (u8s bs).length = bs.length := by simp [u8s]
theorem u8s_append (a b : List UInt8) : u8s (a ++ b) = u8s a ++ u8s b := by simp [u8s]
theorem own_conv {w : World} {B n : Nat} {v : Value} {bs : List UInt8} (h : w.ownsRow B 5 1 v n (u8s bs)) : (convert 83 9 v).run Tryz.prog w = .ok (.string ⟨bs.toArray⟩) w := by
  have hl := h.1
  rw [u8s_len, Nat.mul_one] at hl
  rcases h.2 with ⟨rfl, h0⟩ | ⟨g, cap, cur, rfl, _⟩
  · obtain rfl : bs = [] := List.eq_nil_of_length_eq_zero (by omega)
    exact Lib.run_convert_nil_bytes w _ _ _ 0 Tryz.underlying83 Tryz.underlying5 Tryz.underlying9
  · rw [← hl]
    exact run_convert_bytes_back w _ _ _ ⟨g, 0, none⟩ cap bs Tryz.underlying83 Tryz.underlying5 Tryz.underlying9 (fun j hj => by
      refine h.cells (g := g) rfl j _ ?_
      simp [u8s, hj])
theorem u8s_one (bs : List UInt8) : ∀ u ∈ u8s bs, u.oneCell' = true := by
  intro u hu
  simp only [u8s, List.mem_map] at hu
  obtain ⟨b, _, rfl⟩ := hu
  rfl
theorem own_drew {w : World} {B n : Nat} {T : TypeId} {v : Value} {xs : List Value} (h : w.ownsRow B T 1 v n xs) : w.drew.ownsRow B T 1 v n xs := h
/-- A fresh block's cells, drawn or not. -/
theorem news_at (W : World) (xs : List Value) (T : TypeId) : ∀ j u, xs[j]? = some u → (W.alloc (.cells xs.toArray T)).cell? ((⟨W.heap.size, 0, none⟩ : Addr).add j) = some u := by
  intro j u hu
  rw [addr_at, World.cell?_alloc_at _ _ _ _ rfl]
  simpa using hu
theorem own_slice {w : World} {B n : Nat} {T : TypeId} {v : Value} {xs : List Value} (h : w.ownsRow B T 1 v n xs) : ∃ ao n' cap, v = .slice ao n' cap := by
  rcases h.2 with ⟨hv, _⟩ | ⟨g, cap, cur, hv, _⟩
  · exact ⟨_, _, _, hv⟩
  · exact ⟨_, _, _, hv⟩
theorem byte_at (s : ByteArray) (k : Nat) (h : k < s.size) : s[k] = s.data.toList.getD k 0 := by
  rw [List.getD_eq_getElem?_getD, List.getElem?_eq_getElem (by simpa using h)]
  rfl
/-- The bytes that have been written so far. -/
def Dst (w : World) (B D : Nat) (bs : List UInt8) : Prop := w.ownsRow B 5 1 (.slice (some ⟨D, 0, none⟩) bs.length 24) bs.length (u8s bs)

set_option maxHeartbeats 1000000 in
set_option maxRecDepth 100000 in
theorem efg0 (B D g : Nat) (hB : B ≤ D) (hg : B ≤ g) (hne : ¬ g = D) (w : World) (hd : Dst w B D []) (hb : Buf w g [50]) (hs : B ≤ w.heap.size) :
    Calls Tryz.prog 128 #[.slice (some ⟨D, 0, none⟩) 0 24, .bool false, .slice (some ⟨g, 0, none⟩) 24 24, .int .i64 3, .int .i64 1, .int .i64 0, .int .u8 101, .bool false] w fun e w' =>
      e = .returned (.slice (some ⟨D, 0, none⟩) 5 24) ∧ Dst w' B D [50, 101, 43, 48, 50] ∧ Below B w w' := by
  obtain ⟨i0, hi, hz0, hz1, hz2⟩ := info_parts infoU8
  have c0 : w.cell? ⟨g, 0, none⟩ = some (.int .u8 50) := hb 0 (by decide)
  have HD := Lib.hid hd
  clear hd hb
  go_enter Tryz.func128, Tryz.ntmps128
  go_upto_region 26 with (first | (at_builtin; refine wpList_append_fits _ rfl _ _ 83 rfl B 5 i0 1 Tryz.underlying83 hi hz1 D 0 24 (u8s []) rfl (HD.out.alloc _) ⟨w.heap.size, 0, none⟩ 1 1 (u8s [50]) rfl rfl (news_at _ (u8s [50]) _) (u8s_one _) (by decide) ?_; intro w1 hown1 hgrow1))
  have HB1 := Lib.hid (((Below.refl B w).alloc hs _).grown hgrow1 (by simp; omega) (fun k hk => by obtain rfl := Option.some.inj hk; exact hB))
  have HO1 := Lib.hid hown1
  have HG1 := Lib.hid hgrow1
  clear hown1 hgrow1
  go_upto_region 38 with (first | (at_builtin; refine wpList_append_fits _ rfl _ _ 83 rfl B 5 i0 1 Tryz.underlying83 hi hz1 D 1 24 (u8s [50]) rfl (HO1.out.alloc _) ⟨w1.heap.size, 0, none⟩ 1 1 (u8s [101]) rfl rfl (news_at _ (u8s [101]) _) (u8s_one _) (by decide) ?_; intro w2 hown2 hgrow2))
  have HB2 := Lib.hid ((HB1.out.alloc (by have := HB1.out.size; omega) _).grown hgrow2 (by have := HB1.out.size; simp; omega) (fun k hk => by obtain rfl := Option.some.inj hk; exact hB))
  have HO2 := Lib.hid hown2
  have HG2 := Lib.hid hgrow2
  clear hown2 hgrow2
  go_upto_region 47 with (first | (at_builtin; refine wpList_append_fits _ rfl _ _ 83 rfl B 5 i0 1 Tryz.underlying83 hi hz1 D 2 24 (u8s [50, 101]) rfl (HO2.out.alloc _) ⟨w2.heap.size, 0, none⟩ 1 1 (u8s [43]) rfl rfl (news_at _ (u8s [43]) _) (u8s_one _) (by decide) ?_; intro w3 hown3 hgrow3))
  have HB3 := Lib.hid ((HB2.out.alloc (by have := HB2.out.size; omega) _).grown hgrow3 (by have := HB2.out.size; simp; omega) (fun k hk => by obtain rfl := Option.some.inj hk; exact hB))
  have HO3 := Lib.hid hown3
  have HG3 := Lib.hid hgrow3
  clear hown3 hgrow3
  go_wp2_with (first | (at_builtin; refine wpList_append_fits _ rfl _ _ 83 rfl B 5 i0 1 Tryz.underlying83 hi hz1 D 3 24 (u8s [50, 101, 43]) rfl (HO3.out.alloc _) ⟨w3.heap.size, 0, none⟩ 2 2 (u8s [48, 50]) rfl rfl (news_at _ (u8s [48, 50]) _) (u8s_one _) (by decide) ?_; intro w4 hown4 hgrow4))
  have HB4 := Lib.hid ((HB3.out.alloc (by have := HB3.out.size; omega) _).grown hgrow4 (by have := HB3.out.size; simp; omega) (fun k hk => by obtain rfl := Option.some.inj hk; exact hB))
  have HO4 := Lib.hid hown4
  have HG4 := Lib.hid hgrow4
  clear hown4 hgrow4
  go_ret
  exact ⟨rfl, HO4.out, HB4.out⟩

set_option maxHeartbeats 1000000 in
set_option maxRecDepth 100000 in
theorem efg1 (B D g : Nat) (hB : B ≤ D) (hg : B ≤ g) (hne : ¬ g = D) (w : World) (hd : Dst w B D []) (hb : Buf w g [49, 53]) (hs : B ≤ w.heap.size) :
    Calls Tryz.prog 128 #[.slice (some ⟨D, 0, none⟩) 0 24, .bool false, .slice (some ⟨g, 0, none⟩) 24 24, .int .i64 3, .int .i64 2, .int .i64 1, .int .u8 101, .bool false] w fun e w' =>
      e = .returned (.slice (some ⟨D, 0, none⟩) 7 24) ∧ Dst w' B D [49, 46, 53, 101, 43, 48, 50] ∧ Below B w w' := by
  obtain ⟨i0, hi, hz0, hz1, hz2⟩ := info_parts infoU8
  have c0 : w.cell? ⟨g, 0, none⟩ = some (.int .u8 49) := hb 0 (by decide)
  have c1 : w.cell? ⟨g, 1, none⟩ = some (.int .u8 53) := hb 1 (by decide)
  have C1 := Lib.hid c1
  clear c1
  have HD := Lib.hid hd
  clear hd hb
  go_enter Tryz.func128, Tryz.ntmps128
  go_upto_region 26 with (first | (at_builtin; refine wpList_append_fits _ rfl _ _ 83 rfl B 5 i0 1 Tryz.underlying83 hi hz1 D 0 24 (u8s []) rfl (HD.out.alloc _) ⟨w.heap.size, 0, none⟩ 1 1 (u8s [49]) rfl rfl (news_at _ (u8s [49]) _) (u8s_one _) (by decide) ?_; intro w1 hown1 hgrow1))
  have HB1 := Lib.hid (((Below.refl B w).alloc hs _).grown hgrow1 (by simp; omega) (fun k hk => by obtain rfl := Option.some.inj hk; exact hB))
  have HO1 := Lib.hid hown1
  have HG1 := Lib.hid hgrow1
  clear hown1 hgrow1
  go_upto_region 28 with (first | (at_builtin; refine wpList_append_fits _ rfl _ _ 83 rfl B 5 i0 1 Tryz.underlying83 hi hz1 D 1 24 (u8s [49]) rfl (HO1.out.alloc _) ⟨w1.heap.size, 0, none⟩ 1 1 (u8s [46]) rfl rfl (news_at _ (u8s [46]) _) (u8s_one _) (by decide) ?_; intro w2 hown2 hgrow2))
  have HB2 := Lib.hid ((HB1.out.alloc (by have := HB1.out.size; omega) _).grown hgrow2 (by have := HB1.out.size; simp; omega) (fun k hk => by obtain rfl := Option.some.inj hk; exact hB))
  have HO2 := Lib.hid hown2
  have HG2 := Lib.hid hgrow2
  clear hown2 hgrow2
  have C2 : Hid (∀ j u, (u8s [53])[j]? = some u → w2.cell? ((⟨g, 1, none⟩ : Addr).add j) = some u) := Lib.hid (fun j u hu => by
    match j, hu with
    | 0, hu =>
      obtain rfl : Value.int .u8 53 = u := Option.some.inj hu
      rw [show ((⟨g, 1, none⟩ : Addr).add 0) = ⟨g, 1, none⟩ from rfl]
      exact HG2.out.cell (cell_keep ((Below.refl _ _).alloc (Nat.le_refl _) _) (HG1.out.cell (cell_keep ((Below.refl _ _).alloc (Nat.le_refl _) _) C1.out) (fun e => hne (Option.some.inj e)))) (fun e => hne (Option.some.inj e))
    | (j + 1), hu => simp [u8s] at hu)
  go_upto_region 34 with (first | (at_builtin; refine wpList_append_fits _ rfl _ _ 83 rfl B 5 i0 1 Tryz.underlying83 hi hz1 D 2 24 (u8s [49, 46]) rfl HO2.out ⟨g, 1, none⟩ 1 23 (u8s [53]) rfl rfl ?c1 (u8s_one _) (by decide) ?_; (case c1 => exact C2.out); intro w3 hown3 hgrow3))
  have HB3 := Lib.hid (HB2.out.grown hgrow3 (by have := HB2.out.size; omega) (fun k hk => by obtain rfl := Option.some.inj hk; exact hB))
  have HO3 := Lib.hid hown3
  have HG3 := Lib.hid hgrow3
  clear hown3 hgrow3
  refine wp_loop_rounds 1 ?_
  rw [rounds_succ]
  go_upto_region 38 with (first | (at_builtin; refine wpList_append_fits _ rfl _ _ 83 rfl B 5 i0 1 Tryz.underlying83 hi hz1 D 3 24 (u8s [49, 46, 53]) rfl (HO3.out.alloc _) ⟨w3.heap.size, 0, none⟩ 1 1 (u8s [101]) rfl rfl (news_at _ (u8s [101]) _) (u8s_one _) (by decide) ?_; intro w4 hown4 hgrow4))
  have HB4 := Lib.hid ((HB3.out.alloc (by have := HB3.out.size; omega) _).grown hgrow4 (by have := HB3.out.size; simp; omega) (fun k hk => by obtain rfl := Option.some.inj hk; exact hB))
  have HO4 := Lib.hid hown4
  have HG4 := Lib.hid hgrow4
  clear hown4 hgrow4
  go_upto_region 47 with (first | (at_builtin; refine wpList_append_fits _ rfl _ _ 83 rfl B 5 i0 1 Tryz.underlying83 hi hz1 D 4 24 (u8s [49, 46, 53, 101]) rfl (HO4.out.alloc _) ⟨w4.heap.size, 0, none⟩ 1 1 (u8s [43]) rfl rfl (news_at _ (u8s [43]) _) (u8s_one _) (by decide) ?_; intro w5 hown5 hgrow5))
  have HB5 := Lib.hid ((HB4.out.alloc (by have := HB4.out.size; omega) _).grown hgrow5 (by have := HB4.out.size; simp; omega) (fun k hk => by obtain rfl := Option.some.inj hk; exact hB))
  have HO5 := Lib.hid hown5
  have HG5 := Lib.hid hgrow5
  clear hown5 hgrow5
  go_wp2_with (first | (at_builtin; refine wpList_append_fits _ rfl _ _ 83 rfl B 5 i0 1 Tryz.underlying83 hi hz1 D 5 24 (u8s [49, 46, 53, 101, 43]) rfl (HO5.out.alloc _) ⟨w5.heap.size, 0, none⟩ 2 2 (u8s [48, 50]) rfl rfl (news_at _ (u8s [48, 50]) _) (u8s_one _) (by decide) ?_; intro w6 hown6 hgrow6))
  have HB6 := Lib.hid ((HB5.out.alloc (by have := HB5.out.size; omega) _).grown hgrow6 (by have := HB5.out.size; simp; omega) (fun k hk => by obtain rfl := Option.some.inj hk; exact hB))
  have HO6 := Lib.hid hown6
  have HG6 := Lib.hid hgrow6
  clear hown6 hgrow6
  go_ret
  exact ⟨rfl, HO6.out, HB6.out⟩

end Go.Proofs.YtpgfogfejemojaaGreatDoor
