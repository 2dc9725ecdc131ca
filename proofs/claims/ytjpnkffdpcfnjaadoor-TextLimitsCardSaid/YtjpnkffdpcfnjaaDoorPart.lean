/-
  text.narrowed, text.Str.part, text.Str.Slice.
-/
import Derived.Test.YtjpnkffdpcfnjaaDoorLatin
set_option linter.unusedVariables false
namespace Go.Proofs.YtjpnkffdpcfnjaaDoor
open Go.RowKit

def sub (l : List Nat) (i j : Nat) : List Nat := (l.drop i).take (j - i)

theorem sub_len (l : List Nat) (i j : Nat) (h : i ≤ j) (hj : j ≤ l.length) : (sub l i j).length = j - i := by
  unfold sub; simp; omega

theorem sub_mem {l : List Nat} {i j c : Nat} (h : c ∈ sub l i j) : c ∈ l := List.mem_of_mem_drop (List.mem_of_mem_take h)

theorem threes_drop (l : List Nat) (i : Nat) : (l.flatMap three).drop (3 * i) = (l.drop i).flatMap three := by
  induction i generalizing l with
  | zero => rfl
  | succ i ih =>
    cases l with
    | nil => simp
    | cons c l =>
      rw [show 3 * (i + 1) = 3 * i + 3 by omega]
      show ((three c ++ l.flatMap three).drop (3 * i + 3)) = _
      rw [Nat.add_comm, ← List.drop_drop]
      simp only [List.drop_succ_cons]
      rw [← ih l]
      rfl

theorem threes_take (l : List Nat) (i : Nat) : (l.flatMap three).take (3 * i) = (l.take i).flatMap three := by
  induction i generalizing l with
  | zero => rfl
  | succ i ih =>
    cases l with
    | nil => simp
    | cons c l =>
      have e : (c :: l).flatMap three = UInt8.ofNat (c / 65536) :: UInt8.ofNat (c / 256) :: UInt8.ofNat c :: l.flatMap three := rfl
      have e2 : (c :: l.take i).flatMap three = UInt8.ofNat (c / 65536) :: UInt8.ofNat (c / 256) :: UInt8.ofNat c :: (l.take i).flatMap three := rfl
      rw [show 3 * (i + 1) = 3 * i + 1 + 1 + 1 by omega, List.take_succ_cons, e, e2, ← ih l]
      simp only [List.take_succ_cons]

theorem extract_list (l : List UInt8) (i j : Nat) : (⟨l.toArray⟩ : ByteArray).extract i j = ⟨((l.drop i).take (j - i)).toArray⟩ := by
  apply ByteArray.ext
  simp only [ByteArray.data_extract]
  apply Array.ext'
  rw [Array.toList_extract]

theorem sub_wide_bytes (l : List Nat) (i j : Nat) (h : i ≤ j) : (⟨(packW true l).toArray⟩ : ByteArray).extract (3 * i) (3 * j) = ⟨(packW true (sub l i j)).toArray⟩ := by
  rw [extract_list]
  congr 2
  show ((l.flatMap three).drop (3 * i)).take (3 * j - 3 * i) = (sub l i j).flatMap three
  rw [threes_drop, show 3 * j - 3 * i = 3 * (j - i) by omega, threes_take]
  rfl

theorem sub_narrow_bytes (l : List Nat) (i j : Nat) : (⟨(l.map UInt8.ofNat).toArray⟩ : ByteArray).extract i j = ⟨((sub l i j).map UInt8.ofNat).toArray⟩ := by
  rw [extract_list]
  congr 2
  simp [sub, List.map_drop, List.map_take]

theorem wide_iff (l : List Nat) : wideL l = true ↔ ∃ k, ∃ h : k < l.length, 255 < l[k] := by
  unfold wideL
  rw [List.any_eq_true]
  constructor
  · rintro ⟨c, hc, h⟩
    obtain ⟨k, hk, rfl⟩ := List.getElem_of_mem hc
    exact ⟨k, hk, by simpa using h⟩
  · rintro ⟨k, hk, h⟩
    exact ⟨l[k], List.getElem_mem hk, by simpa using h⟩

theorem packT_get (l : List Nat) (k j : Nat) (hk : k < l.length) (hj : j < 3) (h : 3 * k + j < (⟨(packW true l).toArray⟩ : ByteArray).size) : ((⟨(packW true l).toArray⟩ : ByteArray)[3 * k + j]'h).toNat = ((three l[k])[j]'(by simpa [three] using hj)).toNat := by
  have e : (l.flatMap three)[3 * k + j]? = (three l[k])[j]? := threes_get l k j hk hj
  have hp' : 3 * k + j < (l.flatMap three).length := by rw [threes_length]; omega
  have hj' : j < (three l[k]).length := by simpa [three] using hj
  rw [List.getElem?_eq_getElem hp', List.getElem?_eq_getElem hj'] at e
  rw [← Option.some.inj e]
  rfl

theorem packT_size (l : List Nat) : (⟨(packW true l).toArray⟩ : ByteArray).size = 3 * l.length := by
  rw [size_list]
  exact threes_length l

def NRel (l : List Nat) (w : World) (o : Obj) (b i : Value) (wr : World) : Prop :=
  ∃ k : Nat, k ≤ l.length ∧ i = .int .i64 (3 * (k : Int)) ∧ wideL (l.take k) = false ∧ wr.ownsRow (w.heap.size + 1) 5 1 b k (Lib.byteCells ((l.take k).map UInt8.ofNat)) ∧ Below (w.heap.size + 1) (w.alloc o) wr

set_option maxHeartbeats 2000000 in
theorem narrowed_any (l : List Nat) (hl : l.length ≤ 65536) (hc : ∀ c ∈ l, c < 16777216) (w : World) :
    Calls Tryd.prog 55 #[.string ⟨(packW true l).toArray⟩] w fun e w' => e = .returned (strV l) ∧ Below w.heap.size w w' := by
  obtain ⟨i0, hi, hz0, hz1, hz2⟩ := info_parts infoByte
  have hsz := packT_size l
  have hg0 : ∀ k (h : k < l.length) h', ((⟨(packW true l).toArray⟩ : ByteArray)[3 * k]'h').toNat = l[k] / 65536 := fun k h h' => by
    refine (packT_get l k 0 h (by omega) h').trans ?_
    have := hc l[k] (List.getElem_mem h); simp [three]; omega
  have hg1 : ∀ k (h : k < l.length) h', ((⟨(packW true l).toArray⟩ : ByteArray)[3 * k + 1]'h').toNat = l[k] / 256 % 256 := fun k h h' => by
    rw [packT_get l k 1 h (by omega) h']; simp [three]
  have hg2 : ∀ k (h : k < l.length) h', ((⟨(packW true l).toArray⟩ : ByteArray)[3 * k + 2]'h').toNat = l[k] % 256 := fun k h h' => by
    rw [packT_get l k 2 h (by omega) h']; simp [three]
  have hfw : wideL l = true → strV l = .agg #[.string ⟨(packW true l).toArray⟩, .bool true] := fun h => by simp [strV, pk, packB, packW, h]
  have hfn : wideL l = false → strV l = .agg #[.string ⟨(l.map UInt8.ofNat).toArray⟩, .bool false] := fun h => by simp [strV, pk, packB, h]
  generalize (⟨(packW true l).toArray⟩ : ByteArray) = d at *
  have hlI : (d.size : Int) ≤ 196608 := by omega
  have HG0 := Lib.hid hg0
  have HG1 := Lib.hid hg1
  have HG2 := Lib.hid hg2
  have HFW := Lib.hid hfw
  have HFN := Lib.hid hfn
  have HSZ := Lib.hid hsz
  have HC := Lib.hid hc
  clear hg0 hg1 hg2 hfw hfn hsz hc
  go_enter Tryd.func55, Tryd.ntmps55
  go_wp2
  go_loopw [3, 4] (fun b i wr => NRel l w (Obj.cells #[Value.string ⟨#[]⟩, Value.bool false] 24) b i wr) (fun _ i _ => 3 * l.length + 3 - (intOf i).toNat)
  case atStart => exact ⟨0, Nat.zero_le _, rfl, rfl, World.ownsRow_nil _ _ _ _, Below.refl _ _⟩
  case round =>
    obtain ⟨k, hk, rfl, hw, hown, hbel⟩ := hrel
    have hsz : w.heap.size + 1 ≤ wr.heap.size := by have := hbel.size; simpa using this
    have hd0 : wr.cell? ⟨w.heap.size, 0, none⟩ = some (.string ⟨#[]⟩) := by
      rw [hbel.cell (p := ⟨w.heap.size, 0, none⟩) (by show w.heap.size < _; omega), World.cell?_alloc_at _ _ _ _ rfl]; rfl
    have hd1 : wr.cell? ⟨w.heap.size, 1, none⟩ = some (.bool false) := by
      rw [hbel.cell (p := ⟨w.heap.size, 1, none⟩) (by show w.heap.size < _; omega), World.cell?_alloc_at _ _ _ _ rfl]; rfl
    have hf0 : wr.frozen? ⟨w.heap.size, 0, none⟩ = false := by
      rw [hbel.frozen (p := ⟨w.heap.size, 0, none⟩) (by show w.heap.size < _; omega)]; exact World.frozen?_alloc_at _ _ _ _ rfl
    have hf1 : wr.frozen? ⟨w.heap.size, 1, none⟩ = false := by
      rw [hbel.frozen (p := ⟨w.heap.size, 1, none⟩) (by show w.heap.size < _; omega)]; exact World.frozen?_alloc_at _ _ _ _ rfl
    have hbw : Below w.heap.size w wr := ((Below.refl _ _).alloc (Nat.le_refl _) _).trans (hbel.mono (Nat.le_succ _))
    by_cases hlt : k < l.length
    · have hk2 : 3 * k + 2 < d.size := by have := HSZ.out; omega
      have h0 := HG0.out k hlt (by omega)
      have h1 := HG1.out k hlt (by omega)
      have h2 := HG2.out k hlt (by omega)
      have hcl := HC.out l[k] (List.getElem_mem hlt)
      have hkI : 3 * (k : Int) < (d.size : Int) := by omega
      have hkI1 : 3 * (k : Int) + 1 < (d.size : Int) := by omega
      have hkI2 : 3 * (k : Int) + 2 < (d.size : Int) := by omega
      by_cases hbig : 255 < l[k]
      · have hwl : wideL l = true := wideL_of l k hlt hbig
        have hs := HFW.out hwl
        have hq : ((d[3 * k].toNat : Int) != 0) = true ∨ (((d[3 * k].toNat : Int) != 0) = false ∧ ((d[3 * k + 1].toNat : Int) != 0) = true) := by
          by_cases hz : l[k] / 65536 = 0
          · right; rw [h0, h1]; simp; omega
          · left; rw [h0]; simp; omega
        have HS := Lib.hid hs
        have hs0 := cell_zero wr w.heap.size (.string d) (.bool true) hd0
        have hs1 := cell_two wr w.heap.size (.string d) (.bool true) hd1
        clear h0 h1 h2 hcl hs hw hbel
        rcases hq with hq | ⟨hq, hq2⟩
        all_goals
          go_wp2
          refine bodyPost_ret (v := .agg #[.string d, .bool true]) (by simp [results, Tryd.results55, go_sem, hs0, hs1]) rfl ⟨by rw [HS.out], ?_⟩
          exact (hbw.setCell (p := ⟨w.heap.size, 0, none⟩) (Nat.le_refl _) _).setCell (p := ⟨w.heap.size, 1, none⟩) (Nat.le_refl _) _
      · have hq1 : ((d[3 * k].toNat : Int) != 0) = false := by rw [h0]; simp; omega
        have hq2 : ((d[3 * k + 1].toNat : Int) != 0) = false := by rw [h1]; simp; omega
        have h22 : (d[3 * k + 2].toNat : Int) = (l[k] : Int) := by rw [h2]; omega
        have hcell : Lib.byteCells ((l.take (k + 1)).map UInt8.ofNat) = Lib.byteCells ((l.take k).map UInt8.ofNat) ++ [.int .u8 (d[3 * k + 2].toNat : Int)] := by
          rw [List.take_succ_eq_append_getElem hlt, List.map_append, Lib.byteCells_append, h22]
          simp [Lib.byteCells]
          omega
        have hwt := wideL_take l k hlt
        rw [hw, Bool.false_or] at hwt
        have HWT := Lib.hid hwt
        have HCL := Lib.hid hcell
        have hsz1 := hsz
        clear h0 h1 h2 hcl hw h22 hcell hwt hd0 hd1 hf0 hf1
        go_wp2_with (at_builtin; refine wpList_append_own _ rfl _ _ 40 rfl (w.heap.size + 1) 5 i0 (.int .u8 0) 1 1 Tryd.underlying40 hi hz0 hz1 hz2 rfl (by decide) _ _ _ rfl (hown.alloc _) ⟨wr.heap.size, 0, none⟩ 1 1 [.int .u8 (d[3 * k + 2].toNat : Int)] rfl rfl ?c1 ?c2 ?c3 ?c4 ?c5 ?_)
        case c1 =>
          intro j u hj
          match j, hj with
          | 0, hj => simp at hj; subst hj; simp [Addr.add]
        case c2 => intro u hu; simp at hu; subst hu; rfl
        case c3 => unfold maxLen; omega
        case c4 => omega
        case c5 => simp; omega
        intro v' w1 hown' hgrow _
        have hb1 := below_append hbel (by simp) hown hgrow
        clear hbel hown
        go_wp2
        go_roundw
        case rel =>
          refine ⟨k + 1, by omega, by congr 1, by rw [HWT.out]; simpa using hbig, ?_, hb1⟩
          rw [HCL.out]
          rw [← List.map_take] at hown'
          exact hown'
        case measure => simp [intOf]; omega
    · obtain rfl : k = l.length := by omega
      rw [List.take_length] at hw hown
      have hs := HFN.out hw
      have hcv := convert_row (l := l.map UInt8.ofNat) (by simpa using hown)
      generalize (⟨(l.map UInt8.ofNat).toArray⟩ : ByteArray) = t at hs hcv
      have hs0 := cell_zero wr w.heap.size (.string t) (.bool false) hd0
      have hs1 := cell_two wr w.heap.size (.string t) (.bool false) hd1
      have hnd : ¬ (3 * (l.length : Int) < (d.size : Int)) := by have := HSZ.out; omega
      have HS := Lib.hid hs
      clear hs hw hbel hown
      go_wp2
      refine bodyPost_ret (v := .agg #[.string t, .bool false]) (by simp [results, Tryd.results55, go_sem, hs0, hs1]) rfl ⟨by rw [HS.out], ?_⟩
      exact (hbw.setCell (p := ⟨w.heap.size, 0, none⟩) (Nat.le_refl _) _).setCell (p := ⟨w.heap.size, 1, none⟩) (Nat.le_refl _) _

set_option maxHeartbeats 1000000 in
theorem part_any (l : List Nat) (hl : l.length ≤ 65536) (hc : ∀ c ∈ l, c < 16777216) (i j : Nat) (h : i ≤ j) (hj : j ≤ l.length) (w : World) :
    Calls Tryd.prog 41 #[strV l, .int .i64 i, .int .i64 j] w fun e w' => e = .returned (strV (sub l i j)) ∧ Below w.heap.size w w' := by
  have hs := pk_size l
  cases hw : wideL l
  · have e1 : strV l = .agg #[.string ⟨(l.map UInt8.ofNat).toArray⟩, .bool false] := by simp [strV, pk, packB, hw]
    have hsm := wide_small l hw
    have e2 := pk_narrow (sub l i j) (fun c hc' => by have := hsm c (sub_mem hc'); omega)
    have e3 := sub_narrow_bytes l i j
    have hsz : (⟨(l.map UInt8.ofNat).toArray⟩ : ByteArray).size = l.length := by rw [size_list]; simp
    rw [e1, e2, ← e3]
    generalize (⟨(l.map UInt8.ofNat).toArray⟩ : ByteArray) = d at *
    have g1 : (i : Int) ≤ (j : Int) := by omega
    have g2 : (j : Int) ≤ (d.size : Int) := by omega
    have g3 : j ≤ d.size := by omega
    clear e1 e2 e3 hsm hw hs hsz
    go_enter Tryd.func41, Tryd.ntmps41
    go_wp2
    refine bodyPost_ret (v := .agg #[.string (d.extract i j), .bool false]) (by simp [results, Tryd.results41, go_sem]) rfl ⟨rfl, ?_⟩
    exact ((Below.refl _ _).alloc (Nat.le_refl _) _).alloc (by simp) _
  · have e1 : strV l = .agg #[.string ⟨(packW true l).toArray⟩, .bool true] := by simp [strV, pk, packB, packW, hw]
    have e3 := sub_wide_bytes l i j h
    have hsz := packT_size l
    have hsl := sub_len l i j h hj
    have hn := narrowed_any (sub l i j) (by omega) (fun c hc' => hc c (sub_mem hc'))
    rw [e1]
    rw [← e3] at hn
    generalize (⟨(packW true l).toArray⟩ : ByteArray) = d at *
    have g1 : (i : Int) * 3 ≤ (j : Int) * 3 := by omega
    have g2 : (j : Int) * 3 ≤ (d.size : Int) := by omega
    have g3 : j * 3 ≤ d.size := by omega
    have g4 : (d.size : Int) ≤ 196608 := by omega
    unfold strV at hn ⊢
    rw [Nat.mul_comm 3 i, Nat.mul_comm 3 j] at hn
    generalize pk (sub l i j) = d2 at *
    generalize wideL (sub l i j) = wl at *
    have HN := Lib.hid hn
    clear e1 e3 hw hs hsz hsl hn
    go_enter Tryd.func41, Tryd.ntmps41
    go_wp2_with fail
    refine (HN.out _).mono ?_
    rintro e w1 ⟨rfl, hb1⟩
    have B1 := (((Below.refl w.heap.size w).alloc (Nat.le_refl _) (Obj.cells #[Value.string d, Value.bool true] 24)).alloc (by simp) (Obj.cells #[Value.string ⟨#[]⟩, Value.bool false] 24)).trans (hb1.mono (by simp; omega))
    have hd0 : w1.cell? ⟨w.heap.size + 1, 0, none⟩ = some (.string ⟨#[]⟩) := by
      rw [hb1.cell (p := ⟨w.heap.size + 1, 0, none⟩) (by simp), World.cell?_alloc_at _ _ _ _ (by simp)]; rfl
    have hd1 : w1.cell? ⟨w.heap.size + 1, 1, none⟩ = some (.bool false) := by
      rw [hb1.cell (p := ⟨w.heap.size + 1, 1, none⟩) (by simp), World.cell?_alloc_at _ _ _ _ (by simp)]; rfl
    have hf0 : w1.frozen? ⟨w.heap.size + 1, 0, none⟩ = false := by
      rw [hb1.frozen (p := ⟨w.heap.size + 1, 0, none⟩) (by simp)]; exact World.frozen?_alloc_at _ _ _ _ (by simp)
    have hf1 : w1.frozen? ⟨w.heap.size + 1, 1, none⟩ = false := by
      rw [hb1.frozen (p := ⟨w.heap.size + 1, 1, none⟩) (by simp)]; exact World.frozen?_alloc_at _ _ _ _ (by simp)
    have hs0 := cell_zero w1 (w.heap.size + 1) (.string d2) (.bool wl) hd0
    have hs1 := cell_two w1 (w.heap.size + 1) (.string d2) (.bool wl) hd1
    clear hb1
    go_wp2
    refine bodyPost_ret (v := .agg #[.string d2, .bool wl]) (by simp [results, Tryd.results41, go_sem, hs0, hs1]) rfl ⟨rfl, ?_⟩
    exact (B1.setCell (p := ⟨w.heap.size + 1, 0, none⟩) (Nat.le_succ _) _).setCell (p := ⟨w.heap.size + 1, 1, none⟩) (Nat.le_succ _) _
end Go.Proofs.YtjpnkffdpcfnjaaDoor
