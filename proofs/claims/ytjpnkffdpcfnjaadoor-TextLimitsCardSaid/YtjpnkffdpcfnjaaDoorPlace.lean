/-
  text.Place and the reference's Place: lines and columns.
-/
import Derived.Test.YtjpnkffdpcfnjaaDoorDecode
set_option linter.unusedVariables false
namespace Go.Proofs.YtjpnkffdpcfnjaaDoor
open Go.RowKit

def lineN (s : ByteArray) : Nat → Nat
  | 0 => 1
  | k + 1 => if byteAt s k = 10 then lineN s k + 1 else lineN s k
def beginN (s : ByteArray) : Nat → Nat
  | 0 => 0
  | k + 1 => if byteAt s k = 10 then k + 1 else beginN s k

theorem beginN_le (s : ByteArray) (k : Nat) : beginN s k ≤ k := by
  induction k with
  | zero => exact Nat.le_refl _
  | succ k ih => unfold beginN; split <;> omega

theorem lineN_le (s : ByteArray) (k : Nat) : lineN s k ≤ k + 1 := by
  induction k with
  | zero => exact Nat.le_refl _
  | succ k ih => unfold lineN; split <;> omega

theorem count_line (s : ByteArray) (k : Nat) (h : k ≤ s.size) : 1 + Lib.countByte (s.extract 0 k).data.toList 10 = lineN s k := by
  induction k with
  | zero => simp [Lib.countByte, lineN]
  | succ k ih =>
    have h' : k < s.size := by omega
    have e : (s.extract 0 (k + 1)).data.toList = (s.extract 0 k).data.toList ++ [s[k]] := by
      simp only [ByteArray.data_extract]
      rw [Array.toList_extract, Array.toList_extract]
      simp only [List.extract_eq_take_drop, Nat.sub_zero, List.drop_zero]
      rw [List.take_succ_eq_append_getElem (by simpa using h')]
      simp [ByteArray.getElem_eq_getElem_data]
    have hi : 1 + List.count 10 (s.extract 0 k).data.toList = lineN s k := ih (by omega)
    have hb := byteAt_eq s k h'
    show 1 + List.count 10 (s.extract 0 (k + 1)).data.toList = _
    unfold lineN
    rw [e, List.count_append]
    by_cases hc : s[k] = 10
    · have : byteAt s k = 10 := by rw [← hb, hc]; rfl
      rw [if_pos this, hc, List.count_singleton_self]
      omega
    · have : byteAt s k ≠ 10 := by
        rw [← hb]
        intro hh
        exact hc (UInt8.toNat_inj.1 hh)
      rw [if_neg this, show List.count 10 [s[k]] = 0 from by simp [List.count_singleton]; exact fun h => hc h]
      omega

theorem last_begin (s : ByteArray) (n k : Nat) (h : k ≤ n) (hn : n ≤ s.size) : Lib.lastIdx (s.extract 0 n) 10 k + 1 = (beginN s k : Int) := by
  induction k with
  | zero => rfl
  | succ k ih =>
    have hi := ih (by omega)
    have h' : k < s.size := by omega
    have e : ((s.extract 0 n).data[k]!).toNat = byteAt s k := by
      have : (s.extract 0 n).data[k]! = s.get! k := by
        simp only [ByteArray.get!, ByteArray.data_extract]
        rw [getElem!_def, getElem!_def, Array.getElem?_extract, if_pos (by have : s.data.size = s.size := rfl; omega)]
        simp
      rw [this]; rfl
    unfold Lib.lastIdx beginN
    rw [e]
    by_cases hc : byteAt s k = 10
    · rw [if_pos hc, if_pos (by omega)]; rfl
    · rw [if_neg hc, if_neg (by omega)]; exact hi

theorem runeCount_decs (s : ByteArray) : Lib.runeCount s = (decs s).length := by
  unfold Lib.runeCount decs
  generalize s.size = f
  generalize 0 = pos
  induction f generalizing pos with
  | zero => rfl
  | succ f ih =>
    unfold Lib.runeCountFrom decF
    split
    · rw [ih]; simp; omega
    · rfl

theorem decs_len (s : ByteArray) : (decs s).length ≤ s.size := decF_len s _ _

theorem ret2 {k k' : IntKind} {a b c d : Int} (h1 : a = b) (h2 : c = d) : Ending.returned (.tuple #[.int k a, .int k' c]) = .returned (.tuple #[.int k b, .int k' d]) := by rw [h1, h2]
theorem ret3 {k k' : IntKind} {a b c d : Int} {x : Value} (h1 : a = b) (h2 : c = d) : Ending.returned (.tuple #[.int k a, .int k' c, x]) = .returned (.tuple #[.int k b, .int k' d, x]) := by rw [h1, h2]

def colN (s : ByteArray) (k : Nat) : Nat := 1 + (decs (s.extract (beginN s k) k)).length

set_option maxHeartbeats 1000000 in
theorem place_ok (s : ByteArray) (hl : s.size ≤ 1000000000) (k : Nat) (hk : k ≤ s.size) (w : World) :
    Calls Tryd.prog 25 #[.string s, .int .i64 k] w fun e w' => e = .returned (.tuple #[.int .i64 (lineN s k : Int), .int .i64 (colN s k : Int), .int .i64 0]) ∧ Below w.heap.size w w' := by
  have hlast := last_begin s k k (Nat.le_refl _) hk
  have hcnt := count_line s k hk
  have hble := beginN_le s k
  have hrc := runeCount_decs (s.extract (beginN s k) k)
  have hsz : (s.extract 0 k).size = k := by simp; omega
  have hli : Lib.lastIndexByte (s.extract 0 k) 10 = (beginN s k : Int) - 1 := by
    unfold Lib.lastIndexByte
    rw [hsz]; omega
  have hex : (s.extract 0 k).extract (beginN s k) k = s.extract (beginN s k) k := by
    rw [ByteArray.extract_extract]
    congr 1 <;> omega
  have hl1 := Tryd.strings_LastIndexByte (s.extract 0 k) 10 (by omega) w
  have hc1 := Tryd.strings_Count_one (s.extract 0 k) 10 w
  have hr1 := Tryd.utf8_RuneCountInString (s.extract (beginN s k) k) w (by simp; omega)
  rw [hli] at hl1
  rw [hrc] at hr1
  have hln := lineN_le s k
  have hdl := decs_len (s.extract (beginN s k) k)
  have hes : (s.extract (beginN s k) k).size = k - beginN s k := by simp; omega
  rw [hes] at hdl
  have hfin : colN s k = 1 + (decs (s.extract (beginN s k) k)).length := rfl
  have hcn : Lib.countByte (s.extract 0 k).data.toList 10 = lineN s k - 1 := by omega
  rw [hcn] at hc1
  have hex2 : (s.extract 0 k).extract (beginN s k) (s.extract 0 k).size = s.extract (beginN s k) k := by rw [hsz]; exact hex
  have HL := Lib.hid hl1
  have HC := Lib.hid hc1
  have HR := Lib.hid hr1
  have HX := Lib.hid hex2
  have HF := Lib.hid hfin
  have hsz1 : k ≤ (s.extract 0 k).size := by omega
  clear hl1 hc1 hr1 hex hex2 hfin hcn hcnt hlast hli hrc hes hsz
  have hkI : (k : Int) ≤ (s.size : Int) := by omega
  go_enter Tryd.func25, Tryd.ntmps25
  go_wp2_with fail
  refine HL.out.mono ?_
  rintro e w1 ⟨rfl, rfl⟩
  generalize (decs (s.extract (beginN s k) k)).length = dn at HR hdl HF
  generalize s.extract (beginN s k) k = line at HR HX
  generalize beginN s k = b at HX hble hdl ⊢
  generalize s.extract 0 k = before at HC HX hsz1 ⊢
  clear HL
  have hb2 : b ≤ before.size := by omega
  go_wp2_with fail
  refine HC.out.mono ?_
  rintro e w2 ⟨rfl, rfl⟩
  go_wp2_with fail
  rw [HX.out]
  refine HR.out.mono ?_
  rintro e w3 ⟨rfl, pos, rfl⟩
  have hl1 : 1 ≤ lineN s k := by
    have : ∀ j, 1 ≤ lineN s j := fun j => by
      induction j with
      | zero => exact Nat.le_refl _
      | succ j ih => unfold lineN; split <;> omega
    exact this k
  have HL1 := Lib.hid hl1
  clear hl1
  go_wp2
  go_ret3
  refine ⟨?_, ?_⟩
  · have h1 := HL1.out
    have h2 := HF.out
    have e1 : (1 : Int) + ((lineN s k - 1 : Nat) : Int) = (lineN s k : Int) := by omega
    have e2 : (1 : Int) + (dn : Int) = (colN s k : Int) := by omega
    exact ret3 e1 e2
  · exact (Below.refl _ _).alloc (Nat.le_refl _) _

set_option maxHeartbeats 400000 in
theorem place_no (s : ByteArray) (hl : s.size ≤ 1000000000) (a : Int) (h : a < 0 ∨ (s.size : Int) < a) (w : World) :
    Calls Tryd.prog 25 #[.string s, .int .i64 a] w fun e w' => e = .returned (.tuple #[.int .i64 0, .int .i64 0, .int .i64 11]) ∧ Below w.heap.size w w' := by
  by_cases h0 : a < 0
  · clear h
    go_enter Tryd.func25, Tryd.ntmps25
    go_wp2
    go_ret3
    exact ⟨rfl, Below.refl _ _⟩
  · have h1 : (s.size : Int) < a := by omega
    clear h
    have hd : decide (a < 0) = false := by simpa using h0
    go_enter Tryd.func25, Tryd.ntmps25
    go_wp2
    go_ret3
    exact ⟨rfl, Below.refl _ _⟩

end Go.Proofs.YtjpnkffdpcfnjaaDoor
