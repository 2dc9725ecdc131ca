/-
  The methods of text.Str at a string of the characters l: Len, Wide, char, At.
-/
import Derived.Test.YtjpnkffdpcfnjaaDoorPlain
import Derived.Test.YtjpnkffdpcfnjaaDoorBuild
import Derived.Deep.QuietTactic
import Derived.BigQuiet
import Derived.WalkSpells
import Derived.Outline
import Derived.Lib.Hide
set_option linter.unusedVariables false
namespace Go.Proofs.YtjpnkffdpcfnjaaDoor
open Go.RowKit Go.Lib

theorem ret_int {k : IntKind} {a b : Int} (h : a = b) : Ending.returned (.int k a) = .returned (.int k b) := by rw [h]

set_option maxHeartbeats 400000 in
theorem len_wide (d : ByteArray) (hd : d.size ≤ 4611686018427387904) (w : World) :
    Calls Tryd.prog 17 #[.agg #[.string d, .bool true]] w fun e w' => e = .returned (.int .i64 ((d.size / 3 : Nat) : Int)) ∧ Below w.heap.size w w' := by
  go_enter Tryd.func17, Tryd.ntmps17
  go_wp2
  go_ret
  exact ⟨ret_int (by omega), (Below.refl _ _).alloc (Nat.le_refl _) _⟩

set_option maxHeartbeats 400000 in
theorem len_narrow (d : ByteArray) (hd : d.size ≤ 4611686018427387904) (w : World) :
    Calls Tryd.prog 17 #[.agg #[.string d, .bool false]] w fun e w' => e = .returned (.int .i64 (d.size : Int)) ∧ Below w.heap.size w w' := by
  go_enter Tryd.func17, Tryd.ntmps17
  go_wp2
  go_ret
  exact ⟨rfl, (Below.refl _ _).alloc (Nat.le_refl _) _⟩

set_option maxHeartbeats 400000 in
theorem wide_any (d : ByteArray) (b : Bool) (w : World) :
    Calls Tryd.prog 22 #[.agg #[.string d, .bool b]] w fun e w' => e = .returned (.bool b) ∧ Below w.heap.size w w' := by
  go_enter Tryd.func22, Tryd.ntmps22
  go_wp2
  go_ret
  exact ⟨rfl, (Below.refl _ _).alloc (Nat.le_refl _) _⟩

theorem below_drewN {B : Nat} {a w : World} (h : Below B a w) (n : Nat) : Below B a (w.drewN n) := ⟨h.os, h.tape, h.output, h.size, h.block⟩

theorem wrap32_byte (b : UInt8) : wrap32 (b.toNat : Int) = (b.toNat : Int) := by
  have := b.toNat_lt
  unfold wrap32
  omega

set_option maxHeartbeats 400000 in
theorem char_narrow (d : ByteArray) (i : Nat) (hi : i < d.size) (hs : d.size ≤ 4611686018427387904) (w : World) :
    Calls Tryd.prog 28 #[.agg #[.string d, .bool false], .int .i64 i] w fun e w' => e = .returned (.int .i32 (d[i].toNat : Int)) ∧ Below w.heap.size w w' := by
  go_enter Tryd.func28, Tryd.ntmps28
  go_wp2
  go_ret
  exact ⟨ret_int (wrap32_byte _), (Below.refl _ _).alloc (Nat.le_refl _) _⟩

theorem or3 (a b c : UInt8) : bits BinOp.or IntKind.i32 (bits BinOp.or IntKind.i32 (wrap32 (wrap32 (a.toNat : Int) * 65536)) (wrap32 (wrap32 (b.toNat : Int) * 256))) (wrap32 (c.toNat : Int)) = (a.toNat : Int) * 65536 + (b.toNat : Int) * 256 + (c.toNat : Int) := by
  have ha := a.toNat_lt
  have hb := b.toNat_lt
  have hc := c.toNat_lt
  simp only [wrap32_byte]
  rw [show wrap32 ((a.toNat : Int) * 65536) = (a.toNat : Int) * 65536 by unfold wrap32; omega, show wrap32 ((b.toNat : Int) * 256) = (b.toNat : Int) * 256 by unfold wrap32; omega]
  rw [bits_join .i32 31 (by decide) wraps_i32 16 ((a.toNat : Int) * 65536) ((b.toNat : Int) * 256) (by omega) (by omega) (by omega) (by omega) (by omega) (by omega)]
  rw [bits_join .i32 31 (by decide) wraps_i32 8 ((a.toNat : Int) * 65536 + (b.toNat : Int) * 256) (c.toNat : Int) (by omega) (by omega) (by omega) (by omega) (by omega) (by omega)]

theorem extract_get (d : ByteArray) (k j : Nat) (h : k + j < d.size) (h' : j < (d.extract k d.size).size) : (d.extract k d.size)[j]'h' = d[k + j] := by
  simp [ByteArray.getElem_extract]

set_option maxHeartbeats 400000 in
theorem char_wide (d : ByteArray) (i : Nat) (hi : 3 * i + 2 < d.size) (hs : d.size ≤ 4611686018427387904) (w : World) :
    Calls Tryd.prog 28 #[.agg #[.string d, .bool true], .int .i64 i] w fun e w' => e = .returned (.int .i32 ((d[3 * i].toNat : Int) * 65536 + (d[3 * i + 1].toNat : Int) * 256 + (d[3 * i + 2].toNat : Int))) ∧ Below w.heap.size w w' := by
  go_enter Tryd.func28, Tryd.ntmps28
  go_wp2
  have hx : 2 < (d.extract (i * 3) d.size).size := by simp; omega
  have e0 : ∀ h : 0 < (d.extract (i * 3) d.size).size, (d.extract (i * 3) d.size)[0]'h = d[3 * i + 0] := fun h => (extract_get d (i * 3) 0 (by omega) h).trans (by simp only [Nat.mul_comm i 3])
  have e1 : ∀ h : 1 < (d.extract (i * 3) d.size).size, (d.extract (i * 3) d.size)[1]'h = d[3 * i + 1] := fun h => (extract_get d (i * 3) 1 (by omega) h).trans (by simp only [Nat.mul_comm i 3])
  have e2 : ∀ h : 2 < (d.extract (i * 3) d.size).size, (d.extract (i * 3) d.size)[2]'h = d[3 * i + 2] := fun h => (extract_get d (i * 3) 2 (by omega) h).trans (by simp only [Nat.mul_comm i 3])
  generalize d.extract (i * 3) d.size = t at hx e0 e1 e2
  have E0 := Lib.hid e0
  have E1 := Lib.hid e1
  have E2 := Lib.hid e2
  clear e0 e1 e2
  have hx0 : 0 < t.size := by omega
  have hx1 : (1 : Int) < (t.size : Int) := by omega
  have hx2 : (2 : Int) < (t.size : Int) := by omega
  go_quiet (fail)
  go_wp2
  go_ret
  refine ⟨?_, below_drewN ((Below.refl _ _).alloc (Nat.le_refl _) _) _⟩
  refine ret_int ?_
  refine (or3 t[0] t[1] t[2]).trans ?_
  rw [E0.out, E1.out, E2.out]
  rfl

/-- The Go value of the string of the characters l. -/
def strV (l : List Nat) : Value := .agg #[.string (pk l), .bool (wideL l)]

theorem len_any (l : List Nat) (hl : l.length ≤ 1000000000) (w : World) :
    Calls Tryd.prog 17 #[strV l] w fun e w' => e = .returned (.int .i64 (l.length : Int)) ∧ Below w.heap.size w w' := by
  have hs := pk_size l
  unfold strV
  cases hw : wideL l <;> rw [hw] at hs
  · simp only [Bool.false_eq_true, if_false] at hs
    rw [← hs]
    exact len_narrow (pk l) (by omega) w
  · simp only [if_true] at hs
    rw [show ((l.length : Nat) : Int) = (((pk l).size / 3 : Nat) : Int) by omega]
    exact len_wide (pk l) (by omega) w

theorem charW_any (l : List Nat) (w : World) :
    Calls Tryd.prog 22 #[strV l] w fun e w' => e = .returned (.bool (wideL l)) ∧ Below w.heap.size w w' := wide_any _ _ w

theorem char_any (l : List Nat) (i : Nat) (hi : i < l.length) (hl : l.length ≤ 1000000000) (hc : ∀ c ∈ l, c < 16777216) (w : World) :
    Calls Tryd.prog 28 #[strV l, .int .i64 i] w fun e w' => e = .returned (.int .i32 (l[i] : Int)) ∧ Below w.heap.size w w' := by
  have hs := pk_size l
  unfold strV
  cases hw : wideL l <;> rw [hw] at hs
  · simp only [Bool.false_eq_true, if_false] at hs
    have h := char_narrow (pk l) i (by omega) (by omega) w
    rw [pk_get l i hw hi (by omega)] at h
    exact h
  · simp only [if_true] at hs
    have h := char_wide (pk l) i (by omega) (by omega) w
    have e0 := pk_get3 l i 0 hw hi (by omega) (by omega)
    have e1 := pk_get3 l i 1 hw hi (by omega) (by omega)
    have e2 := pk_get3 l i 2 hw hi (by omega) (by omega)
    simp only [Nat.add_zero] at e0
    rw [e0, e1, e2] at h
    have hx := hc l[i] (List.getElem_mem hi)
    refine h.mono fun e w' ⟨he, hb⟩ => ⟨he.trans (ret_int ?_), hb⟩
    simp [three]
    omega
end Go.Proofs.YtjpnkffdpcfnjaaDoor
