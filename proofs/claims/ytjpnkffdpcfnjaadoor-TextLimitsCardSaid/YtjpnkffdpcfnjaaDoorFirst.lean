/-
  The reference's First: what is decoded first.
-/
import Derived.Test.YtjpnkffdpcfnjaaDoorRef
import Derived.Test.YtjpnkffdpcfnjaaDoorDec
import Derived.Deep.RegionWith
set_option linter.unusedVariables false
namespace Go.Proofs.YtjpnkffdpcfnjaaDoor
open Go.RowKit

def FirstPost (s : ByteArray) (w : World) (e : Ending) (w' : World) : Prop :=
  e = .returned (.tuple #[.int .i64 ((Utf8.decode s 0).1 : Int), .int .i64 ((Utf8.decode s 0).2 : Int)]) ∧ Below w.heap.size w w'

theorem firstPost_of {s : ByteArray} {w w' : World} {c n : Nat} {e : Ending} (h : Utf8.decode s 0 = (c, n)) (he : e = .returned (.tuple #[.int .i64 (c : Int), .int .i64 (n : Int)])) (hb : Below w.heap.size w w') : FirstPost s w e w' := by
  unfold FirstPost
  rw [h]
  exact ⟨he, hb⟩

theorem wrap64_byte (b : UInt8) : IntKind.i64.wrap (b.toNat : Int) = (b.toNat : Int) := by
  have := b.toNat_lt
  exact IntWalk.i64_in _ (by omega)

set_option maxRecDepth 100000 in
set_option maxHeartbeats 400000 in
theorem first_bad (s : ByteArray) (hs : 0 < s.size) (hl : s.size ≤ 1000000000) (h : (128 ≤ byteAt s 0 ∧ byteAt s 0 < 192) ∨ 248 ≤ byteAt s 0) (w : World) :
    Calls Tryd.prog 33 #[.string s] w (FirstPost s w) := by
  have hd := Lib.hid (dec_bad s h)
  have hb := byteAt_lt s 0
  have e0 := byteAt_eq s 0 hs
  have g2 : (s[0].toNat : Int) < 256 := by omega
  rcases h with h | h
  · have g0 : 128 ≤ (s[0].toNat : Int) := by omega
    have g1 : (s[0].toNat : Int) < 192 := by omega
    clear hb e0 h
    go_enter Tryd.func33, Tryd.ntmps33
    go_wp2
    go_ret2
    exact firstPost_of hd.out rfl (Below.refl _ _)
  · have g0 : 248 ≤ (s[0].toNat : Int) := by omega
    clear hb e0 h
    go_enter Tryd.func33, Tryd.ntmps33
    go_wp2
    go_ret2
    exact firstPost_of hd.out rfl (Below.refl _ _)

theorem below_of_drew {w w1 : World} (h : Below w.drew.heap.size w.drew w1) : Below w.heap.size w w1 := ⟨h.os, h.tape, h.output, h.size, h.block⟩

theorem is_yes (c : Int) (h : okc c = true) (w : World) :
    Calls Tryd.prog 15 #[.int .i64 c] w fun e w' => e = .returned (.bool true) ∧ w = w' :=
  (is_any c w).mono fun e w' ⟨he, hw⟩ => ⟨by rw [he, h], hw⟩

theorem is_no (c : Int) (h : okc c = false) (w : World) :
    Calls Tryd.prog 15 #[.int .i64 c] w fun e w' => e = .returned (.bool false) ∧ w = w' :=
  (is_any c w).mono fun e w' ⟨he, hw⟩ => ⟨by rw [he, h], hw⟩

theorem cval_lt' (s : ByteArray) (n lo hi : Nat) (hh : hi ≤ lo + 32) (h0 : lo ≤ byteAt s 0) (h1 : byteAt s 0 < hi) (k : Nat) (hk : k ≤ 3) (hc : Conts s (k + 1)) : (cval s lo k : Int) < 8388608 := by
  have h := cval_lt s n lo hi hh h0 h1 k hk hc
  have : 64 ^ k ≤ 64 ^ 3 := Nat.pow_le_pow_right (by omega) hk
  omega

theorem list_eq_of {l : List UInt8} {t : ByteArray} (h : (⟨l.toArray⟩ : ByteArray) = t) : (l == t.toList) = true := by
  rw [← h, ByteArray.toList_eq]
  simp

theorem list_ne_of {l : List UInt8} {t : ByteArray} (h : (⟨l.toArray⟩ : ByteArray) ≠ t) : (l == t.toList) = false := by
  rw [beq_eq_false_iff_ne]
  intro e
  apply h
  rw [e, ByteArray.toList_eq]

end Go.Proofs.YtjpnkffdpcfnjaaDoor
