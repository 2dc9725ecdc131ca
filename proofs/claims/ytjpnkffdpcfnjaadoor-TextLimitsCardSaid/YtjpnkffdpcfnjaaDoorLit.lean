/-
  One character of a literal: text.escapedChar and text.literalChar by plain functions.
-/
import Derived.Test.YtjpnkffdpcfnjaaDoorNum
set_option linter.unusedVariables false
namespace Go.Proofs.YtjpnkffdpcfnjaaDoor
open Go.RowKit

def escLtr : List UInt8 := [110, 116, 114, 48, 34, 92, 98, 97, 118, 102, 39]
def escChr : List UInt8 := [10, 9, 13, 0, 34, 92, 8, 7, 11, 12, 39]
/-- An escape, from the byte behind its stroke on. -/
def escG (s : ByteArray) (a : Nat) : Int × Nat × Int :=
  if s.size ≤ a then (0, s.size, 16)
  else if byteAt s a = 117 then numG s a 4 (a + 1) 0
  else if byteAt s a = 85 then numG s a 6 (a + 1) 0
  else if escv (byteAt s a) < 0 then (0, a, 8) else (escv (byteAt s a), a + 1, 0)
/-- A character of a literal: it, the place behind it or of the error, the error. -/
def litG (s : ByteArray) (a : Nat) : Int × Nat × Int :=
  if byteAt s a = 92 then escG s (a + 1) else (((Utf8.decode (s.extract a s.size) 0).1 : Int), a + (Utf8.decode (s.extract a s.size) 0).2, 0)
def tup3 (r : Int × Nat × Int) : Ending := .returned (.tuple #[.int .i32 r.1, .int .i64 (r.2.1 : Int), .int .i64 r.2.2])

theorem esc_idx (b : Nat) (hb : b < 256) : ∃ i : Int, Lib.indexByte escLtr b.toUInt8 = i ∧ ((i = -1 ∧ escv b = -1) ∨ (0 ≤ escv b ∧ ((i = 0 ∧ escv b = 10) ∨ (i = 1 ∧ escv b = 9) ∨ (i = 2 ∧ escv b = 13) ∨ (i = 3 ∧ escv b = 0) ∨ (i = 4 ∧ escv b = 34) ∨ (i = 5 ∧ escv b = 92) ∨ (i = 6 ∧ escv b = 8) ∨ (i = 7 ∧ escv b = 7) ∨ (i = 8 ∧ escv b = 11) ∨ (i = 9 ∧ escv b = 12) ∨ (i = 10 ∧ escv b = 39)))) := by
  have key : ∀ k : Fin 256, (Lib.indexByte escLtr k.val.toUInt8 = -1 ∧ escv k.val = -1) ∨ (0 ≤ escv k.val ∧ ((Lib.indexByte escLtr k.val.toUInt8 = 0 ∧ escv k.val = 10) ∨ (Lib.indexByte escLtr k.val.toUInt8 = 1 ∧ escv k.val = 9) ∨ (Lib.indexByte escLtr k.val.toUInt8 = 2 ∧ escv k.val = 13) ∨ (Lib.indexByte escLtr k.val.toUInt8 = 3 ∧ escv k.val = 0) ∨ (Lib.indexByte escLtr k.val.toUInt8 = 4 ∧ escv k.val = 34) ∨ (Lib.indexByte escLtr k.val.toUInt8 = 5 ∧ escv k.val = 92) ∨ (Lib.indexByte escLtr k.val.toUInt8 = 6 ∧ escv k.val = 8) ∨ (Lib.indexByte escLtr k.val.toUInt8 = 7 ∧ escv k.val = 7) ∨ (Lib.indexByte escLtr k.val.toUInt8 = 8 ∧ escv k.val = 11) ∨ (Lib.indexByte escLtr k.val.toUInt8 = 9 ∧ escv k.val = 12) ∨ (Lib.indexByte escLtr k.val.toUInt8 = 10 ∧ escv k.val = 39))) := by decide +kernel
  exact ⟨_, rfl, key ⟨b, hb⟩⟩

theorem escIdx (z : Int) (w : World) : Calls Tryd.prog 61 #[.string ⟨#[110, 116, 114, 48, 34, 92, 98, 97, 118, 102, 39]⟩, .int .u8 z] w fun e w' => e = .returned (.int .i64 (Lib.indexByte escLtr z.toNat.toUInt8)) ∧ w = w' :=
  (Tryd.strings_IndexByte ⟨#[110, 116, 114, 48, 34, 92, 98, 97, 118, 102, 39]⟩ z w).mono fun e w' h => ⟨h.1, h.2.symm⟩

set_option maxHeartbeats 2000000 in
theorem escaped_any (s : ByteArray) (hs : s.size ≤ 1000000000) (a : Nat) (ha : a ≤ s.size) (w : World) :
    Calls Tryd.prog 52 #[.string s, .int .i64 (a : Int)] w fun e w' => e = tup3 (escG s a) ∧ w = w' := by
  unfold escG
  by_cases h0 : s.size ≤ a
  · rw [if_pos h0]
    obtain rfl : a = s.size := by omega
    clear h0 ha
    go_enter Tryd.func52, Tryd.ntmps52
    go_wp2
    go_ret3
    exact ⟨rfl, rfl⟩
  · rw [if_neg h0]
    have hai : a < s.size := by omega
    have hne : ((a : Int) == (s.size : Int)) = false := by simp; omega
    have hb := byteAt_eq s a hai
    have hbl := byteAt_lt s a
    have hw1 : IntKind.i64.wrap ((a : Int) + 1) = (a : Int) + 1 := IntWalk.i64_in _ (by omega)
    by_cases h1 : byteAt s a = 117
    · rw [if_pos h1]
      have hq : ((s[a].toNat : Int) == 117) = true := by rw [hb, h1]; rfl
      have hN := numbered_any s hs a 4 hai (by omega)
      have HN := Lib.hid hN
      unfold tup3
      clear hN h0 hb hbl h1
      go_enter Tryd.func52, Tryd.ntmps52
      go_wp2_with fail
      refine (HN.out _).mono ?_
      rintro e w1 ⟨rfl, rfl⟩
      go_wp2
      go_ret3
      exact ⟨rfl, rfl⟩
    · rw [if_neg h1]
      have hq1 : ((s[a].toNat : Int) == 117) = false := by rw [hb]; simp; omega
      by_cases h2 : byteAt s a = 85
      · rw [if_pos h2]
        have hq2 : ((s[a].toNat : Int) == 85) = true := by rw [hb, h2]; rfl
        have hN := numbered_any s hs a 6 hai (by omega)
        have HN := Lib.hid hN
        unfold tup3
        clear hN h0 hb hbl h1 h2
        go_enter Tryd.func52, Tryd.ntmps52
        go_wp2_with fail
        refine (HN.out _).mono ?_
        rintro e w1 ⟨rfl, rfl⟩
        go_wp2
        go_ret3
        exact ⟨rfl, rfl⟩
      · rw [if_neg h2]
        have hq2 : ((s[a].toNat : Int) == 85) = false := by rw [hb]; simp; omega
        have hI := fun w => escIdx (s[a].toNat : Int) w
        rw [hb, Int.toNat_natCast] at hI
        obtain ⟨i, hi, hv⟩ := esc_idx (byteAt s a) hbl
        rw [hi] at hI
        have HI := Lib.hid hI
        clear hI h0 hbl h1 h2 hi
        unfold tup3
        rcases hv with ⟨rfl, hv⟩ | ⟨h9, hv⟩
        · rw [if_pos (by omega)]
          clear hv
          go_enter Tryd.func52, Tryd.ntmps52
          go_wp2_with fail
          try rw [hb]
          refine (HI.out _).mono ?_
          rintro e w1 ⟨rfl, rfl⟩
          go_wp2
          go_ret3
          exact ⟨rfl, rfl⟩
        · rw [if_neg (by omega)]
          clear h9
          rcases hv with ⟨rfl, hv⟩ | ⟨rfl, hv⟩ | ⟨rfl, hv⟩ | ⟨rfl, hv⟩ | ⟨rfl, hv⟩ | ⟨rfl, hv⟩ | ⟨rfl, hv⟩ | ⟨rfl, hv⟩ | ⟨rfl, hv⟩ | ⟨rfl, hv⟩ | ⟨rfl, hv⟩
          all_goals
            rw [hv]
            clear hv
            go_enter Tryd.func52, Tryd.ntmps52
            go_wp2_with fail
            try rw [hb]
            refine (HI.out _).mono ?_
            rintro e w1 ⟨rfl, rfl⟩
            go_wp2
            go_ret3
            exact ⟨by kernel_rfl, rfl⟩

def TabU (w : World) : Prop := Lib.Utf8Tabs 1 2 w
theorem TabU.below {w w' : World} (h : TabU w) (hb : Below w.heap.size w w') : TabU w' := Utf8Tabs_below h hb

set_option maxHeartbeats 2000000 in
theorem literal_any (s : ByteArray) (hs : s.size ≤ 1000000000) (a : Nat) (ha : a < s.size) (w : World) (ht : TabU w) :
    Calls Tryd.prog 32 #[.string s, .int .i64 (a : Int)] w fun e w' => e = tup3 (litG s a) ∧ Below w.heap.size w w' := by
  unfold litG
  have hb := byteAt_eq s a ha
  by_cases h0 : byteAt s a = 92
  · rw [if_pos h0]
    have hq : ((s[a].toNat : Int) == 92) = true := by rw [hb, h0]; rfl
    have hw1 : IntKind.i64.wrap ((a : Int) + 1) = (a : Int) + 1 := IntWalk.i64_in _ (by omega)
    have hE := escaped_any s hs (a + 1) (by omega)
    rw [show (((a + 1 : Nat)) : Int) = (a : Int) + 1 by omega] at hE
    unfold tup3 at hE ⊢
    have HE := Lib.hid hE
    clear hE hb h0
    go_enter Tryd.func32, Tryd.ntmps32
    go_wp2_with fail
    refine (HE.out _).mono ?_
    rintro e w1 ⟨rfl, rfl⟩
    go_wp2
    go_ret3
    exact ⟨rfl, Below.refl _ _⟩
  · rw [if_neg h0]
    have hq : ((s[a].toNat : Int) == 92) = false := by rw [hb]; simp; omega
    have hD := Tryd.utf8_DecodeRuneInString (s.extract a s.size) w ht
    have hsz : (s.extract a s.size).size ≠ 0 := by simp; omega
    unfold Lib.decodeGo at hD
    rw [if_neg hsz] at hD
    have hn : (Utf8.decode (s.extract a s.size) 0).2 ≤ (s.extract a s.size).size := by
      have := width_le (s.extract a s.size) 0 (by omega)
      omega
    have hsz2 : (s.extract a s.size).size ≤ s.size := by simp
    have hwn : IntKind.i64.wrap ((a : Int) + ((Utf8.decode (s.extract a s.size) 0).2 : Int)) = (a : Int) + ((Utf8.decode (s.extract a s.size) 0).2 : Int) := IntWalk.i64_in _ (by omega)
    have HD := Lib.hid hD
    unfold tup3
    clear hD hb h0 hsz hn hsz2
    generalize (Utf8.decode (s.extract a s.size) 0).1 = c at *
    generalize (Utf8.decode (s.extract a s.size) 0).2 = n at *
    go_enter Tryd.func32, Tryd.ntmps32
    go_wp2_with fail
    refine HD.out.mono ?_
    rintro e w1 ⟨rfl, hb1⟩
    go_wp2
    go_ret3
    exact ⟨rfl, hb1⟩
end Go.Proofs.YtjpnkffdpcfnjaaDoor
