/-
  For all kinds and all two numbers the law NumberRing returns true. No condition.
-/
import Derived.Test.YthbmdlihfocbmaaGreatDoorRows
import Derived.Test.YthbmdlihfocbmaaGreatDoorAwakeN
import Derived.Test.YthbmdlihfocbmaaGreatDoorWrapA
import Derived.Test.YthbmdlihfocbmaaGreatDoorAr1
import Derived.Test.YthbmdlihfocbmaaGreatDoorAr2
import Derived.Test.YthbmdlihfocbmaaGreatDoorAr3
import Derived.Test.YthbmdlihfocbmaaGreatDoorLaidN
import Derived.WalkKit
import Derived.ProofKit
import Derived.OpenShut
import Derived.ShutString
import Derived.ChangeOld
import Derived.Carry
import Derived.SevenTiedAt
import Derived.Test.YthbmdlihfocbmaaGreatDoorCards
import Derived.Test.YthbmdlihfocbmaaGreatDoorTie
set_option linter.unusedVariables false
namespace Go.Proofs.YthbmdlihfocbmaaGreatDoor.numberRing
open Go.ChangeShapes Go.WideShapes Go.ChangeAt Go.RowKit

theorem own : ownKnob Tryz.prog.godebug = none := by kernel_rfl

/-- What a wrapping modulo M is. -/
structure Wraps (M : Int) (wr : Int → Int) : Prop where
  mod : ∀ n, wr n % M = n % M
  eq : ∀ n m, n % M = m % M → wr n = wr m
theorem wraps1 : Wraps 256 (fun n => n % 256) := ⟨fun n => by show n % 256 % 256 = _; omega, fun n m h => h⟩
theorem wraps2 : Wraps 4294967296 wrap32 := ⟨fun n => by unfold wrap32; omega, fun n m h => by unfold wrap32; omega⟩
theorem wraps64 : Wraps 18446744073709551616 wrap64 := ⟨fun n => by unfold wrap64; omega, fun n m h => by unfold wrap64; omega⟩
theorem mod64 (M n : Int) (hM : M = 256 ∨ M = 4294967296 ∨ M = 18446744073709551616) : wrap64 n % M = n % M := by
  unfold wrap64
  rcases hM with rfl | rfl | rfl <;> omega
theorem add_mod {M a b c d : Int} (h1 : a % M = c % M) (h2 : b % M = d % M) : (a + b) % M = (c + d) % M := by
  rw [Int.add_emod, h1, h2, ← Int.add_emod]
theorem mul_mod {M a b c d : Int} (h1 : a % M = c % M) (h2 : b % M = d % M) : (a * b) % M = (c * d) % M := by
  rw [Int.mul_emod, h1, h2, ← Int.mul_emod]
/-- The quotient by the divisor, and the rest. -/
theorem back_div {M : Int} {wr : Int → Int} (W : Wraps M wr) (hM : M = 256 ∨ M = 4294967296 ∨ M = 18446744073709551616) (A B : Int) (hA : wr A = A) :
    wr (wrap64 (wr (wr (wrap64 (wr (wr (wrap64 (A.tdiv B))) * B))) + wr (wr (A.tmod B)))) = A := by
  refine (W.eq _ A ?_).trans hA
  have e : A = A.tdiv B * B + A.tmod B := by
    have := Int.mul_tdiv_add_tmod A B
    rw [Int.mul_comm] at this
    exact this.symm
  rw [mod64 M _ hM]
  conv => rhs; rw [e]
  refine add_mod ?_ ?_
  · rw [W.mod, W.mod, mod64 M _ hM]
    refine mul_mod ?_ rfl
    rw [W.mod, W.mod, mod64 M _ hM]
  · rw [W.mod, W.mod]

set_option maxHeartbeats 1000000 in
set_option maxRecDepth 100000 in
theorem ring1 (a b A B S P D X Y Z : Int)
    (hA : ∀ w, Calls Tryz.prog 13 #[.int .i64 1, .int .i64 a] w fun e w' => e = .returned (.tuple #[.int .i64 A, .int .i64 0]) ∧ Below w.heap.size w w')
    (hB : ∀ w, Calls Tryz.prog 13 #[.int .i64 1, .int .i64 b] w fun e w' => e = .returned (.tuple #[.int .i64 B, .int .i64 0]) ∧ Below w.heap.size w w')
    (hS : ∀ w, Calls Tryz.prog 19 #[.int .i64 1, .int .i64 0, .int .i64 A, .int .i64 B] w fun e w' => e = .returned (.tuple #[.int .i64 S, .int .i64 0]) ∧ Below w.heap.size w w')
    (hT : ∀ w, Calls Tryz.prog 19 #[.int .i64 1, .int .i64 0, .int .i64 B, .int .i64 A] w fun e w' => e = .returned (.tuple #[.int .i64 S, .int .i64 0]) ∧ Below w.heap.size w w')
    (hP : ∀ w, Calls Tryz.prog 19 #[.int .i64 1, .int .i64 2, .int .i64 A, .int .i64 B] w fun e w' => e = .returned (.tuple #[.int .i64 P, .int .i64 0]) ∧ Below w.heap.size w w')
    (hQ : ∀ w, Calls Tryz.prog 19 #[.int .i64 1, .int .i64 2, .int .i64 B, .int .i64 A] w fun e w' => e = .returned (.tuple #[.int .i64 P, .int .i64 0]) ∧ Below w.heap.size w w')
    (hD : ∀ w, Calls Tryz.prog 19 #[.int .i64 1, .int .i64 1, .int .i64 A, .int .i64 B] w fun e w' => e = .returned (.tuple #[.int .i64 D, .int .i64 0]) ∧ Below w.heap.size w w')
    (hK : ∀ w, Calls Tryz.prog 19 #[.int .i64 1, .int .i64 0, .int .i64 D, .int .i64 B] w fun e w' => e = .returned (.tuple #[.int .i64 A, .int .i64 0]) ∧ Below w.heap.size w w')
    (hX : ∀ w, Calls Tryz.prog 19 #[.int .i64 1, .int .i64 3, .int .i64 A, .int .i64 B] w fun e w' => e = .returned (.tuple #[.int .i64 X, .int .i64 0]) ∧ Below w.heap.size w w')
    (hY : ∀ w, Calls Tryz.prog 19 #[.int .i64 1, .int .i64 4, .int .i64 A, .int .i64 B] w fun e w' => e = .returned (.tuple #[.int .i64 Y, .int .i64 0]) ∧ Below w.heap.size w w')
    (hZ : ∀ w, Calls Tryz.prog 19 #[.int .i64 1, .int .i64 2, .int .i64 X, .int .i64 B] w fun e w' => e = .returned (.tuple #[.int .i64 Z, .int .i64 0]) ∧ Below w.heap.size w w')
    (hE : ∀ w, Calls Tryz.prog 19 #[.int .i64 1, .int .i64 0, .int .i64 Z, .int .i64 Y] w fun e w' => e = .returned (.tuple #[.int .i64 A, .int .i64 0]) ∧ Below w.heap.size w w')
    (hb0 : (B == 0) = false) (w : World) (ht : TabN w) :
    Calls Tryz.prog 10 #[.int .i64 1, .int .i64 a, .int .i64 b] w fun e w' => e = .returned (.bool true) ∧ Below w.heap.size w w' := by
  have HT := Lib.hid ht
  have HhA := Lib.hid hA
  have HhB := Lib.hid hB
  have HhS := Lib.hid hS
  have HhT := Lib.hid hT
  have HhP := Lib.hid hP
  have HhQ := Lib.hid hQ
  have HhD := Lib.hid hD
  have HhK := Lib.hid hK
  have HhX := Lib.hid hX
  have HhY := Lib.hid hY
  have HhZ := Lib.hid hZ
  have HhE := Lib.hid hE
  clear ht hA hB hS hT hP hQ hD hK hX hY hZ hE
  go_enter Tryz.func10, Tryz.ntmps10
  go_wp2_with fail
  refine (awake_any _ HT.out).mono ?_
  rintro e w0 ⟨rfl, hb⟩
  have HB0 := Lib.hid hb
  clear hb
  go_wp2_with fail
  refine (HhA.out _).mono ?_
  rintro e w1 ⟨rfl, hb⟩
  have HB1 := Lib.hid (HB0.out.trans (hb.mono HB0.out.size))
  clear hb
  go_wp2_with fail
  refine (HhB.out _).mono ?_
  rintro e w2 ⟨rfl, hb⟩
  have HB2 := Lib.hid (HB1.out.trans (hb.mono HB1.out.size))
  clear hb
  go_wp2_with fail
  refine (HhS.out _).mono ?_
  rintro e w3 ⟨rfl, hb⟩
  have HB3 := Lib.hid (HB2.out.trans (hb.mono HB2.out.size))
  clear hb
  go_wp2_with fail
  refine (HhT.out _).mono ?_
  rintro e w4 ⟨rfl, hb⟩
  have HB4 := Lib.hid (HB3.out.trans (hb.mono HB3.out.size))
  clear hb
  go_wp2_with fail
  refine (HhP.out _).mono ?_
  rintro e w5 ⟨rfl, hb⟩
  have HB5 := Lib.hid (HB4.out.trans (hb.mono HB4.out.size))
  clear hb
  go_wp2_with fail
  refine (HhQ.out _).mono ?_
  rintro e w6 ⟨rfl, hb⟩
  have HB6 := Lib.hid (HB5.out.trans (hb.mono HB5.out.size))
  clear hb
  go_wp2_with fail
  refine (HhD.out _).mono ?_
  rintro e w7 ⟨rfl, hb⟩
  have HB7 := Lib.hid (HB6.out.trans (hb.mono HB6.out.size))
  clear hb
  go_wp2_with fail
  refine (HhK.out _).mono ?_
  rintro e w8 ⟨rfl, hb⟩
  have HB8 := Lib.hid (HB7.out.trans (hb.mono HB7.out.size))
  clear hb
  go_wp2_with fail
  refine (HhX.out _).mono ?_
  rintro e w9 ⟨rfl, hb⟩
  have HB9 := Lib.hid (HB8.out.trans (hb.mono HB8.out.size))
  clear hb
  go_wp2_with fail
  refine (HhY.out _).mono ?_
  rintro e w10 ⟨rfl, hb⟩
  have HB10 := Lib.hid (HB9.out.trans (hb.mono HB9.out.size))
  clear hb
  go_wp2_with fail
  refine (HhZ.out _).mono ?_
  rintro e w11 ⟨rfl, hb⟩
  have HB11 := Lib.hid (HB10.out.trans (hb.mono HB10.out.size))
  clear hb
  go_wp2_with fail
  refine (HhE.out _).mono ?_
  rintro e w12 ⟨rfl, hb⟩
  have HB12 := Lib.hid (HB11.out.trans (hb.mono HB11.out.size))
  clear hb
  go_wp2_with fail
  go_ret
  exact ⟨rfl, HB12.out⟩

set_option maxHeartbeats 1000000 in
set_option maxRecDepth 100000 in
theorem ring1z (a b A S P D : Int)
    (hA : ∀ w, Calls Tryz.prog 13 #[.int .i64 1, .int .i64 a] w fun e w' => e = .returned (.tuple #[.int .i64 A, .int .i64 0]) ∧ Below w.heap.size w w')
    (hB : ∀ w, Calls Tryz.prog 13 #[.int .i64 1, .int .i64 b] w fun e w' => e = .returned (.tuple #[.int .i64 0, .int .i64 0]) ∧ Below w.heap.size w w')
    (hS : ∀ w, Calls Tryz.prog 19 #[.int .i64 1, .int .i64 0, .int .i64 A, .int .i64 0] w fun e w' => e = .returned (.tuple #[.int .i64 S, .int .i64 0]) ∧ Below w.heap.size w w')
    (hT : ∀ w, Calls Tryz.prog 19 #[.int .i64 1, .int .i64 0, .int .i64 0, .int .i64 A] w fun e w' => e = .returned (.tuple #[.int .i64 S, .int .i64 0]) ∧ Below w.heap.size w w')
    (hP : ∀ w, Calls Tryz.prog 19 #[.int .i64 1, .int .i64 2, .int .i64 A, .int .i64 0] w fun e w' => e = .returned (.tuple #[.int .i64 P, .int .i64 0]) ∧ Below w.heap.size w w')
    (hQ : ∀ w, Calls Tryz.prog 19 #[.int .i64 1, .int .i64 2, .int .i64 0, .int .i64 A] w fun e w' => e = .returned (.tuple #[.int .i64 P, .int .i64 0]) ∧ Below w.heap.size w w')
    (hD : ∀ w, Calls Tryz.prog 19 #[.int .i64 1, .int .i64 1, .int .i64 A, .int .i64 0] w fun e w' => e = .returned (.tuple #[.int .i64 D, .int .i64 0]) ∧ Below w.heap.size w w')
    (hK : ∀ w, Calls Tryz.prog 19 #[.int .i64 1, .int .i64 0, .int .i64 D, .int .i64 0] w fun e w' => e = .returned (.tuple #[.int .i64 A, .int .i64 0]) ∧ Below w.heap.size w w')
    (hX : ∀ w, Calls Tryz.prog 19 #[.int .i64 1, .int .i64 3, .int .i64 A, .int .i64 0] w fun e w' => e = .returned (.tuple #[.int .i64 0, .int .i64 11]) ∧ Below w.heap.size w w')
    (hY : ∀ w, Calls Tryz.prog 19 #[.int .i64 1, .int .i64 4, .int .i64 A, .int .i64 0] w fun e w' => e = .returned (.tuple #[.int .i64 0, .int .i64 11]) ∧ Below w.heap.size w w')
    (w : World) (ht : TabN w) :
    Calls Tryz.prog 10 #[.int .i64 1, .int .i64 a, .int .i64 b] w fun e w' => e = .returned (.bool true) ∧ Below w.heap.size w w' := by
  have HT := Lib.hid ht
  have HhA := Lib.hid hA
  have HhB := Lib.hid hB
  have HhS := Lib.hid hS
  have HhT := Lib.hid hT
  have HhP := Lib.hid hP
  have HhQ := Lib.hid hQ
  have HhD := Lib.hid hD
  have HhK := Lib.hid hK
  have HhX := Lib.hid hX
  have HhY := Lib.hid hY
  clear ht hA hB hS hT hP hQ hD hK hX hY
  go_enter Tryz.func10, Tryz.ntmps10
  go_wp2_with fail
  refine (awake_any _ HT.out).mono ?_
  rintro e w0 ⟨rfl, hb⟩
  have HB0 := Lib.hid hb
  clear hb
  go_wp2_with fail
  refine (HhA.out _).mono ?_
  rintro e w1 ⟨rfl, hb⟩
  have HB1 := Lib.hid (HB0.out.trans (hb.mono HB0.out.size))
  clear hb
  go_wp2_with fail
  refine (HhB.out _).mono ?_
  rintro e w2 ⟨rfl, hb⟩
  have HB2 := Lib.hid (HB1.out.trans (hb.mono HB1.out.size))
  clear hb
  go_wp2_with fail
  refine (HhS.out _).mono ?_
  rintro e w3 ⟨rfl, hb⟩
  have HB3 := Lib.hid (HB2.out.trans (hb.mono HB2.out.size))
  clear hb
  go_wp2_with fail
  refine (HhT.out _).mono ?_
  rintro e w4 ⟨rfl, hb⟩
  have HB4 := Lib.hid (HB3.out.trans (hb.mono HB3.out.size))
  clear hb
  go_wp2_with fail
  refine (HhP.out _).mono ?_
  rintro e w5 ⟨rfl, hb⟩
  have HB5 := Lib.hid (HB4.out.trans (hb.mono HB4.out.size))
  clear hb
  go_wp2_with fail
  refine (HhQ.out _).mono ?_
  rintro e w6 ⟨rfl, hb⟩
  have HB6 := Lib.hid (HB5.out.trans (hb.mono HB5.out.size))
  clear hb
  go_wp2_with fail
  refine (HhD.out _).mono ?_
  rintro e w7 ⟨rfl, hb⟩
  have HB7 := Lib.hid (HB6.out.trans (hb.mono HB6.out.size))
  clear hb
  go_wp2_with fail
  refine (HhK.out _).mono ?_
  rintro e w8 ⟨rfl, hb⟩
  have HB8 := Lib.hid (HB7.out.trans (hb.mono HB7.out.size))
  clear hb
  go_wp2_with fail
  refine (HhX.out _).mono ?_
  rintro e w9 ⟨rfl, hb⟩
  have HB9 := Lib.hid (HB8.out.trans (hb.mono HB8.out.size))
  clear hb
  go_wp2_with fail
  refine (HhY.out _).mono ?_
  rintro e w10 ⟨rfl, hb⟩
  have HB10 := Lib.hid (HB9.out.trans (hb.mono HB9.out.size))
  clear hb
  go_wp2_with fail
  go_ret
  exact ⟨rfl, HB10.out⟩

set_option maxHeartbeats 1000000 in
set_option maxRecDepth 100000 in
theorem ring2 (a b A B S P D X Y Z : Int)
    (hA : ∀ w, Calls Tryz.prog 13 #[.int .i64 2, .int .i64 a] w fun e w' => e = .returned (.tuple #[.int .i64 A, .int .i64 0]) ∧ Below w.heap.size w w')
    (hB : ∀ w, Calls Tryz.prog 13 #[.int .i64 2, .int .i64 b] w fun e w' => e = .returned (.tuple #[.int .i64 B, .int .i64 0]) ∧ Below w.heap.size w w')
    (hS : ∀ w, Calls Tryz.prog 19 #[.int .i64 2, .int .i64 0, .int .i64 A, .int .i64 B] w fun e w' => e = .returned (.tuple #[.int .i64 S, .int .i64 0]) ∧ Below w.heap.size w w')
    (hT : ∀ w, Calls Tryz.prog 19 #[.int .i64 2, .int .i64 0, .int .i64 B, .int .i64 A] w fun e w' => e = .returned (.tuple #[.int .i64 S, .int .i64 0]) ∧ Below w.heap.size w w')
    (hP : ∀ w, Calls Tryz.prog 19 #[.int .i64 2, .int .i64 2, .int .i64 A, .int .i64 B] w fun e w' => e = .returned (.tuple #[.int .i64 P, .int .i64 0]) ∧ Below w.heap.size w w')
    (hQ : ∀ w, Calls Tryz.prog 19 #[.int .i64 2, .int .i64 2, .int .i64 B, .int .i64 A] w fun e w' => e = .returned (.tuple #[.int .i64 P, .int .i64 0]) ∧ Below w.heap.size w w')
    (hD : ∀ w, Calls Tryz.prog 19 #[.int .i64 2, .int .i64 1, .int .i64 A, .int .i64 B] w fun e w' => e = .returned (.tuple #[.int .i64 D, .int .i64 0]) ∧ Below w.heap.size w w')
    (hK : ∀ w, Calls Tryz.prog 19 #[.int .i64 2, .int .i64 0, .int .i64 D, .int .i64 B] w fun e w' => e = .returned (.tuple #[.int .i64 A, .int .i64 0]) ∧ Below w.heap.size w w')
    (hX : ∀ w, Calls Tryz.prog 19 #[.int .i64 2, .int .i64 3, .int .i64 A, .int .i64 B] w fun e w' => e = .returned (.tuple #[.int .i64 X, .int .i64 0]) ∧ Below w.heap.size w w')
    (hY : ∀ w, Calls Tryz.prog 19 #[.int .i64 2, .int .i64 4, .int .i64 A, .int .i64 B] w fun e w' => e = .returned (.tuple #[.int .i64 Y, .int .i64 0]) ∧ Below w.heap.size w w')
    (hZ : ∀ w, Calls Tryz.prog 19 #[.int .i64 2, .int .i64 2, .int .i64 X, .int .i64 B] w fun e w' => e = .returned (.tuple #[.int .i64 Z, .int .i64 0]) ∧ Below w.heap.size w w')
    (hE : ∀ w, Calls Tryz.prog 19 #[.int .i64 2, .int .i64 0, .int .i64 Z, .int .i64 Y] w fun e w' => e = .returned (.tuple #[.int .i64 A, .int .i64 0]) ∧ Below w.heap.size w w')
    (hb0 : (B == 0) = false) (w : World) (ht : TabN w) :
    Calls Tryz.prog 10 #[.int .i64 2, .int .i64 a, .int .i64 b] w fun e w' => e = .returned (.bool true) ∧ Below w.heap.size w w' := by
  have HT := Lib.hid ht
  have HhA := Lib.hid hA
  have HhB := Lib.hid hB
  have HhS := Lib.hid hS
  have HhT := Lib.hid hT
  have HhP := Lib.hid hP
  have HhQ := Lib.hid hQ
  have HhD := Lib.hid hD
  have HhK := Lib.hid hK
  have HhX := Lib.hid hX
  have HhY := Lib.hid hY
  have HhZ := Lib.hid hZ
  have HhE := Lib.hid hE
  clear ht hA hB hS hT hP hQ hD hK hX hY hZ hE
  go_enter Tryz.func10, Tryz.ntmps10
  go_wp2_with fail
  refine (awake_any _ HT.out).mono ?_
  rintro e w0 ⟨rfl, hb⟩
  have HB0 := Lib.hid hb
  clear hb
  go_wp2_with fail
  refine (HhA.out _).mono ?_
  rintro e w1 ⟨rfl, hb⟩
  have HB1 := Lib.hid (HB0.out.trans (hb.mono HB0.out.size))
  clear hb
  go_wp2_with fail
  refine (HhB.out _).mono ?_
  rintro e w2 ⟨rfl, hb⟩
  have HB2 := Lib.hid (HB1.out.trans (hb.mono HB1.out.size))
  clear hb
  go_wp2_with fail
  refine (HhS.out _).mono ?_
  rintro e w3 ⟨rfl, hb⟩
  have HB3 := Lib.hid (HB2.out.trans (hb.mono HB2.out.size))
  clear hb
  go_wp2_with fail
  refine (HhT.out _).mono ?_
  rintro e w4 ⟨rfl, hb⟩
  have HB4 := Lib.hid (HB3.out.trans (hb.mono HB3.out.size))
  clear hb
  go_wp2_with fail
  refine (HhP.out _).mono ?_
  rintro e w5 ⟨rfl, hb⟩
  have HB5 := Lib.hid (HB4.out.trans (hb.mono HB4.out.size))
  clear hb
  go_wp2_with fail
  refine (HhQ.out _).mono ?_
  rintro e w6 ⟨rfl, hb⟩
  have HB6 := Lib.hid (HB5.out.trans (hb.mono HB5.out.size))
  clear hb
  go_wp2_with fail
  refine (HhD.out _).mono ?_
  rintro e w7 ⟨rfl, hb⟩
  have HB7 := Lib.hid (HB6.out.trans (hb.mono HB6.out.size))
  clear hb
  go_wp2_with fail
  refine (HhK.out _).mono ?_
  rintro e w8 ⟨rfl, hb⟩
  have HB8 := Lib.hid (HB7.out.trans (hb.mono HB7.out.size))
  clear hb
  go_wp2_with fail
  refine (HhX.out _).mono ?_
  rintro e w9 ⟨rfl, hb⟩
  have HB9 := Lib.hid (HB8.out.trans (hb.mono HB8.out.size))
  clear hb
  go_wp2_with fail
  refine (HhY.out _).mono ?_
  rintro e w10 ⟨rfl, hb⟩
  have HB10 := Lib.hid (HB9.out.trans (hb.mono HB9.out.size))
  clear hb
  go_wp2_with fail
  refine (HhZ.out _).mono ?_
  rintro e w11 ⟨rfl, hb⟩
  have HB11 := Lib.hid (HB10.out.trans (hb.mono HB10.out.size))
  clear hb
  go_wp2_with fail
  refine (HhE.out _).mono ?_
  rintro e w12 ⟨rfl, hb⟩
  have HB12 := Lib.hid (HB11.out.trans (hb.mono HB11.out.size))
  clear hb
  go_wp2_with fail
  go_ret
  exact ⟨rfl, HB12.out⟩

set_option maxHeartbeats 1000000 in
set_option maxRecDepth 100000 in
theorem ring2z (a b A S P D : Int)
    (hA : ∀ w, Calls Tryz.prog 13 #[.int .i64 2, .int .i64 a] w fun e w' => e = .returned (.tuple #[.int .i64 A, .int .i64 0]) ∧ Below w.heap.size w w')
    (hB : ∀ w, Calls Tryz.prog 13 #[.int .i64 2, .int .i64 b] w fun e w' => e = .returned (.tuple #[.int .i64 0, .int .i64 0]) ∧ Below w.heap.size w w')
    (hS : ∀ w, Calls Tryz.prog 19 #[.int .i64 2, .int .i64 0, .int .i64 A, .int .i64 0] w fun e w' => e = .returned (.tuple #[.int .i64 S, .int .i64 0]) ∧ Below w.heap.size w w')
    (hT : ∀ w, Calls Tryz.prog 19 #[.int .i64 2, .int .i64 0, .int .i64 0, .int .i64 A] w fun e w' => e = .returned (.tuple #[.int .i64 S, .int .i64 0]) ∧ Below w.heap.size w w')
    (hP : ∀ w, Calls Tryz.prog 19 #[.int .i64 2, .int .i64 2, .int .i64 A, .int .i64 0] w fun e w' => e = .returned (.tuple #[.int .i64 P, .int .i64 0]) ∧ Below w.heap.size w w')
    (hQ : ∀ w, Calls Tryz.prog 19 #[.int .i64 2, .int .i64 2, .int .i64 0, .int .i64 A] w fun e w' => e = .returned (.tuple #[.int .i64 P, .int .i64 0]) ∧ Below w.heap.size w w')
    (hD : ∀ w, Calls Tryz.prog 19 #[.int .i64 2, .int .i64 1, .int .i64 A, .int .i64 0] w fun e w' => e = .returned (.tuple #[.int .i64 D, .int .i64 0]) ∧ Below w.heap.size w w')
    (hK : ∀ w, Calls Tryz.prog 19 #[.int .i64 2, .int .i64 0, .int .i64 D, .int .i64 0] w fun e w' => e = .returned (.tuple #[.int .i64 A, .int .i64 0]) ∧ Below w.heap.size w w')
    (hX : ∀ w, Calls Tryz.prog 19 #[.int .i64 2, .int .i64 3, .int .i64 A, .int .i64 0] w fun e w' => e = .returned (.tuple #[.int .i64 0, .int .i64 11]) ∧ Below w.heap.size w w')
    (hY : ∀ w, Calls Tryz.prog 19 #[.int .i64 2, .int .i64 4, .int .i64 A, .int .i64 0] w fun e w' => e = .returned (.tuple #[.int .i64 0, .int .i64 11]) ∧ Below w.heap.size w w')
    (w : World) (ht : TabN w) :
    Calls Tryz.prog 10 #[.int .i64 2, .int .i64 a, .int .i64 b] w fun e w' => e = .returned (.bool true) ∧ Below w.heap.size w w' := by
  have HT := Lib.hid ht
  have HhA := Lib.hid hA
  have HhB := Lib.hid hB
  have HhS := Lib.hid hS
  have HhT := Lib.hid hT
  have HhP := Lib.hid hP
  have HhQ := Lib.hid hQ
  have HhD := Lib.hid hD
  have HhK := Lib.hid hK
  have HhX := Lib.hid hX
  have HhY := Lib.hid hY
  clear ht hA hB hS hT hP hQ hD hK hX hY
  go_enter Tryz.func10, Tryz.ntmps10
  go_wp2_with fail
  refine (awake_any _ HT.out).mono ?_
  rintro e w0 ⟨rfl, hb⟩
  have HB0 := Lib.hid hb
  clear hb
  go_wp2_with fail
  refine (HhA.out _).mono ?_
  rintro e w1 ⟨rfl, hb⟩
  have HB1 := Lib.hid (HB0.out.trans (hb.mono HB0.out.size))
  clear hb
  go_wp2_with fail
  refine (HhB.out _).mono ?_
  rintro e w2 ⟨rfl, hb⟩
  have HB2 := Lib.hid (HB1.out.trans (hb.mono HB1.out.size))
  clear hb
  go_wp2_with fail
  refine (HhS.out _).mono ?_
  rintro e w3 ⟨rfl, hb⟩
  have HB3 := Lib.hid (HB2.out.trans (hb.mono HB2.out.size))
  clear hb
  go_wp2_with fail
  refine (HhT.out _).mono ?_
  rintro e w4 ⟨rfl, hb⟩
  have HB4 := Lib.hid (HB3.out.trans (hb.mono HB3.out.size))
  clear hb
  go_wp2_with fail
  refine (HhP.out _).mono ?_
  rintro e w5 ⟨rfl, hb⟩
  have HB5 := Lib.hid (HB4.out.trans (hb.mono HB4.out.size))
  clear hb
  go_wp2_with fail
  refine (HhQ.out _).mono ?_
  rintro e w6 ⟨rfl, hb⟩
  have HB6 := Lib.hid (HB5.out.trans (hb.mono HB5.out.size))
  clear hb
  go_wp2_with fail
  refine (HhD.out _).mono ?_
  rintro e w7 ⟨rfl, hb⟩
  have HB7 := Lib.hid (HB6.out.trans (hb.mono HB6.out.size))
  clear hb
  go_wp2_with fail
  refine (HhK.out _).mono ?_
  rintro e w8 ⟨rfl, hb⟩
  have HB8 := Lib.hid (HB7.out.trans (hb.mono HB7.out.size))
  clear hb
  go_wp2_with fail
  refine (HhX.out _).mono ?_
  rintro e w9 ⟨rfl, hb⟩
  have HB9 := Lib.hid (HB8.out.trans (hb.mono HB8.out.size))
  clear hb
  go_wp2_with fail
  refine (HhY.out _).mono ?_
  rintro e w10 ⟨rfl, hb⟩
  have HB10 := Lib.hid (HB9.out.trans (hb.mono HB9.out.size))
  clear hb
  go_wp2_with fail
  go_ret
  exact ⟨rfl, HB10.out⟩

set_option maxHeartbeats 1000000 in
set_option maxRecDepth 100000 in
theorem ring3 (a b A B S P D X Y Z : Int)
    (hA : ∀ w, Calls Tryz.prog 13 #[.int .i64 3, .int .i64 a] w fun e w' => e = .returned (.tuple #[.int .i64 A, .int .i64 0]) ∧ Below w.heap.size w w')
    (hB : ∀ w, Calls Tryz.prog 13 #[.int .i64 3, .int .i64 b] w fun e w' => e = .returned (.tuple #[.int .i64 B, .int .i64 0]) ∧ Below w.heap.size w w')
    (hS : ∀ w, Calls Tryz.prog 19 #[.int .i64 3, .int .i64 0, .int .i64 A, .int .i64 B] w fun e w' => e = .returned (.tuple #[.int .i64 S, .int .i64 0]) ∧ Below w.heap.size w w')
    (hT : ∀ w, Calls Tryz.prog 19 #[.int .i64 3, .int .i64 0, .int .i64 B, .int .i64 A] w fun e w' => e = .returned (.tuple #[.int .i64 S, .int .i64 0]) ∧ Below w.heap.size w w')
    (hP : ∀ w, Calls Tryz.prog 19 #[.int .i64 3, .int .i64 2, .int .i64 A, .int .i64 B] w fun e w' => e = .returned (.tuple #[.int .i64 P, .int .i64 0]) ∧ Below w.heap.size w w')
    (hQ : ∀ w, Calls Tryz.prog 19 #[.int .i64 3, .int .i64 2, .int .i64 B, .int .i64 A] w fun e w' => e = .returned (.tuple #[.int .i64 P, .int .i64 0]) ∧ Below w.heap.size w w')
    (hD : ∀ w, Calls Tryz.prog 19 #[.int .i64 3, .int .i64 1, .int .i64 A, .int .i64 B] w fun e w' => e = .returned (.tuple #[.int .i64 D, .int .i64 0]) ∧ Below w.heap.size w w')
    (hK : ∀ w, Calls Tryz.prog 19 #[.int .i64 3, .int .i64 0, .int .i64 D, .int .i64 B] w fun e w' => e = .returned (.tuple #[.int .i64 A, .int .i64 0]) ∧ Below w.heap.size w w')
    (hX : ∀ w, Calls Tryz.prog 19 #[.int .i64 3, .int .i64 3, .int .i64 A, .int .i64 B] w fun e w' => e = .returned (.tuple #[.int .i64 X, .int .i64 0]) ∧ Below w.heap.size w w')
    (hY : ∀ w, Calls Tryz.prog 19 #[.int .i64 3, .int .i64 4, .int .i64 A, .int .i64 B] w fun e w' => e = .returned (.tuple #[.int .i64 Y, .int .i64 0]) ∧ Below w.heap.size w w')
    (hZ : ∀ w, Calls Tryz.prog 19 #[.int .i64 3, .int .i64 2, .int .i64 X, .int .i64 B] w fun e w' => e = .returned (.tuple #[.int .i64 Z, .int .i64 0]) ∧ Below w.heap.size w w')
    (hE : ∀ w, Calls Tryz.prog 19 #[.int .i64 3, .int .i64 0, .int .i64 Z, .int .i64 Y] w fun e w' => e = .returned (.tuple #[.int .i64 A, .int .i64 0]) ∧ Below w.heap.size w w')
    (hb0 : (B == 0) = false) (w : World) (ht : TabN w) :
    Calls Tryz.prog 10 #[.int .i64 3, .int .i64 a, .int .i64 b] w fun e w' => e = .returned (.bool true) ∧ Below w.heap.size w w' := by
  have HT := Lib.hid ht
  have HhA := Lib.hid hA
  have HhB := Lib.hid hB
  have HhS := Lib.hid hS
  have HhT := Lib.hid hT
  have HhP := Lib.hid hP
  have HhQ := Lib.hid hQ
  have HhD := Lib.hid hD
  have HhK := Lib.hid hK
  have HhX := Lib.hid hX
  have HhY := Lib.hid hY
  have HhZ := Lib.hid hZ
  have HhE := Lib.hid hE
  clear ht hA hB hS hT hP hQ hD hK hX hY hZ hE
  go_enter Tryz.func10, Tryz.ntmps10
  go_wp2_with fail
  refine (awake_any _ HT.out).mono ?_
  rintro e w0 ⟨rfl, hb⟩
  have HB0 := Lib.hid hb
  clear hb
  go_wp2_with fail
  refine (HhA.out _).mono ?_
  rintro e w1 ⟨rfl, hb⟩
  have HB1 := Lib.hid (HB0.out.trans (hb.mono HB0.out.size))
  clear hb
  go_wp2_with fail
  refine (HhB.out _).mono ?_
  rintro e w2 ⟨rfl, hb⟩
  have HB2 := Lib.hid (HB1.out.trans (hb.mono HB1.out.size))
  clear hb
  go_wp2_with fail
  refine (HhS.out _).mono ?_
  rintro e w3 ⟨rfl, hb⟩
  have HB3 := Lib.hid (HB2.out.trans (hb.mono HB2.out.size))
  clear hb
  go_wp2_with fail
  refine (HhT.out _).mono ?_
  rintro e w4 ⟨rfl, hb⟩
  have HB4 := Lib.hid (HB3.out.trans (hb.mono HB3.out.size))
  clear hb
  go_wp2_with fail
  refine (HhP.out _).mono ?_
  rintro e w5 ⟨rfl, hb⟩
  have HB5 := Lib.hid (HB4.out.trans (hb.mono HB4.out.size))
  clear hb
  go_wp2_with fail
  refine (HhQ.out _).mono ?_
  rintro e w6 ⟨rfl, hb⟩
  have HB6 := Lib.hid (HB5.out.trans (hb.mono HB5.out.size))
  clear hb
  go_wp2_with fail
  refine (HhD.out _).mono ?_
  rintro e w7 ⟨rfl, hb⟩
  have HB7 := Lib.hid (HB6.out.trans (hb.mono HB6.out.size))
  clear hb
  go_wp2_with fail
  refine (HhK.out _).mono ?_
  rintro e w8 ⟨rfl, hb⟩
  have HB8 := Lib.hid (HB7.out.trans (hb.mono HB7.out.size))
  clear hb
  go_wp2_with fail
  refine (HhX.out _).mono ?_
  rintro e w9 ⟨rfl, hb⟩
  have HB9 := Lib.hid (HB8.out.trans (hb.mono HB8.out.size))
  clear hb
  go_wp2_with fail
  refine (HhY.out _).mono ?_
  rintro e w10 ⟨rfl, hb⟩
  have HB10 := Lib.hid (HB9.out.trans (hb.mono HB9.out.size))
  clear hb
  go_wp2_with fail
  refine (HhZ.out _).mono ?_
  rintro e w11 ⟨rfl, hb⟩
  have HB11 := Lib.hid (HB10.out.trans (hb.mono HB10.out.size))
  clear hb
  go_wp2_with fail
  refine (HhE.out _).mono ?_
  rintro e w12 ⟨rfl, hb⟩
  have HB12 := Lib.hid (HB11.out.trans (hb.mono HB11.out.size))
  clear hb
  go_wp2_with fail
  go_ret
  exact ⟨rfl, HB12.out⟩

set_option maxHeartbeats 1000000 in
set_option maxRecDepth 100000 in
theorem ring3z (a b A S P D : Int)
    (hA : ∀ w, Calls Tryz.prog 13 #[.int .i64 3, .int .i64 a] w fun e w' => e = .returned (.tuple #[.int .i64 A, .int .i64 0]) ∧ Below w.heap.size w w')
    (hB : ∀ w, Calls Tryz.prog 13 #[.int .i64 3, .int .i64 b] w fun e w' => e = .returned (.tuple #[.int .i64 0, .int .i64 0]) ∧ Below w.heap.size w w')
    (hS : ∀ w, Calls Tryz.prog 19 #[.int .i64 3, .int .i64 0, .int .i64 A, .int .i64 0] w fun e w' => e = .returned (.tuple #[.int .i64 S, .int .i64 0]) ∧ Below w.heap.size w w')
    (hT : ∀ w, Calls Tryz.prog 19 #[.int .i64 3, .int .i64 0, .int .i64 0, .int .i64 A] w fun e w' => e = .returned (.tuple #[.int .i64 S, .int .i64 0]) ∧ Below w.heap.size w w')
    (hP : ∀ w, Calls Tryz.prog 19 #[.int .i64 3, .int .i64 2, .int .i64 A, .int .i64 0] w fun e w' => e = .returned (.tuple #[.int .i64 P, .int .i64 0]) ∧ Below w.heap.size w w')
    (hQ : ∀ w, Calls Tryz.prog 19 #[.int .i64 3, .int .i64 2, .int .i64 0, .int .i64 A] w fun e w' => e = .returned (.tuple #[.int .i64 P, .int .i64 0]) ∧ Below w.heap.size w w')
    (hD : ∀ w, Calls Tryz.prog 19 #[.int .i64 3, .int .i64 1, .int .i64 A, .int .i64 0] w fun e w' => e = .returned (.tuple #[.int .i64 D, .int .i64 0]) ∧ Below w.heap.size w w')
    (hK : ∀ w, Calls Tryz.prog 19 #[.int .i64 3, .int .i64 0, .int .i64 D, .int .i64 0] w fun e w' => e = .returned (.tuple #[.int .i64 A, .int .i64 0]) ∧ Below w.heap.size w w')
    (hX : ∀ w, Calls Tryz.prog 19 #[.int .i64 3, .int .i64 3, .int .i64 A, .int .i64 0] w fun e w' => e = .returned (.tuple #[.int .i64 0, .int .i64 11]) ∧ Below w.heap.size w w')
    (hY : ∀ w, Calls Tryz.prog 19 #[.int .i64 3, .int .i64 4, .int .i64 A, .int .i64 0] w fun e w' => e = .returned (.tuple #[.int .i64 0, .int .i64 11]) ∧ Below w.heap.size w w')
    (w : World) (ht : TabN w) :
    Calls Tryz.prog 10 #[.int .i64 3, .int .i64 a, .int .i64 b] w fun e w' => e = .returned (.bool true) ∧ Below w.heap.size w w' := by
  have HT := Lib.hid ht
  have HhA := Lib.hid hA
  have HhB := Lib.hid hB
  have HhS := Lib.hid hS
  have HhT := Lib.hid hT
  have HhP := Lib.hid hP
  have HhQ := Lib.hid hQ
  have HhD := Lib.hid hD
  have HhK := Lib.hid hK
  have HhX := Lib.hid hX
  have HhY := Lib.hid hY
  clear ht hA hB hS hT hP hQ hD hK hX hY
  go_enter Tryz.func10, Tryz.ntmps10
  go_wp2_with fail
  refine (awake_any _ HT.out).mono ?_
  rintro e w0 ⟨rfl, hb⟩
  have HB0 := Lib.hid hb
  clear hb
  go_wp2_with fail
  refine (HhA.out _).mono ?_
  rintro e w1 ⟨rfl, hb⟩
  have HB1 := Lib.hid (HB0.out.trans (hb.mono HB0.out.size))
  clear hb
  go_wp2_with fail
  refine (HhB.out _).mono ?_
  rintro e w2 ⟨rfl, hb⟩
  have HB2 := Lib.hid (HB1.out.trans (hb.mono HB1.out.size))
  clear hb
  go_wp2_with fail
  refine (HhS.out _).mono ?_
  rintro e w3 ⟨rfl, hb⟩
  have HB3 := Lib.hid (HB2.out.trans (hb.mono HB2.out.size))
  clear hb
  go_wp2_with fail
  refine (HhT.out _).mono ?_
  rintro e w4 ⟨rfl, hb⟩
  have HB4 := Lib.hid (HB3.out.trans (hb.mono HB3.out.size))
  clear hb
  go_wp2_with fail
  refine (HhP.out _).mono ?_
  rintro e w5 ⟨rfl, hb⟩
  have HB5 := Lib.hid (HB4.out.trans (hb.mono HB4.out.size))
  clear hb
  go_wp2_with fail
  refine (HhQ.out _).mono ?_
  rintro e w6 ⟨rfl, hb⟩
  have HB6 := Lib.hid (HB5.out.trans (hb.mono HB5.out.size))
  clear hb
  go_wp2_with fail
  refine (HhD.out _).mono ?_
  rintro e w7 ⟨rfl, hb⟩
  have HB7 := Lib.hid (HB6.out.trans (hb.mono HB6.out.size))
  clear hb
  go_wp2_with fail
  refine (HhK.out _).mono ?_
  rintro e w8 ⟨rfl, hb⟩
  have HB8 := Lib.hid (HB7.out.trans (hb.mono HB7.out.size))
  clear hb
  go_wp2_with fail
  refine (HhX.out _).mono ?_
  rintro e w9 ⟨rfl, hb⟩
  have HB9 := Lib.hid (HB8.out.trans (hb.mono HB8.out.size))
  clear hb
  go_wp2_with fail
  refine (HhY.out _).mono ?_
  rintro e w10 ⟨rfl, hb⟩
  have HB10 := Lib.hid (HB9.out.trans (hb.mono HB9.out.size))
  clear hb
  go_wp2_with fail
  go_ret
  exact ⟨rfl, HB10.out⟩

theorem back3 (A B : Int) (a0 : -9223372036854775808 ≤ A) (a1 : A ≤ 9223372036854775807) : wrap64 (wrap64 (wrap64 (A.tdiv B) * B) + A.tmod B) = A := by
  have hA : wrap64 A = A := by unfold wrap64; omega
  refine (wraps64.eq _ A ?_).trans hA
  have e : A = A.tdiv B * B + A.tmod B := by
    have := Int.mul_tdiv_add_tmod A B
    rw [Int.mul_comm] at this
    exact this.symm
  conv => rhs; rw [e]
  refine add_mod ?_ rfl
  rw [wraps64.mod]
  exact mul_mod (wraps64.mod _) rfl
theorem walk_k1 (a b : Int) (a0 : -9223372036854775808 ≤ a) (a1 : a ≤ 9223372036854775807) (b0 : -9223372036854775808 ≤ b) (b1 : b ≤ 9223372036854775807) (w : World) (ht : TabN w) :
    Calls Tryz.prog 10 #[.int .i64 1, .int .i64 a, .int .i64 b] w fun e w' => e = .returned (.bool true) ∧ Below w.heap.size w w' := by
  have iA : ((a % 256) % 256) = (a % 256) := by omega
  have iB : ((b % 256) % 256) = (b % 256) := by omega
  have hT : ∀ w, Calls Tryz.prog 19 #[.int .i64 1, .int .i64 0, .int .i64 (b % 256), .int .i64 (a % 256)] w fun e w' => e = .returned (.tuple #[.int .i64 ((opI 0 ((a % 256) % 256) ((b % 256) % 256)) % 256), .int .i64 0]) ∧ Below w.heap.size w w' := fun w => by
    have h := ar1_0 (b % 256) (a % 256) w
    rw [show opI 0 ((b % 256) % 256) ((a % 256) % 256) = opI 0 ((a % 256) % 256) ((b % 256) % 256) from by show wrap64 _ = wrap64 _; rw [Int.add_comm]] at h
    exact h
  have hQ : ∀ w, Calls Tryz.prog 19 #[.int .i64 1, .int .i64 2, .int .i64 (b % 256), .int .i64 (a % 256)] w fun e w' => e = .returned (.tuple #[.int .i64 ((opI 2 ((a % 256) % 256) ((b % 256) % 256)) % 256), .int .i64 0]) ∧ Below w.heap.size w w' := fun w => by
    have h := ar1_2 (b % 256) (a % 256) w
    rw [show opI 2 ((b % 256) % 256) ((a % 256) % 256) = opI 2 ((a % 256) % 256) ((b % 256) % 256) from by show wrap64 _ = wrap64 _; rw [Int.mul_comm]] at h
    exact h
  have hK : ∀ w, Calls Tryz.prog 19 #[.int .i64 1, .int .i64 0, .int .i64 ((opI 1 ((a % 256) % 256) ((b % 256) % 256)) % 256), .int .i64 (b % 256)] w fun e w' => e = .returned (.tuple #[.int .i64 (a % 256), .int .i64 0]) ∧ Below w.heap.size w w' := fun w => by
    have h := ar1_0 ((opI 1 ((a % 256) % 256) ((b % 256) % 256)) % 256) (b % 256) w
    rw [show ((opI 0 (((opI 1 ((a % 256) % 256) ((b % 256) % 256)) % 256) % 256) ((b % 256) % 256)) % 256) = (a % 256) from by simp only [opI]; unfold wrap64; omega] at h
    exact h
  by_cases hz : (b % 256) = 0
  · rw [hz] at hT hQ hK
    have hX : ∀ w, Calls Tryz.prog 19 #[.int .i64 1, .int .i64 3, .int .i64 (a % 256), .int .i64 0] w fun e w' => e = .returned (.tuple #[.int .i64 0, .int .i64 11]) ∧ Below w.heap.size w w' := fun w => ar1_3z (a % 256) 0 rfl w
    have hY : ∀ w, Calls Tryz.prog 19 #[.int .i64 1, .int .i64 4, .int .i64 (a % 256), .int .i64 0] w fun e w' => e = .returned (.tuple #[.int .i64 0, .int .i64 11]) ∧ Below w.heap.size w w' := fun w => ar1_4z (a % 256) 0 rfl w
    have hS := fun w => ar1_0 (a % 256) (b % 256) w
    have hP := fun w => ar1_2 (a % 256) (b % 256) w
    have hD := fun w => ar1_1 (a % 256) (b % 256) w
    have hB := fun w => Wrap1 b w
    rw [hz] at hS hP hD hB
    exact ring1z a b _ _ _ _ (fun w => Wrap1 a w) hB hS hT hP hQ hD hK hX hY w ht
  · have hnz : ((b % 256) % 256) ≠ 0 := by rw [iB]; exact hz
    have hE : ∀ w, Calls Tryz.prog 19 #[.int .i64 1, .int .i64 0, .int .i64 ((opI 2 (((opI 3 ((a % 256) % 256) ((b % 256) % 256)) % 256) % 256) ((b % 256) % 256)) % 256), .int .i64 ((opI 4 ((a % 256) % 256) ((b % 256) % 256)) % 256)] w fun e w' => e = .returned (.tuple #[.int .i64 (a % 256), .int .i64 0]) ∧ Below w.heap.size w w' := fun w => by
      have h := ar1_0 ((opI 2 (((opI 3 ((a % 256) % 256) ((b % 256) % 256)) % 256) % 256) ((b % 256) % 256)) % 256) ((opI 4 ((a % 256) % 256) ((b % 256) % 256)) % 256) w
      rw [show ((opI 0 (((opI 2 (((opI 3 ((a % 256) % 256) ((b % 256) % 256)) % 256) % 256) ((b % 256) % 256)) % 256) % 256) (((opI 4 ((a % 256) % 256) ((b % 256) % 256)) % 256) % 256)) % 256) = (a % 256) from by
        simp only [opI]
        rw [iA, iB]
        exact back_div (wr := fun n => n % 256) wraps1 (.inl rfl) _ _ iA] at h
      exact h
    exact ring1 a b _ _ _ _ _ _ _ _ (fun w => Wrap1 a w) (fun w => Wrap1 b w) (fun w => ar1_0 (a % 256) (b % 256) w) hT (fun w => ar1_2 (a % 256) (b % 256) w) hQ (fun w => ar1_1 (a % 256) (b % 256) w) hK (fun w => ar1_3 (a % 256) (b % 256) hnz w) (fun w => ar1_4 (a % 256) (b % 256) hnz w) (fun w => ar1_2 ((opI 3 ((a % 256) % 256) ((b % 256) % 256)) % 256) (b % 256) w) hE (by simpa using hz) w ht

theorem walk_k2 (a b : Int) (a0 : -9223372036854775808 ≤ a) (a1 : a ≤ 9223372036854775807) (b0 : -9223372036854775808 ≤ b) (b1 : b ≤ 9223372036854775807) (w : World) (ht : TabN w) :
    Calls Tryz.prog 10 #[.int .i64 2, .int .i64 a, .int .i64 b] w fun e w' => e = .returned (.bool true) ∧ Below w.heap.size w w' := by
  have iA : (wrap32 (wrap32 a)) = (wrap32 a) := by unfold wrap32; omega
  have iB : (wrap32 (wrap32 b)) = (wrap32 b) := by unfold wrap32; omega
  have hT : ∀ w, Calls Tryz.prog 19 #[.int .i64 2, .int .i64 0, .int .i64 (wrap32 b), .int .i64 (wrap32 a)] w fun e w' => e = .returned (.tuple #[.int .i64 (wrap32 (opI 0 (wrap32 (wrap32 a)) (wrap32 (wrap32 b)))), .int .i64 0]) ∧ Below w.heap.size w w' := fun w => by
    have h := ar2_0 (wrap32 b) (wrap32 a) w
    rw [show opI 0 (wrap32 (wrap32 b)) (wrap32 (wrap32 a)) = opI 0 (wrap32 (wrap32 a)) (wrap32 (wrap32 b)) from by show wrap64 _ = wrap64 _; rw [Int.add_comm]] at h
    exact h
  have hQ : ∀ w, Calls Tryz.prog 19 #[.int .i64 2, .int .i64 2, .int .i64 (wrap32 b), .int .i64 (wrap32 a)] w fun e w' => e = .returned (.tuple #[.int .i64 (wrap32 (opI 2 (wrap32 (wrap32 a)) (wrap32 (wrap32 b)))), .int .i64 0]) ∧ Below w.heap.size w w' := fun w => by
    have h := ar2_2 (wrap32 b) (wrap32 a) w
    rw [show opI 2 (wrap32 (wrap32 b)) (wrap32 (wrap32 a)) = opI 2 (wrap32 (wrap32 a)) (wrap32 (wrap32 b)) from by show wrap64 _ = wrap64 _; rw [Int.mul_comm]] at h
    exact h
  have hK : ∀ w, Calls Tryz.prog 19 #[.int .i64 2, .int .i64 0, .int .i64 (wrap32 (opI 1 (wrap32 (wrap32 a)) (wrap32 (wrap32 b)))), .int .i64 (wrap32 b)] w fun e w' => e = .returned (.tuple #[.int .i64 (wrap32 a), .int .i64 0]) ∧ Below w.heap.size w w' := fun w => by
    have h := ar2_0 (wrap32 (opI 1 (wrap32 (wrap32 a)) (wrap32 (wrap32 b)))) (wrap32 b) w
    rw [show (wrap32 (opI 0 (wrap32 (wrap32 (opI 1 (wrap32 (wrap32 a)) (wrap32 (wrap32 b))))) (wrap32 (wrap32 b)))) = (wrap32 a) from by simp only [opI]; unfold wrap64 wrap32; omega] at h
    exact h
  by_cases hz : (wrap32 b) = 0
  · rw [hz] at hT hQ hK
    have hX : ∀ w, Calls Tryz.prog 19 #[.int .i64 2, .int .i64 3, .int .i64 (wrap32 a), .int .i64 0] w fun e w' => e = .returned (.tuple #[.int .i64 0, .int .i64 11]) ∧ Below w.heap.size w w' := fun w => ar2_3z (wrap32 a) 0 (by unfold wrap32; omega) w
    have hY : ∀ w, Calls Tryz.prog 19 #[.int .i64 2, .int .i64 4, .int .i64 (wrap32 a), .int .i64 0] w fun e w' => e = .returned (.tuple #[.int .i64 0, .int .i64 11]) ∧ Below w.heap.size w w' := fun w => ar2_4z (wrap32 a) 0 (by unfold wrap32; omega) w
    have hS := fun w => ar2_0 (wrap32 a) (wrap32 b) w
    have hP := fun w => ar2_2 (wrap32 a) (wrap32 b) w
    have hD := fun w => ar2_1 (wrap32 a) (wrap32 b) w
    have hB := fun w => Wrap2 b w
    rw [hz] at hS hP hD hB
    exact ring2z a b _ _ _ _ (fun w => Wrap2 a w) hB hS hT hP hQ hD hK hX hY w ht
  · have hnz : (wrap32 (wrap32 b)) ≠ 0 := by rw [iB]; exact hz
    have hE : ∀ w, Calls Tryz.prog 19 #[.int .i64 2, .int .i64 0, .int .i64 (wrap32 (opI 2 (wrap32 (wrap32 (opI 3 (wrap32 (wrap32 a)) (wrap32 (wrap32 b))))) (wrap32 (wrap32 b)))), .int .i64 (wrap32 (opI 4 (wrap32 (wrap32 a)) (wrap32 (wrap32 b))))] w fun e w' => e = .returned (.tuple #[.int .i64 (wrap32 a), .int .i64 0]) ∧ Below w.heap.size w w' := fun w => by
      have h := ar2_0 (wrap32 (opI 2 (wrap32 (wrap32 (opI 3 (wrap32 (wrap32 a)) (wrap32 (wrap32 b))))) (wrap32 (wrap32 b)))) (wrap32 (opI 4 (wrap32 (wrap32 a)) (wrap32 (wrap32 b)))) w
      rw [show (wrap32 (opI 0 (wrap32 (wrap32 (opI 2 (wrap32 (wrap32 (opI 3 (wrap32 (wrap32 a)) (wrap32 (wrap32 b))))) (wrap32 (wrap32 b))))) (wrap32 (wrap32 (opI 4 (wrap32 (wrap32 a)) (wrap32 (wrap32 b))))))) = (wrap32 a) from by
        simp only [opI]
        rw [iA, iB]
        exact back_div wraps2 (.inr (.inl rfl)) _ _ iA] at h
      exact h
    exact ring2 a b _ _ _ _ _ _ _ _ (fun w => Wrap2 a w) (fun w => Wrap2 b w) (fun w => ar2_0 (wrap32 a) (wrap32 b) w) hT (fun w => ar2_2 (wrap32 a) (wrap32 b) w) hQ (fun w => ar2_1 (wrap32 a) (wrap32 b) w) hK (fun w => ar2_3 (wrap32 a) (wrap32 b) hnz w) (fun w => ar2_4 (wrap32 a) (wrap32 b) hnz w) (fun w => ar2_2 (wrap32 (opI 3 (wrap32 (wrap32 a)) (wrap32 (wrap32 b)))) (wrap32 b) w) hE (by simpa using hz) w ht

theorem walk_k3 (a b : Int) (a0 : -9223372036854775808 ≤ a) (a1 : a ≤ 9223372036854775807) (b0 : -9223372036854775808 ≤ b) (b1 : b ≤ 9223372036854775807) (w : World) (ht : TabN w) :
    Calls Tryz.prog 10 #[.int .i64 3, .int .i64 a, .int .i64 b] w fun e w' => e = .returned (.bool true) ∧ Below w.heap.size w w' := by
  have iA : a = a := by rfl
  have iB : b = b := by rfl
  have hT : ∀ w, Calls Tryz.prog 19 #[.int .i64 3, .int .i64 0, .int .i64 b, .int .i64 a] w fun e w' => e = .returned (.tuple #[.int .i64 (opI 0 a b), .int .i64 0]) ∧ Below w.heap.size w w' := fun w => by
    have h := ar3_0 b a w
    rw [show opI 0 b a = opI 0 a b from by show wrap64 _ = wrap64 _; rw [Int.add_comm]] at h
    exact h
  have hQ : ∀ w, Calls Tryz.prog 19 #[.int .i64 3, .int .i64 2, .int .i64 b, .int .i64 a] w fun e w' => e = .returned (.tuple #[.int .i64 (opI 2 a b), .int .i64 0]) ∧ Below w.heap.size w w' := fun w => by
    have h := ar3_2 b a w
    rw [show opI 2 b a = opI 2 a b from by show wrap64 _ = wrap64 _; rw [Int.mul_comm]] at h
    exact h
  have hK : ∀ w, Calls Tryz.prog 19 #[.int .i64 3, .int .i64 0, .int .i64 (opI 1 a b), .int .i64 b] w fun e w' => e = .returned (.tuple #[.int .i64 a, .int .i64 0]) ∧ Below w.heap.size w w' := fun w => by
    have h := ar3_0 (opI 1 a b) b w
    rw [show (opI 0 (opI 1 a b) b) = a from by simp only [opI]; unfold wrap64; omega] at h
    exact h
  by_cases hz : b = 0
  · subst hz
    have hX : ∀ w, Calls Tryz.prog 19 #[.int .i64 3, .int .i64 3, .int .i64 a, .int .i64 0] w fun e w' => e = .returned (.tuple #[.int .i64 0, .int .i64 11]) ∧ Below w.heap.size w w' := fun w => ar3_3z a w
    have hY : ∀ w, Calls Tryz.prog 19 #[.int .i64 3, .int .i64 4, .int .i64 a, .int .i64 0] w fun e w' => e = .returned (.tuple #[.int .i64 0, .int .i64 11]) ∧ Below w.heap.size w w' := fun w => ar3_4z a w
    have hS := fun w => ar3_0 a 0 w
    have hP := fun w => ar3_2 a 0 w
    have hD := fun w => ar3_1 a 0 w
    have hB := fun w => Wrap3 0 w
    exact ring3z a 0 _ _ _ _ (fun w => Wrap3 a w) hB hS hT hP hQ hD hK hX hY w ht
  · have hnz : b ≠ 0 := hz
    have hE : ∀ w, Calls Tryz.prog 19 #[.int .i64 3, .int .i64 0, .int .i64 (opI 2 (opI 3 a b) b), .int .i64 (opI 4 a b)] w fun e w' => e = .returned (.tuple #[.int .i64 a, .int .i64 0]) ∧ Below w.heap.size w w' := fun w => by
      have h := ar3_0 (opI 2 (opI 3 a b) b) (opI 4 a b) w
      rw [show (opI 0 (opI 2 (opI 3 a b) b) (opI 4 a b)) = a from by
        simp only [opI]
        exact back3 a b a0 a1] at h
      exact h
    exact ring3 a b _ _ _ _ _ _ _ _ (fun w => Wrap3 a w) (fun w => Wrap3 b w) (fun w => ar3_0 a b w) hT (fun w => ar3_2 a b w) hQ (fun w => ar3_1 a b w) hK (fun w => ar3_3 a b hnz w) (fun w => ar3_4 a b hnz w) (fun w => ar3_2 (opI 3 a b) b w) hE (by simpa using hz) w ht

set_option maxRecDepth 100000 in
theorem walk0 (k a b : Int) (h1 : (k != 1) = true) (h2 : (k != 2) = true) (h3 : (k != 3) = true) (w : World) (ht : TabN w) :
    Calls Tryz.prog 10 #[.int .i64 k, .int .i64 a, .int .i64 b] w fun e w' => e = .returned (.bool true) ∧ Below w.heap.size w w' := by
  have HT := Lib.hid ht
  clear ht
  go_enter Tryz.func10, Tryz.ntmps10
  go_wp2_with fail
  refine (awake_any _ HT.out).mono ?_
  rintro e w0 ⟨rfl, hb⟩
  have HB0 := Lib.hid hb
  clear hb
  go_wp2_with fail
  refine (awake_any _ (HT.out.below HB0.out)).mono ?_
  rintro e w1 ⟨rfl, hb⟩
  have HB1 := Lib.hid (HB0.out.trans (hb.mono HB0.out.size))
  clear hb
  go_wp2_with fail
  go_ret
  exact ⟨rfl, HB1.out⟩
theorem i64_of {n : Int} (h : (Lit.int .i64 n).wf = true) : -9223372036854775808 ≤ n ∧ n ≤ 9223372036854775807 := by
  simp [Lit.wf, IntKind.min, IntKind.max, IntKind.signed, IntKind.bits] at h; omega
theorem walk (k : Int) (wk : (Lit.int .i64 k).wf = true) (a : Int) (wa : (Lit.int .i64 a).wf = true) (b : Int) (wb : (Lit.int .i64 b).wf = true) (w : World) (ht : TabN w) :
    Calls Tryz.prog 10 #[.int .i64 k, .int .i64 a, .int .i64 b] w fun e w' => e = .returned (.bool true) ∧ Below w.heap.size w w' := by
  obtain ⟨a0, a1⟩ := i64_of wa
  obtain ⟨b0, b1⟩ := i64_of wb
  by_cases h1 : k = 1
  · subst h1; exact walk_k1 a b a0 a1 b0 b1 w ht
  by_cases h2 : k = 2
  · subst h2; exact walk_k2 a b a0 a1 b0 b1 w ht
  by_cases h3 : k = 3
  · subst h3; exact walk_k3 a b a0 a1 b0 b1 w ht
  exact walk0 k a b (by simpa using h1) (by simpa using h2) (by simpa using h3) w ht

set_option maxRecDepth 100000 in
theorem lifted (os : Os) (started : os.Started) (H : Type) (enc : TypeId × Value → H) :
    ReturnsInHanded {} Tryz.checked os 10 .any (fun w args => (Rows.numberRingSpec.pre enc Tryz.prog Tryz.f10 [] false w args ∧ laidMetH Tryz.prog laidN w) ∧ sizedMet enc Tryz.prog Tryz.f10 (OpenSpec.ofChange Rows.numberRingSpec) false w args)
      (Rows.numberRingSpec.post enc Tryz.prog Tryz.f10 false true false false) := by
  refine returnsInHanded_and_shaped (C := Tryz.checked) (X := fun w _ => laidMetH Tryz.prog laidN w) (fun _ _ _ hh h => h.of_heap hh) own started (by kernel_rfl) Tryz.func10
    (ChangeSpec.witness_shaped (enc := enc) (C := Tryz.checked) (os := os) (X := fun w _ => laidMetH Tryz.prog laidN w) false (World.laidAll Tryz.prog os laidN) #[.int .i64 0, .int .i64 0, .int .i64 0] 8 (World.laidAll_os _ _ _) (shaped_all os _) (by kernel_rfl) (by kernel_rfl) (by kernel_rfl) (met_all os _)) ?_
  intro W base args ds gs before hval0 hW hL hSh
  have hval : ∀ (j : Nat) t v, Tryz.f10.params[j]? = some t → args[j]? = some v → Value.okWide Tryz.prog W .any base t v := hval0
  have hW' := hW
  obtain ⟨p, q, hA0, hV, rfl, hfz, hnd⟩ := hW
  have hA : DataW.TrodAll enc Tryz.prog W 0 (fun _ => true) true Tryz.f10.params.toList args.toList ds p := hA0
  rw [Tryz.params10] at hA hval
  obtain ⟨v0, vs0, d0, ds0, p0, q0, hargs, rfl, rfl, h0, r0⟩ := trodAll_cons hA
  obtain ⟨v1, vs1, d1, ds1, p1, q1, rfl, rfl, rfl, h1, r1⟩ := trodAll_cons r0
  obtain ⟨v2, vs2, d2, ds2, p2, q2, rfl, rfl, rfl, h2, r2⟩ := trodAll_cons r1
  obtain ⟨rfl, rfl, rfl⟩ := trodAll_nil r2
  obtain rfl : args = #[v0, v1, v2] := by cases args; simp_all
  obtain ⟨rfl, rfl⟩ := trodVars_none hV
  obtain ⟨a0, rfl, rfl, rfl, w0⟩ := open_int Tryz.underlying3 (hval 0 3 v0 rfl rfl) h0
  obtain ⟨a1, rfl, rfl, rfl, w1⟩ := open_int Tryz.underlying2 (hval 1 2 v1 rfl rfl) h1
  obtain ⟨a2, rfl, rfl, rfl, w2⟩ := open_int Tryz.underlying2 (hval 2 2 v2 rfl rfl) h2
  clear hA0 hval0
  have ht := of_laid hSh hL
  refine (walk a0 w0 a1 w1 a2 w2 W ht).mono fun e W' ⟨he, bel⟩ => ?_
  subst he
  exact ⟨_, rfl, _, _, _, [], _, [], hW', trodAll_mk1 (shut_bool Tryz.underlying4 _), (trodAll_cons_mk (shut_int Tryz.underlying3 w0) (trodAll_cons_mk (shut_int Tryz.underlying2 w1) (trodAll_cons_mk (shut_int Tryz.underlying2 w2) trodAll_mk0))), rfl, bel.frame _, fun h => by cases h⟩

set_option maxHeartbeats 16000000 in
set_option maxRecDepth 100000 in
theorem joined : joinedFacts Tryz.prog 10 Tryz.f10 Rows.numberRingSpec Rows.numberRingRow = true := by
  unfold joinedFacts
  simp only [Bool.and_eq_true]
  repeat' apply And.intro
  all_goals as_aux_lemma => kernel_rfl
theorem over : Rows.numberRingRow.holds Tryz.pinned (OpenSpec.ofChange Rows.numberRingSpec) :=
  OpenClaim.holds_of_wide 10 Tryz.f10 rfl rfl rfl rfl rfl rfl rfl ⟨rfl, rfl, rfl, rfl, rfl⟩ rfl rfl rfl rfl rfl (by kernel_rfl) Tryz.func10 joined
    (of_decide_eq_true (by kernel_rfl)) (by unfold Func.isWrapper; first | (rw [if_pos (by decide +kernel)]; kernel_rfl) | (rw [if_neg (by decide +kernel)]; exact ⟨rfl, rfl⟩))
    (fun os started H enc _ => lifted os started H enc)

theorem card_holds : Rows.NumberRingCardSaid :=
  Claim7.holds_tied_plain_at .later [] [.data, .data, .widerDeep, .widerDeep, .data, .data, .data, .data, .data, .data, .sentinel, .sentinel, .pinned, .pinned, .pinned] true (true, "64b06c7202077d118462950218fe2974fddba9497f2cf52520b628f8eed59e5b") true
    over (fun _ h => by cases h) (by kernel_rfl) (fun _ h => by cases h) numberRing_row_tie rfl ⟨rfl, rfl⟩ (by kernel_rfl) rfl
    (fun f fn hf hfn => by
      obtain rfl : f = 10 := Option.some.inj ((show Tryz.prog.funcNamed "acheron/acheronlaw04.NumberRing" = some 10 by kernel_rfl).symm.trans hf) |>.symm
      obtain rfl : fn = Tryz.f10 := (Option.some.inj (Tryz.func10.symm.trans hfn)).symm
      exact ⟨by kernel_rfl, fun j t ht => by
        rw [Tryz.params10] at ht
        have hm : t ∈ [3, 2] := by have := Array.mem_of_getElem? ht; simp at this ⊢; omega
        have hall : ([3, 2].all fun u => !Tryz.prog.wantsStandIn u) = true := by kernel_rfl
        exact (show Tryz.prog.wantsStandIn t = false by simpa using List.all_eq_true.1 hall t hm)⟩)
    (by kernel_rfl)
end Go.Proofs.YthbmdlihfocbmaaGreatDoor.numberRing

