/-
  For all kinds and all numbers and counts the law NumberShifts returns true. No condition.
-/
import Derived.Test.YthbmdlihfocbmaaGreatDoorRows
import Derived.Test.YthbmdlihfocbmaaGreatDoorAwakeN
import Derived.Test.YthbmdlihfocbmaaGreatDoorWrapA
import Derived.Test.YthbmdlihfocbmaaGreatDoorAr1
import Derived.Test.YthbmdlihfocbmaaGreatDoorAr2
import Derived.Test.YthbmdlihfocbmaaGreatDoorAr3
import Derived.Test.YthbmdlihfocbmaaGreatDoorLaidN
import Derived.WalkKit
import Derived.ProofKit
import Derived.OpenShut
import Derived.ShutString
import Derived.ChangeOld
import Derived.Carry
import Derived.SevenTiedAt
import Derived.Test.YthbmdlihfocbmaaGreatDoorCards
import Derived.Test.YthbmdlihfocbmaaGreatDoorTie
set_option linter.unusedVariables false
namespace Go.Proofs.YthbmdlihfocbmaaGreatDoor.numberShifts
open Go.ChangeShapes Go.WideShapes Go.ChangeAt Go.RowKit

theorem own : ownKnob Tryz.prog.godebug = none := by kernel_rfl

set_option maxHeartbeats 1000000 in
set_option maxRecDepth 100000 in
theorem shift1 (a c n q L R O : Int) (c0 : 0 ≤ c) (c1 : c ≤ 255) (hn : c % 8 = n) (n0 : 0 ≤ n) (n1 : n < 8) (hq : wrap64 (IntKind.u64.wrap (2 ^ n.toNat)) = q)
    (hL : ∀ w, Calls Tryz.prog 19 #[.int .i64 1, .int .i64 8, .int .i64 a, .int .i64 n] w fun e w' => e = .returned (.tuple #[.int .i64 L, .int .i64 0]) ∧ Below w.heap.size w w')
    (hP : ∀ w, Calls Tryz.prog 19 #[.int .i64 1, .int .i64 2, .int .i64 a, .int .i64 q] w fun e w' => e = .returned (.tuple #[.int .i64 L, .int .i64 0]) ∧ Below w.heap.size w w')
    (hR : ∀ w, Calls Tryz.prog 19 #[.int .i64 1, .int .i64 9, .int .i64 a, .int .i64 (n + 1)] w fun e w' => e = .returned (.tuple #[.int .i64 R, .int .i64 0]) ∧ Below w.heap.size w w')
    (hO : ∀ w, Calls Tryz.prog 19 #[.int .i64 1, .int .i64 9, .int .i64 a, .int .i64 n] w fun e w' => e = .returned (.tuple #[.int .i64 O, .int .i64 0]) ∧ Below w.heap.size w w')
    (hT : ∀ w, Calls Tryz.prog 19 #[.int .i64 1, .int .i64 9, .int .i64 O, .int .i64 1] w fun e w' => e = .returned (.tuple #[.int .i64 R, .int .i64 0]) ∧ Below w.heap.size w w')
    (w : World) (ht : TabN w) :
    Calls Tryz.prog 12 #[.int .i64 1, .int .i64 a, .int .u8 c] w fun e w' => e = .returned (.bool true) ∧ Below w.heap.size w w' := by
  have HT := Lib.hid ht
  have HhL := Lib.hid hL
  have HhP := Lib.hid hP
  have HhR := Lib.hid hR
  have HhO := Lib.hid hO
  have HhT := Lib.hid hT
  clear ht hL hP hR hO hT
  go_enter Tryz.func12, Tryz.ntmps12
  go_wp2_with fail
  refine (awake_any _ HT.out).mono ?_
  rintro e w0 ⟨rfl, hb⟩
  have HB0 := Lib.hid hb
  clear hb
  go_wp2_with fail
  refine (HhL.out _).mono ?_
  rintro e w1 ⟨rfl, hb⟩
  have HB1 := Lib.hid (HB0.out.trans (hb.mono HB0.out.size))
  clear hb
  go_wp2_with fail
  refine (HhP.out _).mono ?_
  rintro e w2 ⟨rfl, hb⟩
  have HB2 := Lib.hid (HB1.out.trans (hb.mono HB1.out.size))
  clear hb
  go_wp2_with fail
  refine (HhR.out _).mono ?_
  rintro e w3 ⟨rfl, hb⟩
  have HB3 := Lib.hid (HB2.out.trans (hb.mono HB2.out.size))
  clear hb
  go_wp2_with fail
  refine (HhO.out _).mono ?_
  rintro e w4 ⟨rfl, hb⟩
  have HB4 := Lib.hid (HB3.out.trans (hb.mono HB3.out.size))
  clear hb
  go_wp2_with fail
  refine (HhT.out _).mono ?_
  rintro e w5 ⟨rfl, hb⟩
  have HB5 := Lib.hid (HB4.out.trans (hb.mono HB4.out.size))
  clear hb
  go_wp2_with fail
  go_ret
  exact ⟨rfl, HB5.out⟩

set_option maxHeartbeats 1000000 in
set_option maxRecDepth 100000 in
theorem shift2 (a c n q L R O : Int) (c0 : 0 ≤ c) (c1 : c ≤ 255) (hn : c % 32 = n) (n0 : 0 ≤ n) (n1 : n < 32) (hq : wrap64 (IntKind.u64.wrap (2 ^ n.toNat)) = q)
    (hL : ∀ w, Calls Tryz.prog 19 #[.int .i64 2, .int .i64 8, .int .i64 a, .int .i64 n] w fun e w' => e = .returned (.tuple #[.int .i64 L, .int .i64 0]) ∧ Below w.heap.size w w')
    (hP : ∀ w, Calls Tryz.prog 19 #[.int .i64 2, .int .i64 2, .int .i64 a, .int .i64 q] w fun e w' => e = .returned (.tuple #[.int .i64 L, .int .i64 0]) ∧ Below w.heap.size w w')
    (hR : ∀ w, Calls Tryz.prog 19 #[.int .i64 2, .int .i64 9, .int .i64 a, .int .i64 (n + 1)] w fun e w' => e = .returned (.tuple #[.int .i64 R, .int .i64 0]) ∧ Below w.heap.size w w')
    (hO : ∀ w, Calls Tryz.prog 19 #[.int .i64 2, .int .i64 9, .int .i64 a, .int .i64 n] w fun e w' => e = .returned (.tuple #[.int .i64 O, .int .i64 0]) ∧ Below w.heap.size w w')
    (hT : ∀ w, Calls Tryz.prog 19 #[.int .i64 2, .int .i64 9, .int .i64 O, .int .i64 1] w fun e w' => e = .returned (.tuple #[.int .i64 R, .int .i64 0]) ∧ Below w.heap.size w w')
    (w : World) (ht : TabN w) :
    Calls Tryz.prog 12 #[.int .i64 2, .int .i64 a, .int .u8 c] w fun e w' => e = .returned (.bool true) ∧ Below w.heap.size w w' := by
  have HT := Lib.hid ht
  have HhL := Lib.hid hL
  have HhP := Lib.hid hP
  have HhR := Lib.hid hR
  have HhO := Lib.hid hO
  have HhT := Lib.hid hT
  clear ht hL hP hR hO hT
  go_enter Tryz.func12, Tryz.ntmps12
  go_wp2_with fail
  refine (awake_any _ HT.out).mono ?_
  rintro e w0 ⟨rfl, hb⟩
  have HB0 := Lib.hid hb
  clear hb
  go_wp2_with fail
  refine (HhL.out _).mono ?_
  rintro e w1 ⟨rfl, hb⟩
  have HB1 := Lib.hid (HB0.out.trans (hb.mono HB0.out.size))
  clear hb
  go_wp2_with fail
  refine (HhP.out _).mono ?_
  rintro e w2 ⟨rfl, hb⟩
  have HB2 := Lib.hid (HB1.out.trans (hb.mono HB1.out.size))
  clear hb
  go_wp2_with fail
  refine (HhR.out _).mono ?_
  rintro e w3 ⟨rfl, hb⟩
  have HB3 := Lib.hid (HB2.out.trans (hb.mono HB2.out.size))
  clear hb
  go_wp2_with fail
  refine (HhO.out _).mono ?_
  rintro e w4 ⟨rfl, hb⟩
  have HB4 := Lib.hid (HB3.out.trans (hb.mono HB3.out.size))
  clear hb
  go_wp2_with fail
  refine (HhT.out _).mono ?_
  rintro e w5 ⟨rfl, hb⟩
  have HB5 := Lib.hid (HB4.out.trans (hb.mono HB4.out.size))
  clear hb
  go_wp2_with fail
  go_ret
  exact ⟨rfl, HB5.out⟩

set_option maxHeartbeats 1000000 in
set_option maxRecDepth 100000 in
theorem shift3 (a c n q L R O : Int) (c0 : 0 ≤ c) (c1 : c ≤ 255) (hn : c % 64 = n) (n0 : 0 ≤ n) (n1 : n < 64) (hq : wrap64 (IntKind.u64.wrap (2 ^ n.toNat)) = q)
    (hL : ∀ w, Calls Tryz.prog 19 #[.int .i64 3, .int .i64 8, .int .i64 a, .int .i64 n] w fun e w' => e = .returned (.tuple #[.int .i64 L, .int .i64 0]) ∧ Below w.heap.size w w')
    (hP : ∀ w, Calls Tryz.prog 19 #[.int .i64 3, .int .i64 2, .int .i64 a, .int .i64 q] w fun e w' => e = .returned (.tuple #[.int .i64 L, .int .i64 0]) ∧ Below w.heap.size w w')
    (hR : ∀ w, Calls Tryz.prog 19 #[.int .i64 3, .int .i64 9, .int .i64 a, .int .i64 (n + 1)] w fun e w' => e = .returned (.tuple #[.int .i64 R, .int .i64 0]) ∧ Below w.heap.size w w')
    (hO : ∀ w, Calls Tryz.prog 19 #[.int .i64 3, .int .i64 9, .int .i64 a, .int .i64 n] w fun e w' => e = .returned (.tuple #[.int .i64 O, .int .i64 0]) ∧ Below w.heap.size w w')
    (hT : ∀ w, Calls Tryz.prog 19 #[.int .i64 3, .int .i64 9, .int .i64 O, .int .i64 1] w fun e w' => e = .returned (.tuple #[.int .i64 R, .int .i64 0]) ∧ Below w.heap.size w w')
    (w : World) (ht : TabN w) :
    Calls Tryz.prog 12 #[.int .i64 3, .int .i64 a, .int .u8 c] w fun e w' => e = .returned (.bool true) ∧ Below w.heap.size w w' := by
  have HT := Lib.hid ht
  have HhL := Lib.hid hL
  have HhP := Lib.hid hP
  have HhR := Lib.hid hR
  have HhO := Lib.hid hO
  have HhT := Lib.hid hT
  clear ht hL hP hR hO hT
  go_enter Tryz.func12, Tryz.ntmps12
  go_wp2_with fail
  refine (awake_any _ HT.out).mono ?_
  rintro e w0 ⟨rfl, hb⟩
  have HB0 := Lib.hid hb
  clear hb
  go_wp2_with fail
  refine (HhL.out _).mono ?_
  rintro e w1 ⟨rfl, hb⟩
  have HB1 := Lib.hid (HB0.out.trans (hb.mono HB0.out.size))
  clear hb
  go_wp2_with fail
  refine (HhP.out _).mono ?_
  rintro e w2 ⟨rfl, hb⟩
  have HB2 := Lib.hid (HB1.out.trans (hb.mono HB1.out.size))
  clear hb
  go_wp2_with fail
  refine (HhR.out _).mono ?_
  rintro e w3 ⟨rfl, hb⟩
  have HB3 := Lib.hid (HB2.out.trans (hb.mono HB2.out.size))
  clear hb
  go_wp2_with fail
  refine (HhO.out _).mono ?_
  rintro e w4 ⟨rfl, hb⟩
  have HB4 := Lib.hid (HB3.out.trans (hb.mono HB3.out.size))
  clear hb
  go_wp2_with fail
  refine (HhT.out _).mono ?_
  rintro e w5 ⟨rfl, hb⟩
  have HB5 := Lib.hid (HB4.out.trans (hb.mono HB4.out.size))
  clear hb
  go_wp2_with fail
  go_ret
  exact ⟨rfl, HB5.out⟩

/-- What a wrapping modulo M is. -/
structure Wraps (M : Int) (wr : Int → Int) : Prop where
  mod : ∀ n, wr n % M = n % M
  eq : ∀ n m, n % M = m % M → wr n = wr m
theorem wraps1 : Wraps 256 (fun n => n % 256) := ⟨fun n => by show n % 256 % 256 = _; omega, fun n m h => h⟩
theorem wraps2 : Wraps 4294967296 wrap32 := ⟨fun n => by unfold wrap32; omega, fun n m h => by unfold wrap32; omega⟩
theorem wraps64 : Wraps 18446744073709551616 wrap64 := ⟨fun n => by unfold wrap64; omega, fun n m h => by unfold wrap64; omega⟩
theorem mod64 (M n : Int) (hM : M = 256 ∨ M = 4294967296 ∨ M = 18446744073709551616) : wrap64 n % M = n % M := by
  unfold wrap64
  rcases hM with rfl | rfl | rfl <;> omega
theorem add_mod {M a b c d : Int} (h1 : a % M = c % M) (h2 : b % M = d % M) : (a + b) % M = (c + d) % M := by
  rw [Int.add_emod, h1, h2, ← Int.add_emod]
theorem mul_mod {M a b c d : Int} (h1 : a % M = c % M) (h2 : b % M = d % M) : (a * b) % M = (c * d) % M := by
  rw [Int.mul_emod, h1, h2, ← Int.mul_emod]
theorem between (x : Int) (N : Nat) (lo hi : Int) (hl : lo ≤ 0) (hh : 0 ≤ hi) (h1 : lo ≤ x) (h2 : x ≤ hi) : lo ≤ x / 2 ^ N ∧ x / 2 ^ N ≤ hi := by
  have hp : (0 : Int) < 2 ^ N := Int.pow_pos (by decide)
  rcases Int.le_total 0 x with h | h
  · have a := Int.ediv_nonneg h (Int.le_of_lt hp)
    have b : x / 2 ^ N ≤ x := Int.ediv_le_self _ h
    omega
  · have a : x ≤ x / 2 ^ N := by
      apply Int.le_ediv_of_mul_le hp
      have h2 : (1 : Int) ≤ 2 ^ N := by omega
      have h3 : (-x) * 1 ≤ (-x) * 2 ^ N := Int.mul_le_mul_of_nonneg_left h2 (by omega)
      rw [Int.neg_mul, Int.neg_mul] at h3
      omega
    have b : x / 2 ^ N ≤ 0 := by
      have : x / 2 ^ N ≤ 0 / 2 ^ N := Int.ediv_le_ediv hp h
      simpa using this
    omega
theorem half (x : Int) (N : Nat) : x / 2 ^ (N + 1) = x / 2 ^ N / 2 := by
  rw [Int.pow_succ, Int.ediv_ediv_of_nonneg (Int.le_of_lt (Int.pow_pos (by decide)))]
theorem pow_mod (N : Nat) (M : Int) (hM : M = 256 ∨ M = 4294967296 ∨ M = 18446744073709551616) : wrap64 (IntKind.u64.wrap (2 ^ N)) % M = 2 ^ N % M := by
  rw [IntKind.wrap_u64]
  unfold wrap64
  rcases hM with rfl | rfl | rfl <;> omega
theorem cnt (n : Int) (h0 : 0 ≤ n) (h1 : n ≤ 64) : min (n % 4294967296).toNat 64 = n.toNat := by omega

theorem walk_k1 (a c : Int) (a0 : -9223372036854775808 ≤ a) (a1 : a ≤ 9223372036854775807) (c0 : 0 ≤ c) (c1 : c ≤ 255) (w : World) (ht : TabN w) :
    Calls Tryz.prog 12 #[.int .i64 1, .int .i64 a, .int .u8 c] w fun e w' => e = .returned (.bool true) ∧ Below w.heap.size w w' := by
  obtain ⟨n, hn⟩ : ∃ n, c % 8 = n := ⟨_, rfl⟩
  have n0 : 0 ≤ n := by omega
  have n1 : n < 8 := by omega
  obtain ⟨q, hq⟩ : ∃ q, wrap64 (IntKind.u64.wrap (2 ^ n.toNat)) = q := ⟨_, rfl⟩
  have hx : 0 ≤ (a % 256) ∧ (a % 256) ≤ 255 := by omega
  have hb := between (a % 256) n.toNat (0) (255) (by decide) (by decide) hx.1 hx.2
  have e8 : ((opI 2 (a % 256) (q % 256)) % 256) = ((opI 8 (a % 256) n) % 256) := by
    apply wraps1.eq
    simp only [opI, shlV]
    rw [cnt n n0 (by omega), mod64 _ _ (.inl rfl), mod64 _ _ (.inl rfl)]
    refine mul_mod rfl ?_
    rw [wraps1.mod, ← hq]
    exact pow_mod _ _ (.inl rfl)
  have eO : ((opI 9 (a % 256) n) % 256) = (a % 256) / 2 ^ n.toNat := by
    simp only [opI, shrV]
    rw [cnt n n0 (by omega)]
    generalize a % 256 / 2 ^ n.toNat = z at *
    omega
  have e9 : ((opI 9 (((opI 9 (a % 256) n) % 256) % 256) 1) % 256) = ((opI 9 (a % 256) (n + 1)) % 256) := by
    rw [eO]
    simp only [opI, shrV]
    rw [cnt (n + 1) (by omega) (by omega), show (n + 1).toNat = n.toNat + 1 from by omega, half, show min ((1 : Int) % 4294967296).toNat 64 = 1 from rfl]
    generalize a % 256 / 2 ^ n.toNat = z at *
    rw [show z % 256 = z from by omega]
    rfl
  have hP := fun w => ar1_2 a q w
  have hT := fun w => ar1_9 ((opI 9 (a % 256) n) % 256) 1 w
  rw [e8] at hP
  rw [e9] at hT
  exact shift1 a c n q _ _ _ c0 c1 hn n0 n1 hq (fun w => ar1_8 a n w) hP (fun w => ar1_9 a (n + 1) w) (fun w => ar1_9 a n w) hT w ht

theorem walk_k2 (a c : Int) (a0 : -9223372036854775808 ≤ a) (a1 : a ≤ 9223372036854775807) (c0 : 0 ≤ c) (c1 : c ≤ 255) (w : World) (ht : TabN w) :
    Calls Tryz.prog 12 #[.int .i64 2, .int .i64 a, .int .u8 c] w fun e w' => e = .returned (.bool true) ∧ Below w.heap.size w w' := by
  obtain ⟨n, hn⟩ : ∃ n, c % 32 = n := ⟨_, rfl⟩
  have n0 : 0 ≤ n := by omega
  have n1 : n < 32 := by omega
  obtain ⟨q, hq⟩ : ∃ q, wrap64 (IntKind.u64.wrap (2 ^ n.toNat)) = q := ⟨_, rfl⟩
  have hx : -2147483648 ≤ (wrap32 a) ∧ (wrap32 a) ≤ 2147483647 := by unfold wrap32; omega
  have hb := between (wrap32 a) n.toNat (-2147483648) (2147483647) (by decide) (by decide) hx.1 hx.2
  have e8 : (wrap32 (opI 2 (wrap32 a) (wrap32 q))) = (wrap32 (opI 8 (wrap32 a) n)) := by
    apply wraps2.eq
    simp only [opI, shlV]
    rw [cnt n n0 (by omega), mod64 _ _ (.inr (.inl rfl)), mod64 _ _ (.inr (.inl rfl))]
    refine mul_mod rfl ?_
    rw [wraps2.mod, ← hq]
    exact pow_mod _ _ (.inr (.inl rfl))
  have eO : (wrap32 (opI 9 (wrap32 a) n)) = (wrap32 a) / 2 ^ n.toNat := by
    simp only [opI, shrV]
    rw [cnt n n0 (by omega)]
    generalize wrap32 a / 2 ^ n.toNat = z at *
    unfold wrap32; omega
  have e9 : (wrap32 (opI 9 (wrap32 (wrap32 (opI 9 (wrap32 a) n))) 1)) = (wrap32 (opI 9 (wrap32 a) (n + 1))) := by
    rw [eO]
    simp only [opI, shrV]
    rw [cnt (n + 1) (by omega) (by omega), show (n + 1).toNat = n.toNat + 1 from by omega, half, show min ((1 : Int) % 4294967296).toNat 64 = 1 from rfl]
    generalize wrap32 a / 2 ^ n.toNat = z at *
    rw [show wrap32 z = z from by unfold wrap32; omega]
    rfl
  have hP := fun w => ar2_2 a q w
  have hT := fun w => ar2_9 (wrap32 (opI 9 (wrap32 a) n)) 1 w
  rw [e8] at hP
  rw [e9] at hT
  exact shift2 a c n q _ _ _ c0 c1 hn n0 n1 hq (fun w => ar2_8 a n w) hP (fun w => ar2_9 a (n + 1) w) (fun w => ar2_9 a n w) hT w ht

theorem walk_k3 (a c : Int) (a0 : -9223372036854775808 ≤ a) (a1 : a ≤ 9223372036854775807) (c0 : 0 ≤ c) (c1 : c ≤ 255) (w : World) (ht : TabN w) :
    Calls Tryz.prog 12 #[.int .i64 3, .int .i64 a, .int .u8 c] w fun e w' => e = .returned (.bool true) ∧ Below w.heap.size w w' := by
  obtain ⟨n, hn⟩ : ∃ n, c % 64 = n := ⟨_, rfl⟩
  have n0 : 0 ≤ n := by omega
  have n1 : n < 64 := by omega
  obtain ⟨q, hq⟩ : ∃ q, wrap64 (IntKind.u64.wrap (2 ^ n.toNat)) = q := ⟨_, rfl⟩
  have hx : -9223372036854775808 ≤ a ∧ a ≤ 9223372036854775807 := by exact ⟨a0, a1⟩
  have hb := between a n.toNat (-9223372036854775808) (9223372036854775807) (by decide) (by decide) hx.1 hx.2
  have e8 : (opI 2 a q) = (opI 8 a n) := by
    simp only [opI, shlV]
    rw [cnt n n0 (by omega)]
    apply wraps64.eq
    refine mul_mod rfl ?_
    rw [← hq]
    exact pow_mod _ _ (.inr (.inr rfl))
  have eO : (opI 9 a n) = a / 2 ^ n.toNat := by
    simp only [opI, shrV]
    rw [cnt n n0 (by omega)]
    
  have e9 : (opI 9 (opI 9 a n) 1) = (opI 9 a (n + 1)) := by
    rw [eO]
    simp only [opI, shrV]
    rw [cnt (n + 1) (by omega) (by omega), show (n + 1).toNat = n.toNat + 1 from by omega, half, show min ((1 : Int) % 4294967296).toNat 64 = 1 from rfl]
    rfl
  have hP := fun w => ar3_2 a q w
  have hT := fun w => ar3_9 (opI 9 a n) 1 w
  rw [e8] at hP
  rw [e9] at hT
  exact shift3 a c n q _ _ _ c0 c1 hn n0 n1 hq (fun w => ar3_8 a n w) hP (fun w => ar3_9 a (n + 1) w) (fun w => ar3_9 a n w) hT w ht

set_option maxRecDepth 100000 in
theorem walk0 (k a c : Int) (h1 : (k == 1) = false) (h2 : (k == 2) = false) (h3 : (k == 3) = false) (w : World) (ht : TabN w) :
    Calls Tryz.prog 12 #[.int .i64 k, .int .i64 a, .int .u8 c] w fun e w' => e = .returned (.bool true) ∧ Below w.heap.size w w' := by
  have HT := Lib.hid ht
  clear ht
  go_enter Tryz.func12, Tryz.ntmps12
  go_wp2_with fail
  refine (awake_any _ HT.out).mono ?_
  rintro e w0 ⟨rfl, hb⟩
  have HB0 := Lib.hid hb
  clear hb
  go_wp2_with fail
  refine (awake_any _ (HT.out.below HB0.out)).mono ?_
  rintro e w1 ⟨rfl, hb⟩
  have HB1 := Lib.hid (HB0.out.trans (hb.mono HB0.out.size))
  clear hb
  go_wp2_with fail
  go_ret
  exact ⟨rfl, HB1.out⟩
theorem i64_of {n : Int} (h : (Lit.int .i64 n).wf = true) : -9223372036854775808 ≤ n ∧ n ≤ 9223372036854775807 := by
  simp [Lit.wf, IntKind.min, IntKind.max, IntKind.signed, IntKind.bits] at h; omega
theorem u8_of {n : Int} (h : (Lit.int .u8 n).wf = true) : 0 ≤ n ∧ n ≤ 255 := by
  simp [Lit.wf, IntKind.min, IntKind.max, IntKind.signed, IntKind.bits] at h; omega
theorem walk (k : Int) (wk : (Lit.int .i64 k).wf = true) (a : Int) (wa : (Lit.int .i64 a).wf = true) (c : Int) (wc : (Lit.int .u8 c).wf = true) (w : World) (ht : TabN w) :
    Calls Tryz.prog 12 #[.int .i64 k, .int .i64 a, .int .u8 c] w fun e w' => e = .returned (.bool true) ∧ Below w.heap.size w w' := by
  obtain ⟨a0, a1⟩ := i64_of wa
  obtain ⟨c0, c1⟩ := u8_of wc
  by_cases h1 : k = 1
  · subst h1; exact walk_k1 a c a0 a1 c0 c1 w ht
  by_cases h2 : k = 2
  · subst h2; exact walk_k2 a c a0 a1 c0 c1 w ht
  by_cases h3 : k = 3
  · subst h3; exact walk_k3 a c a0 a1 c0 c1 w ht
  exact walk0 k a c (by simpa using h1) (by simpa using h2) (by simpa using h3) w ht

set_option maxRecDepth 100000 in
theorem lifted (os : Os) (started : os.Started) (H : Type) (enc : TypeId × Value → H) :
    ReturnsInHanded {} Tryz.checked os 12 .any (fun w args => (Rows.numberShiftsSpec.pre enc Tryz.prog Tryz.f12 [] false w args ∧ laidMetH Tryz.prog laidN w) ∧ sizedMet enc Tryz.prog Tryz.f12 (OpenSpec.ofChange Rows.numberShiftsSpec) false w args)
      (Rows.numberShiftsSpec.post enc Tryz.prog Tryz.f12 false true false false) := by
  refine returnsInHanded_and_shaped (C := Tryz.checked) (X := fun w _ => laidMetH Tryz.prog laidN w) (fun _ _ _ hh h => h.of_heap hh) own started (by kernel_rfl) Tryz.func12
    (ChangeSpec.witness_shaped (enc := enc) (C := Tryz.checked) (os := os) (X := fun w _ => laidMetH Tryz.prog laidN w) false (World.laidAll Tryz.prog os laidN) #[.int .i64 0, .int .i64 0, .int .u8 0] 8 (World.laidAll_os _ _ _) (shaped_all os _) (by kernel_rfl) (by kernel_rfl) (by kernel_rfl) (met_all os _)) ?_
  intro W base args ds gs before hval0 hW hL hSh
  have hval : ∀ (j : Nat) t v, Tryz.f12.params[j]? = some t → args[j]? = some v → Value.okWide Tryz.prog W .any base t v := hval0
  have hW' := hW
  obtain ⟨p, q, hA0, hV, rfl, hfz, hnd⟩ := hW
  have hA : DataW.TrodAll enc Tryz.prog W 0 (fun _ => true) true Tryz.f12.params.toList args.toList ds p := hA0
  rw [Tryz.params12] at hA hval
  obtain ⟨v0, vs0, d0, ds0, p0, q0, hargs, rfl, rfl, h0, r0⟩ := trodAll_cons hA
  obtain ⟨v1, vs1, d1, ds1, p1, q1, rfl, rfl, rfl, h1, r1⟩ := trodAll_cons r0
  obtain ⟨v2, vs2, d2, ds2, p2, q2, rfl, rfl, rfl, h2, r2⟩ := trodAll_cons r1
  obtain ⟨rfl, rfl, rfl⟩ := trodAll_nil r2
  obtain rfl : args = #[v0, v1, v2] := by cases args; simp_all
  obtain ⟨rfl, rfl⟩ := trodVars_none hV
  obtain ⟨a0, rfl, rfl, rfl, w0⟩ := open_int Tryz.underlying3 (hval 0 3 v0 rfl rfl) h0
  obtain ⟨a1, rfl, rfl, rfl, w1⟩ := open_int Tryz.underlying2 (hval 1 2 v1 rfl rfl) h1
  obtain ⟨a2, rfl, rfl, rfl, w2⟩ := open_int Tryz.underlying5 (hval 2 5 v2 rfl rfl) h2
  clear hA0 hval0
  have ht := of_laid hSh hL
  refine (walk a0 w0 a1 w1 a2 w2 W ht).mono fun e W' ⟨he, bel⟩ => ?_
  subst he
  exact ⟨_, rfl, _, _, _, [], _, [], hW', trodAll_mk1 (shut_bool Tryz.underlying4 _), (trodAll_cons_mk (shut_int Tryz.underlying3 w0) (trodAll_cons_mk (shut_int Tryz.underlying2 w1) (trodAll_cons_mk (shut_int Tryz.underlying5 w2) trodAll_mk0))), rfl, bel.frame _, fun h => by cases h⟩

set_option maxHeartbeats 16000000 in
set_option maxRecDepth 100000 in
theorem joined : joinedFacts Tryz.prog 12 Tryz.f12 Rows.numberShiftsSpec Rows.numberShiftsRow = true := by
  unfold joinedFacts
  simp only [Bool.and_eq_true]
  repeat' apply And.intro
  all_goals as_aux_lemma => kernel_rfl
theorem over : Rows.numberShiftsRow.holds Tryz.pinned (OpenSpec.ofChange Rows.numberShiftsSpec) :=
  OpenClaim.holds_of_wide 12 Tryz.f12 rfl rfl rfl rfl rfl rfl rfl ⟨rfl, rfl, rfl, rfl, rfl⟩ rfl rfl rfl rfl rfl (by kernel_rfl) Tryz.func12 joined
    (of_decide_eq_true (by kernel_rfl)) (by unfold Func.isWrapper; first | (rw [if_pos (by decide +kernel)]; kernel_rfl) | (rw [if_neg (by decide +kernel)]; exact ⟨rfl, rfl⟩))
    (fun os started H enc _ => lifted os started H enc)

theorem card_holds : Rows.NumberShiftsCardSaid :=
  Claim7.holds_tied_plain_at .later [] [.data, .data, .widerDeep, .widerDeep, .data, .data, .data, .data, .data, .data, .sentinel, .sentinel, .pinned, .pinned, .pinned] true (true, "64b06c7202077d118462950218fe2974fddba9497f2cf52520b628f8eed59e5b") true
    over (fun _ h => by cases h) (by kernel_rfl) (fun _ h => by cases h) numberShifts_row_tie rfl ⟨rfl, rfl⟩ (by kernel_rfl) rfl
    (fun f fn hf hfn => by
      obtain rfl : f = 12 := Option.some.inj ((show Tryz.prog.funcNamed "acheron/acheronlaw04.NumberShifts" = some 12 by kernel_rfl).symm.trans hf) |>.symm
      obtain rfl : fn = Tryz.f12 := (Option.some.inj (Tryz.func12.symm.trans hfn)).symm
      exact ⟨by kernel_rfl, fun j t ht => by
        rw [Tryz.params12] at ht
        have hm : t ∈ [3, 2, 5] := by have := Array.mem_of_getElem? ht; simp at this ⊢; omega
        have hall : ([3, 2, 5].all fun u => !Tryz.prog.wantsStandIn u) = true := by kernel_rfl
        exact (show Tryz.prog.wantsStandIn t = false by simpa using List.all_eq_true.1 hall t hm)⟩)
    (by kernel_rfl)
end Go.Proofs.YthbmdlihfocbmaaGreatDoor.numberShifts

