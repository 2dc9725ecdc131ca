/-
  The check as plain mathematics: it is linear, and a change of up to 32 consecutive bits is always seen.
-/
import Derived.Test.YtoddihpknafnpaaDoorCrc
set_option linter.unusedVariables false
namespace Go.Proofs.YtoddihpknafnpaaDoor
open Go.RowKit

theorem xorN32 (a b : Nat) (ha : a < 4294967296) (hb : b < 4294967296) : bits .xor .u32 (a : Int) (b : Int) = ((a ^^^ b : Nat) : Int) := by
  have e : ∀ x : Nat, x < 4294967296 → (BitVec.ofInt 32 (x : Int)).toNat = x := by
    intro x hx
    rw [BitVec.ofInt_natCast, BitVec.toNat_ofNat]
    omega
  have hz : a ^^^ b < 4294967296 := Nat.xor_lt_two_pow (n := 32) ha hb
  show IntKind.u32.wrap ((BitVec.ofInt 32 (a : Int) ^^^ BitVec.ofInt 32 (b : Int)).toNat : Int) = _
  rw [BitVec.toNat_xor, e a ha, e b hb, IntKind.wrap_u32]
  omega
def stepN (x : Nat) : Nat := if x % 2 = 1 then (x / 2) ^^^ 3988292384 else x / 2
def itN (x : Nat) : Nat → Nat
  | 0 => x
  | k + 1 => itN (stepN x) k
theorem xor_cancel (a b c : Nat) (h : a ^^^ b = a ^^^ c) : b = c := by
  have := congrArg (a ^^^ ·) h
  simpa [← Nat.xor_assoc] using this
theorem stepN_xor (x y : Nat) : stepN (x ^^^ y) = stepN x ^^^ stepN y := by
  have h2 : (x ^^^ y) / 2 = x / 2 ^^^ y / 2 := Nat.xor_div_two
  have hm : (x ^^^ y) % 2 = (x % 2 + y % 2) % 2 := by
    have h := @Nat.xor_mod_two_pow x y 1
    rw [Nat.pow_one] at h
    rw [h]
    rcases Nat.mod_two_eq_zero_or_one x with a | a <;> rcases Nat.mod_two_eq_zero_or_one y with b | b <;> rw [a, b] <;> rfl
  unfold stepN
  rw [h2, hm]
  rcases Nat.mod_two_eq_zero_or_one x with a | a <;> rcases Nat.mod_two_eq_zero_or_one y with b | b <;> rw [a, b] <;> simp
  · rw [Nat.xor_assoc]
  · rw [Nat.xor_assoc, Nat.xor_assoc, Nat.xor_comm 3988292384]
  · rw [Nat.xor_assoc (x / 2), ← Nat.xor_assoc 3988292384, Nat.xor_comm 3988292384 (y / 2), Nat.xor_assoc (y / 2), Nat.xor_self, Nat.xor_zero]
theorem itN_xor (x y k : Nat) : itN (x ^^^ y) k = itN x k ^^^ itN y k := by
  induction k generalizing x y with
  | zero => rfl
  | succ k ih => rw [itN, stepN_xor, ih]; rfl
theorem itN_add (x a b : Nat) : itN x (a + b) = itN (itN x a) b := by
  induction a generalizing x with
  | zero => simp [itN]
  | succ a ih => rw [show a + 1 + b = (a + b) + 1 by omega, itN, ih]; rfl
theorem itN_shift (y k : Nat) : itN (y * 2 ^ k) k = y := by
  induction k with
  | zero => simp [itN]
  | succ k ih =>
    rw [itN]
    have : stepN (y * 2 ^ (k + 1)) = y * 2 ^ k := by
      unfold stepN
      rw [Nat.pow_succ, ← Nat.mul_assoc, Nat.mul_mod_left, if_neg (by omega), Nat.mul_div_cancel _ (by omega)]
    rw [this, ih]
theorem stepN_lt (x : Nat) (h : x < 4294967296) : stepN x < 4294967296 := by
  unfold stepN
  split
  · exact Nat.xor_lt_two_pow (n := 32) (by omega) (by omega)
  · omega
theorem stepN_ne (x : Nat) (h : x < 4294967296) (h0 : x ≠ 0) : stepN x ≠ 0 := by
  unfold stepN
  split
  · intro e
    have h2 := congrArg (· ^^^ 3988292384) e
    simp only [Nat.xor_assoc, Nat.xor_self, Nat.xor_zero, Nat.zero_xor] at h2
    omega
  · omega
theorem itN_ne (k x : Nat) (h : x < 4294967296) (h0 : x ≠ 0) : itN x k ≠ 0 ∧ itN x k < 4294967296 := by
  induction k generalizing x with
  | zero => exact ⟨h0, h⟩
  | succ k ih => exact ih (stepN x) (stepN_lt x h) (stepN_ne x h h0)
theorem itN_lt (k x : Nat) (h : x < 4294967296) : itN x k < 4294967296 := by
  induction k generalizing x with
  | zero => exact h
  | succ k ih => exact ih (stepN x) (stepN_lt x h)

def byteS (x : Nat) : Nat := itN x 8
theorem byteS_def (x : Nat) : byteS x = itN x 8 := rfl
def crcN (c : Nat) (l : List Nat) : Nat := l.foldl (fun c b => byteS (c ^^^ b)) c
theorem crcN_nil (c : Nat) : crcN c [] = c := rfl
theorem crcN_cons (c b : Nat) (l : List Nat) : crcN c (b :: l) = crcN (byteS (c ^^^ b)) l := List.foldl_cons ..
theorem crcN_lt (l : List Nat) (c : Nat) (h : c < 4294967296) (hl : ∀ b ∈ l, b < 256) : crcN c l < 4294967296 := by
  induction l generalizing c with
  | nil => exact h
  | cons b l ih =>
    rw [crcN_cons]
    refine ih _ (itN_lt 8 (c ^^^ b) (Nat.xor_lt_two_pow (n := 32) h ?_)) (fun x hx => hl x (List.mem_cons_of_mem _ hx))
    have := hl b (List.mem_cons_self ..)
    omega
theorem crcN_xor (l d : List Nat) (c D : Nat) (h : l.length = d.length) : crcN (c ^^^ D) (List.zipWith (· ^^^ ·) l d) = crcN c l ^^^ crcN D d := by
  induction l generalizing d c D with
  | nil =>
    match d, h with
    | [], _ => rfl
  | cons b l ih =>
    match d, h with
    | e :: d, h =>
      rw [List.zipWith_cons_cons, crcN_cons, crcN_cons, crcN_cons, ← ih d _ _ (by simpa using h), byteS_def, byteS_def, byteS_def, ← itN_xor]
      congr 2
      rw [Nat.xor_assoc, ← Nat.xor_assoc D, Nat.xor_comm D b, Nat.xor_assoc b, ← Nat.xor_assoc]
theorem crcN_app (l m : List Nat) (c : Nat) : crcN c (l ++ m) = crcN (crcN c l) m := by
  induction l generalizing c with
  | nil => rfl
  | cons b l ih => rw [List.cons_append, crcN_cons, crcN_cons]; exact ih _
/-- The bytes of a number, the least significant one first. -/
def bytesN (E : Nat) : Nat → List Nat
  | 0 => []
  | n + 1 => (E % 256) :: bytesN (E / 256) n
theorem bytesN_len (E n : Nat) : (bytesN E n).length = n := by
  induction n generalizing E with
  | zero => rfl
  | succ n ih => simp [bytesN, ih]
theorem crc_bytes (n E D : Nat) (h : E < 256 ^ n) : crcN D (bytesN E n) = itN (D ^^^ E) (8 * n) := by
  induction n generalizing E D with
  | zero =>
    have : E = 0 := by simpa using h
    subst this
    simp [bytesN, crcN_nil, itN]
  | succ n ih =>
    rw [bytesN, crcN_cons, byteS_def, ih _ _ (by rw [Nat.pow_succ] at h; omega), show 8 * (n + 1) = 8 + 8 * n by omega, itN_add]
    congr 1
    have e : E = (E % 256) ^^^ (E / 256 * 2 ^ 8) := by
      refine Nat.eq_of_testBit_eq fun i => ?_
      rw [Nat.testBit_xor, show (256 : Nat) = 2 ^ 8 from rfl, Nat.testBit_mod_two_pow, Nat.mul_comm, Nat.testBit_two_pow_mul, Nat.testBit_div_two_pow]
      by_cases h8 : i < 8
      · simp [h8, show ¬ 8 ≤ i by omega]
      · simp [h8, show 8 ≤ i by omega, show i - 8 + 8 = i by omega]
    conv => rhs; rw [e, ← Nat.xor_assoc, itN_xor, itN_shift]
/-- A change of up to 32 consecutive bits changes the check. -/
theorem burst (n at' bs : Nat) (h : at' + 32 ≤ 8 * n) (h0 : bs ≠ 0) (h1 : bs < 4294967296) : crcN 0 (bytesN (bs * 2 ^ at') n) ≠ 0 := by
  rw [crc_bytes n _ 0 (by
    have : 256 ^ n = 2 ^ (8 * n) := by rw [show (256 : Nat) = 2 ^ 8 from rfl, ← Nat.pow_mul]
    rw [this]
    calc bs * 2 ^ at' < 2 ^ 32 * 2 ^ at' := Nat.mul_lt_mul_of_pos_right (by omega) (Nat.two_pow_pos _)
      _ = 2 ^ (32 + at') := (Nat.pow_add 2 32 at').symm
      _ ≤ 2 ^ (8 * n) := Nat.pow_le_pow_right (by omega) (by omega)), Nat.zero_xor,
    show 8 * n = at' + (8 * n - at') by omega, itN_add, itN_shift]
  exact (itN_ne _ _ h1 h0).1
end Go.Proofs.YtoddihpknafnpaaDoor
