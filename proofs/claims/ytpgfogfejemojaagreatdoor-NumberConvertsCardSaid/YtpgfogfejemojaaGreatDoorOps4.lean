/-
  number: the wrapping of each kind, and the operations of integers and reals.
-/
import Derived.Test.YtpgfogfejemojaaGreatDoorTab1
import Derived.Laws.Externs
import Derived.Laws.FloatArith
set_option linter.unusedVariables false
namespace Go.Proofs.YtpgfogfejemojaaGreatDoor
open Go.RowKit

theorem run_frombits (n : Int) (w : World) : (callFunc 52 #[.int .u64 n]).run Tryz.prog w = .ok (.value (.float .f64 n.toNat)) w := by
  rw [run_callFunc_extern (e := Extern.MathFloatBits.float64frombits) Tryz.func52 (by kernel_rfl) (by kernel_rfl) (by kernel_rfl) (by kernel_rfl)]
  rfl
theorem run_bits (n : Nat) (w : World) : (callFunc 54 #[.float .f64 n]).run Tryz.prog w = .ok (.value (.int .u64 n)) w := by
  rw [run_callFunc_extern (e := Extern.MathFloatBits.float64bits) Tryz.func54 (by kernel_rfl) (by kernel_rfl) (by kernel_rfl) (by kernel_rfl)]
  rfl

theorem below_drewN {B : Nat} {a w : World} (h : Below B a w) (n : Nat) : Below B a (w.drewN n) := ⟨h.os, h.tape, h.output, h.size, h.block⟩

/-- A real of 64 bits; whether it is no number; its bits with one NaN alone. -/
def bitsN (n : Int) : Nat := (IntKind.u64.wrap n).toNat
def nanB (b : Nat) : Bool := FloatKind.f64.format.order b b != some .eq
def bitsV (b : Nat) : Int := if nanB b = true then 9221120237041090561 else wrap64 b
def wrR (n : Int) : Int := bitsV (bitsN n)

theorem realOf_any (n : Int) (w : World) : Calls Tryz.prog 81 #[.int .i64 n] w fun e w' => e = .returned (.float .f64 (bitsN n)) ∧ w = w' := by
  have h1 := run_frombits
  unfold bitsN
  go_enter Tryz.func81, Tryz.ntmps81
  go_wp2
  go_ret
  exact ⟨rfl, rfl⟩
theorem isNaN_any (b : Nat) (w : World) : Calls Tryz.prog 97 #[.float .f64 b] w fun e w' => e = .returned (.bool (nanB b)) ∧ w = w' := by
  go_enter Tryz.func97, Tryz.ntmps97
  go_wp2
  go_ret
  exact ⟨rfl, rfl⟩
set_option maxRecDepth 100000 in
theorem bitsOf_any (b : Nat) (w : World) : Calls Tryz.prog 80 #[.float .f64 b] w fun e w' => e = .returned (.int .i64 (bitsV b)) ∧ w = w' := by
  have h1 := run_bits
  have HN := Lib.hid (isNaN_any b)
  unfold bitsV
  by_cases hn : nanB b = true
  · rw [if_pos hn]
    go_enter Tryz.func80, Tryz.ntmps80
    go_wp2_with (go_at_call 97; refine (HN.out _).mono ?_; rintro e w' ⟨rfl, rfl⟩)
    go_ret
    exact ⟨rfl, rfl⟩
  · rw [if_neg hn]
    have hn' : nanB b = false := by simpa using hn
    clear hn
    go_enter Tryz.func80, Tryz.ntmps80
    go_wp2_with (go_at_call 97; refine (HN.out _).mono ?_; rintro e w' ⟨rfl, rfl⟩)
    go_ret
    exact ⟨rfl, rfl⟩
set_option maxRecDepth 100000 in
theorem wrap4_any (n : Int) (w : World) : Calls Tryz.prog 79 #[.int .i64 n] w fun e w' => e = .returned (.int .i64 (wrR n)) ∧ w = w' := by
  go_enter Tryz.func79, Tryz.ntmps79
  go_wp2_with (first
    | (go_at_call 81; refine (realOf_any _ _).mono ?_; rintro e w' ⟨rfl, rfl⟩)
    | (go_at_call 80; refine (bitsOf_any _ _).mono ?_; rintro e w' ⟨rfl, rfl⟩))
  go_ret
  exact ⟨rfl, rfl⟩
theorem ret_int {k : IntKind} {a b : Int} (h : a = b) : Ending.returned (.int k a) = .returned (.int k b) := by rw [h]
theorem wrap1_any (n : Int) (w : World) : Calls Tryz.prog 59 #[.int .i64 n] w fun e w' => e = .returned (.int .i64 (n % 256)) ∧ w = w' := by
  go_enter Tryz.func59, Tryz.ntmps59
  go_wp2
  go_ret
  exact ⟨rfl, rfl⟩
theorem wrap64_32 (n : Int) : wrap64 (wrap32 n) = wrap32 n := by
  unfold wrap64 wrap32
  omega
theorem wrap2_any (n : Int) (w : World) : Calls Tryz.prog 77 #[.int .i64 n] w fun e w' => e = .returned (.int .i64 (wrap32 n)) ∧ w = w' := by
  go_enter Tryz.func77, Tryz.ntmps77
  go_wp2
  go_ret
  exact ⟨ret_int (wrap64_32 n), rfl⟩
theorem wrap3_any (n : Int) (w : World) : Calls Tryz.prog 78 #[.int .i64 n] w fun e w' => e = .returned (.int .i64 n) ∧ w = w' := by
  go_enter Tryz.func78, Tryz.ntmps78
  go_wp2
  go_ret
  exact ⟨rfl, rfl⟩
/-- Wrapping by kinds. -/
def wrK (k : Nat) (n : Int) : Int := if k = 1 then n % 256 else if k = 2 then wrap32 n else if k = 3 then n else wrR n

def shlV (a b : Int) : Int := wrap64 (a * 2 ^ min (b % 4294967296).toNat 64)
def shrV (a b : Int) : Int := a / 2 ^ min (b % 4294967296).toNat 64
theorem run_shl (P : Program) (yk : IntKind) (x y : Int) (h : 0 ≤ y) (w : World) : (Op.shift .shl .i64 x yk y).run P w = .ok (.int .i64 (IntKind.i64.wrap (x * 2 ^ min y.toNat 64))) w := by
  unfold Op.shift
  rw [if_neg (by omega)]
  rfl
theorem run_shr (P : Program) (yk : IntKind) (x y : Int) (h : 0 ≤ y) (w : World) : (Op.shift .shr .i64 x yk y).run P w = .ok (.int .i64 (x / 2 ^ min y.toNat 64)) w := by
  unfold Op.shift
  rw [if_neg (by omega)]
  show Result.ok (Value.int .i64 (x.fdiv (2 ^ min y.toNat 64))) w = _
  rw [Int.fdiv_eq_ediv_of_nonneg _ (Int.le_of_lt (Int.pow_pos (by decide)))]
/-- The operations of integers, before the result is wrapped. -/
def opI (j : Nat) (a b : Int) : Int :=
  match j with
  | 0 => wrap64 (a + b)
  | 1 => wrap64 (a - b)
  | 2 => wrap64 (a * b)
  | 3 => wrap64 (a.tdiv b)
  | 4 => a.tmod b
  | 5 => bits .and .i64 a b
  | 6 => bits .or .i64 a b
  | 7 => bits .xor .i64 a b
  | 8 => shlV a b
  | _ => shrV a b

set_option maxRecDepth 100000 in
theorem op0_any (a b : Int) (w : World) : Calls Tryz.prog 60 #[.int .i64 a, .int .i64 b] w fun e w' => e = .returned (.int .i64 (opI 0 a b)) ∧ w = w' := by
  go_enter Tryz.func60, Tryz.ntmps60
  go_wp2
  go_ret
  exact ⟨rfl, rfl⟩
set_option maxRecDepth 100000 in
theorem op1_any (a b : Int) (w : World) : Calls Tryz.prog 61 #[.int .i64 a, .int .i64 b] w fun e w' => e = .returned (.int .i64 (opI 1 a b)) ∧ w = w' := by
  go_enter Tryz.func61, Tryz.ntmps61
  go_wp2
  go_ret
  exact ⟨rfl, rfl⟩
set_option maxRecDepth 100000 in
theorem op2_any (a b : Int) (w : World) : Calls Tryz.prog 62 #[.int .i64 a, .int .i64 b] w fun e w' => e = .returned (.int .i64 (opI 2 a b)) ∧ w = w' := by
  go_enter Tryz.func62, Tryz.ntmps62
  go_wp2
  go_ret
  exact ⟨rfl, rfl⟩
set_option maxRecDepth 100000 in
theorem op3_any (a b : Int) (hb : b ≠ 0) (w : World) : Calls Tryz.prog 63 #[.int .i64 a, .int .i64 b] w fun e w' => e = .returned (.int .i64 (opI 3 a b)) ∧ w = w' := by
  have hb' : (b == 0) = false := by simpa using hb
  go_enter Tryz.func63, Tryz.ntmps63
  go_wp2
  go_ret
  exact ⟨rfl, rfl⟩
set_option maxRecDepth 100000 in
theorem op4_any (a b : Int) (hb : b ≠ 0) (w : World) : Calls Tryz.prog 64 #[.int .i64 a, .int .i64 b] w fun e w' => e = .returned (.int .i64 (opI 4 a b)) ∧ w = w' := by
  have hb' : (b == 0) = false := by simpa using hb
  go_enter Tryz.func64, Tryz.ntmps64
  go_wp2
  go_ret
  exact ⟨rfl, rfl⟩
set_option maxRecDepth 100000 in
theorem op5_any (a b : Int) (w : World) : Calls Tryz.prog 65 #[.int .i64 a, .int .i64 b] w fun e w' => e = .returned (.int .i64 (opI 5 a b)) ∧ w = w' := by
  go_enter Tryz.func65, Tryz.ntmps65
  go_wp2
  go_ret
  exact ⟨rfl, rfl⟩
set_option maxRecDepth 100000 in
theorem op6_any (a b : Int) (w : World) : Calls Tryz.prog 66 #[.int .i64 a, .int .i64 b] w fun e w' => e = .returned (.int .i64 (opI 6 a b)) ∧ w = w' := by
  go_enter Tryz.func66, Tryz.ntmps66
  go_wp2
  go_ret
  exact ⟨rfl, rfl⟩
set_option maxRecDepth 100000 in
theorem op7_any (a b : Int) (w : World) : Calls Tryz.prog 67 #[.int .i64 a, .int .i64 b] w fun e w' => e = .returned (.int .i64 (opI 7 a b)) ∧ w = w' := by
  go_enter Tryz.func67, Tryz.ntmps67
  go_wp2
  go_ret
  exact ⟨rfl, rfl⟩
set_option maxRecDepth 100000 in
theorem op8_any (a b : Int) (w : World) : Calls Tryz.prog 68 #[.int .i64 a, .int .i64 b] w fun e w' => e = .returned (.int .i64 (opI 8 a b)) ∧ w = w' := by
  have hs := fun yk w => run_shl Tryz.prog yk a (b % 4294967296) (by omega) w
  show Calls _ _ _ _ fun e w' => e = .returned (.int .i64 (shlV a b)) ∧ w = w'
  unfold shlV
  go_enter Tryz.func68, Tryz.ntmps68
  go_wp2
  go_ret
  exact ⟨rfl, rfl⟩
set_option maxRecDepth 100000 in
theorem op9_any (a b : Int) (w : World) : Calls Tryz.prog 69 #[.int .i64 a, .int .i64 b] w fun e w' => e = .returned (.int .i64 (opI 9 a b)) ∧ w = w' := by
  have hs := fun yk w => run_shr Tryz.prog yk a (b % 4294967296) (by omega) w
  show Calls _ _ _ _ fun e w' => e = .returned (.int .i64 (shrV a b)) ∧ w = w'
  unfold shrV
  go_enter Tryz.func69, Tryz.ntmps69
  go_wp2
  go_ret
  exact ⟨rfl, rfl⟩
set_option maxRecDepth 100000 in
theorem negative_any (a : Int) (w : World) : Calls Tryz.prog 70 #[.int .i64 a] w fun e w' => e = .returned (.int .i64 (wrap64 (-a))) ∧ w = w' := by
  go_enter Tryz.func70, Tryz.ntmps70
  go_wp2
  go_ret
  exact ⟨rfl, rfl⟩
set_option maxRecDepth 100000 in
theorem turned_any (a : Int) (w : World) : Calls Tryz.prog 71 #[.int .i64 a] w fun e w' => e = .returned (.int .i64 (bits .xor .i64 (-1) a)) ∧ w = w' := by
  go_enter Tryz.func71, Tryz.ntmps71
  go_wp2
  go_ret
  exact ⟨rfl, rfl⟩
theorem isZero_any (a : Int) (w : World) : Calls Tryz.prog 48 #[.int .i64 a] w fun e w' => e = .returned (.int .i64 (if a = 0 then 1 else 0)) ∧ w = w' := by
  by_cases h : a = 0
  · subst h
    rw [if_pos rfl]
    go_enter Tryz.func48, Tryz.ntmps48
    go_wp2
    go_ret
    exact ⟨rfl, rfl⟩
  · rw [if_neg h]
    have h' : (a == 0) = false := by simpa using h
    go_enter Tryz.func48, Tryz.ntmps48
    go_wp2
    go_ret
    exact ⟨rfl, rfl⟩
set_option maxRecDepth 100000 in
theorem opposite_any (a : Int) (w : World) : Calls Tryz.prog 86 #[.int .i64 a] w fun e w' => e = .returned (.int .i64 (bits .xor .i64 a (-9223372036854775808))) ∧ w = w' := by
  go_enter Tryz.func86, Tryz.ntmps86
  go_wp2
  go_ret
  exact ⟨rfl, rfl⟩
end Go.Proofs.YtpgfogfejemojaaGreatDoor
