/-
  digest.right; the blocks that hold arrays of words.
-/
import Derived.Test.YthhaofdnbemogaaDoorSha
import Derived.Test.YthhaofdnbemogaaDoorChecked
import Derived.Below
import Derived.LoopN
import Derived.Outline
import Derived.Lib.Hide
import Derived.Deep.QuietTactic
import Derived.Deep.RegionWith
import Derived.Deep.WholeRow
import Derived.BigQuiet
import Derived.WalkSpells
import Derived.IntWalk
import Derived.Laws.CopyOwn
set_option linter.unusedVariables false
namespace Go.Proofs.YthhaofdnbemogaaDoor
open Go.RowKit

/-- The words as cells. -/
def u32s (L : List Int) : Array Value := (L.map (Value.int .u32)).toArray
theorem u32s_size (L : List Int) : (u32s L).size = L.length := by simp [u32s]
theorem u32s_get (L : List Int) (j : Nat) (h : j < L.length) : (u32s L)[j]? = some (.int .u32 (wd L j)) := by
  simp [wd, u32s, List.getD_eq_getElem?_getD, List.getElem?_eq_getElem h]
theorem u32s_set (L : List Int) (j : Nat) (v : Int) : (u32s L).setIfInBounds j (.int .u32 v) = u32s (L.set j v) := by
  simp [u32s, List.map_set]
theorem u32s_one (L : List Int) : (u32s L).all (·.oneCell') = true := by
  simp [u32s, Value.oneCell']

theorem right_7 (x : Int) (w : World) : Calls Tryd.prog 83 #[.int .u32 x, .int .i64 7] w fun e w' => e = .returned (.int .u32 (rotR 7 x)) ∧ w = w' := by
  have h1 : bits .and .u64 (IntKind.u64.wrap (-7)) 31 = 25 := by decide
  go_enter Tryd.func83, Tryd.ntmps83
  go_wp2_with (go_in)
  go_ret
  exact ⟨by simp [rotR], rfl⟩
theorem right_18 (x : Int) (w : World) : Calls Tryd.prog 83 #[.int .u32 x, .int .i64 18] w fun e w' => e = .returned (.int .u32 (rotR 18 x)) ∧ w = w' := by
  have h1 : bits .and .u64 (IntKind.u64.wrap (-18)) 31 = 14 := by decide
  go_enter Tryd.func83, Tryd.ntmps83
  go_wp2_with (go_in)
  go_ret
  exact ⟨by simp [rotR], rfl⟩
theorem right_17 (x : Int) (w : World) : Calls Tryd.prog 83 #[.int .u32 x, .int .i64 17] w fun e w' => e = .returned (.int .u32 (rotR 17 x)) ∧ w = w' := by
  have h1 : bits .and .u64 (IntKind.u64.wrap (-17)) 31 = 15 := by decide
  go_enter Tryd.func83, Tryd.ntmps83
  go_wp2_with (go_in)
  go_ret
  exact ⟨by simp [rotR], rfl⟩
theorem right_19 (x : Int) (w : World) : Calls Tryd.prog 83 #[.int .u32 x, .int .i64 19] w fun e w' => e = .returned (.int .u32 (rotR 19 x)) ∧ w = w' := by
  have h1 : bits .and .u64 (IntKind.u64.wrap (-19)) 31 = 13 := by decide
  go_enter Tryd.func83, Tryd.ntmps83
  go_wp2_with (go_in)
  go_ret
  exact ⟨by simp [rotR], rfl⟩
theorem right_6 (x : Int) (w : World) : Calls Tryd.prog 83 #[.int .u32 x, .int .i64 6] w fun e w' => e = .returned (.int .u32 (rotR 6 x)) ∧ w = w' := by
  have h1 : bits .and .u64 (IntKind.u64.wrap (-6)) 31 = 26 := by decide
  go_enter Tryd.func83, Tryd.ntmps83
  go_wp2_with (go_in)
  go_ret
  exact ⟨by simp [rotR], rfl⟩
theorem right_11 (x : Int) (w : World) : Calls Tryd.prog 83 #[.int .u32 x, .int .i64 11] w fun e w' => e = .returned (.int .u32 (rotR 11 x)) ∧ w = w' := by
  have h1 : bits .and .u64 (IntKind.u64.wrap (-11)) 31 = 21 := by decide
  go_enter Tryd.func83, Tryd.ntmps83
  go_wp2_with (go_in)
  go_ret
  exact ⟨by simp [rotR], rfl⟩
theorem right_25 (x : Int) (w : World) : Calls Tryd.prog 83 #[.int .u32 x, .int .i64 25] w fun e w' => e = .returned (.int .u32 (rotR 25 x)) ∧ w = w' := by
  have h1 : bits .and .u64 (IntKind.u64.wrap (-25)) 31 = 7 := by decide
  go_enter Tryd.func83, Tryd.ntmps83
  go_wp2_with (go_in)
  go_ret
  exact ⟨by simp [rotR], rfl⟩
theorem right_2 (x : Int) (w : World) : Calls Tryd.prog 83 #[.int .u32 x, .int .i64 2] w fun e w' => e = .returned (.int .u32 (rotR 2 x)) ∧ w = w' := by
  have h1 : bits .and .u64 (IntKind.u64.wrap (-2)) 31 = 30 := by decide
  go_enter Tryd.func83, Tryd.ntmps83
  go_wp2_with (go_in)
  go_ret
  exact ⟨by simp [rotR], rfl⟩
theorem right_13 (x : Int) (w : World) : Calls Tryd.prog 83 #[.int .u32 x, .int .i64 13] w fun e w' => e = .returned (.int .u32 (rotR 13 x)) ∧ w = w' := by
  have h1 : bits .and .u64 (IntKind.u64.wrap (-13)) 31 = 19 := by decide
  go_enter Tryd.func83, Tryd.ntmps83
  go_wp2_with (go_in)
  go_ret
  exact ⟨by simp [rotR], rfl⟩
theorem right_22 (x : Int) (w : World) : Calls Tryd.prog 83 #[.int .u32 x, .int .i64 22] w fun e w' => e = .returned (.int .u32 (rotR 22 x)) ∧ w = w' := by
  have h1 : bits .and .u64 (IntKind.u64.wrap (-22)) 31 = 10 := by decide
  go_enter Tryd.func83, Tryd.ntmps83
  go_wp2_with (go_in)
  go_ret
  exact ⟨by simp [rotR], rfl⟩
end Go.Proofs.YthhaofdnbemogaaDoor
