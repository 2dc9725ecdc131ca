/-
  Plain mathematics: decoding a text from a place on is decoding what is left of it.
-/
import Derived.Test.YtjpnkffdpcfnjaaDoorDec
set_option linter.unusedVariables false
namespace Go.Proofs.YtjpnkffdpcfnjaaDoor

theorem byteAt_extract (s : ByteArray) (pos k : Nat) (hp : pos ≤ s.size) : (s.extract pos s.size).get! k = s.get! (pos + k) := by
  simp only [ByteArray.get!, ByteArray.data_extract]
  rw [getElem!_def, getElem!_def]
  rw [Array.getElem?_extract]
  have hs : s.data.size = s.size := rfl
  by_cases h : k < s.size - pos
  · rw [if_pos (by simp; omega)]
  · rw [if_neg (by simp; omega), Array.getElem?_eq_none (by omega)]

theorem decode_extract (s : ByteArray) (pos : Nat) (hp : pos ≤ s.size) : Utf8.decode (s.extract pos s.size) 0 = Utf8.decode s pos := by
  have e : (s.extract pos s.size).size = s.size - pos := by simp
  simp only [Utf8.decode, byteAt_extract s pos _ hp, Nat.zero_add, Nat.add_zero, e]
  have c : ∀ k, decide (k < s.size - pos) = decide (pos + k < s.size) := fun k => by
    rw [decide_eq_decide]; omega
  simp only [c]

theorem width_le (s : ByteArray) (pos : Nat) (h : pos < s.size) : pos + (Utf8.decode s pos).2 ≤ s.size := by
  unfold Utf8.decode
  simp only []
  repeat' split
  all_goals simp only [Bool.and_eq_true, decide_eq_true_eq] at *
  all_goals omega

theorem extract_step (s : ByteArray) (pos n : Nat) (h : pos + n ≤ s.size) : (s.extract pos s.size).extract n (s.size - pos) = s.extract (pos + n) s.size := by
  rw [ByteArray.extract_extract]
  congr 1
  omega
end Go.Proofs.YtjpnkffdpcfnjaaDoor
