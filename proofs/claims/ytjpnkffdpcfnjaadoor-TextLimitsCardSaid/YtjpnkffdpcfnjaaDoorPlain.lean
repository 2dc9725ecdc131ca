/-
  Plain mathematics of characters: no program is named here.
-/
import GoSem.Core.Utf8
import Derived.Lib.RuneBytes
set_option linter.unusedVariables false
namespace Go.Proofs.YtjpnkffdpcfnjaaDoor

/-- The characters decoded from place pos on, at most f of them. -/
def decF (s : ByteArray) : Nat → Nat → List Nat
  | 0, _ => []
  | f + 1, pos => if pos < s.size then (Utf8.decode s pos).1 :: decF s f (pos + (Utf8.decode s pos).2) else []
def decs (s : ByteArray) : List Nat := decF s s.size 0

def wideL (l : List Nat) : Bool := l.any (fun c => decide (255 < c))
def three (c : Nat) : List UInt8 := [UInt8.ofNat (c / 65536), UInt8.ofNat (c / 256), UInt8.ofNat c]
def packB (l : List Nat) : List UInt8 := if wideL l then l.flatMap three else l.map UInt8.ofNat
def pk (l : List Nat) : ByteArray := ⟨(packB l).toArray⟩

theorem threes_length (l : List Nat) : (l.flatMap three).length = 3 * l.length := by
  induction l with
  | nil => rfl
  | cons c l ih => simp only [List.flatMap_cons, List.length_append, List.length_cons, ih]; simp [three]; omega

theorem pk_size (l : List Nat) : (pk l).size = if wideL l then 3 * l.length else l.length := by
  unfold pk packB
  show (List.toArray _).size = _
  split
  · simp only [List.size_toArray, threes_length]
  · simp

theorem threes_get (l : List Nat) (i j : Nat) (hi : i < l.length) (hj : j < 3) : (l.flatMap three)[3 * i + j]? = (three l[i])[j]? := by
  induction l generalizing i with
  | nil => simp at hi
  | cons c l ih =>
    simp only [List.flatMap_cons]
    cases i with
    | zero =>
      rw [List.getElem?_append_left (by simp [three]; omega)]
      simp
    | succ i =>
      rw [List.getElem?_append_right (by simp [three]; omega)]
      have h3 : (three c).length = 3 := rfl
      rw [h3, show 3 * (i + 1) + j - 3 = 3 * i + j by omega, ih i (by simpa using hi)]
      simp

theorem pk_get (l : List Nat) (i : Nat) (h : wideL l = false) (hi : i < l.length) (hp : i < (pk l).size) : ((pk l)[i]'hp).toNat = l[i] := by
  have hc : l[i] ≤ 255 := by
    have := List.any_eq_false.1 h l[i] (List.getElem_mem hi)
    simpa using this
  have e : (pk l)[i]'hp = UInt8.ofNat l[i] := by
    show (List.toArray _)[i]'_ = _
    simp [packB, h]
  rw [e]
  simp
  omega

theorem pk_get3 (l : List Nat) (i j : Nat) (h : wideL l = true) (hi : i < l.length) (hj : j < 3) (hp : 3 * i + j < (pk l).size) : (pk l)[3 * i + j]'hp = (three l[i])[j]'(by simpa [three] using hj) := by
  have e : (packB l)[3 * i + j]? = (three l[i])[j]? := by
    rw [packB, if_pos h, threes_get l i j hi hj]
  have hp' : 3 * i + j < (packB l).length := hp
  have hj' : j < (three l[i]).length := by simpa [three] using hj
  rw [List.getElem?_eq_getElem hp', List.getElem?_eq_getElem hj'] at e
  have := Option.some.inj e
  rw [← this]
  rfl
/-- Is it a character? -/
def okc (c : Int) : Bool := decide (0 ≤ c ∧ c ≤ 1114111 ∧ (c < 55296 ∨ 57343 < c))

/-- The encoding of a number below 2^21. -/
def enc (c : Nat) : List UInt8 :=
  if c < 128 then [UInt8.ofNat c]
  else if c < 2048 then [UInt8.ofNat (192 + c / 64), UInt8.ofNat (128 + c % 64)]
  else if c < 65536 then [UInt8.ofNat (224 + c / 4096), UInt8.ofNat (128 + c / 64 % 64), UInt8.ofNat (128 + c % 64)]
  else [UInt8.ofNat (240 + c / 262144), UInt8.ofNat (128 + c / 4096 % 64), UInt8.ofNat (128 + c / 64 % 64), UInt8.ofNat (128 + c % 64)]

end Go.Proofs.YtjpnkffdpcfnjaaDoor
