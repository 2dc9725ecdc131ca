/-
  Plain facts of lex: keywords, signs, the bytes of names.
-/
import Derived.Test.YtmielaonkkhmiaaGreatDoorShelf
import Derived.Lib.Strings
import Derived.Lib.SlicesS
import Derived.Laws.StructEq
set_option linter.unusedVariables false
namespace Go.Proofs.YtmielaonkkhmiaaGreatDoor
open Go.RowKit

/-- The keywords, and the signs, as the program has them: the longer signs first. -/
def keysL : List ByteArray := [⟨#[97, 100, 116]⟩, ⟨#[97, 108, 116]⟩, ⟨#[97, 114, 114, 97, 121]⟩, ⟨#[98, 105, 103]⟩, ⟨#[98, 114, 101, 97, 107]⟩, ⟨#[98, 121, 116, 101]⟩, ⟨#[99, 97, 115, 101]⟩, ⟨#[99, 104, 97, 110]⟩, ⟨#[99, 111, 110]⟩, ⟨#[99, 111, 110, 116, 105, 110, 117, 101]⟩, ⟨#[100, 111]⟩, ⟨#[101, 108, 115, 101]⟩, ⟨#[101, 120, 99, 101, 112, 116, 105, 111, 110]⟩, ⟨#[101, 120, 105, 116]⟩, ⟨#[102, 110]⟩, ⟨#[102, 111, 114]⟩, ⟨#[104, 100]⟩, ⟨#[105, 102]⟩, ⟨#[105, 109, 112, 108, 101, 109, 101, 110, 116]⟩, ⟨#[105, 110, 116]⟩, ⟨#[105, 111, 116, 97]⟩, ⟨#[108, 101, 110]⟩, ⟨#[108, 105, 115, 116]⟩, ⟨#[108, 111, 97, 100]⟩, ⟨#[109, 111, 100, 117, 108, 101]⟩, ⟨#[110, 105, 108]⟩, ⟨#[111, 102]⟩, ⟨#[111, 114]⟩, ⟨#[112, 105, 99, 107]⟩, ⟨#[114, 97, 105, 115, 101]⟩, ⟨#[114, 101, 97, 108]⟩, ⟨#[114, 101, 102]⟩, ⟨#[114, 101, 116, 117, 114, 110]⟩, ⟨#[115, 101, 108, 102]⟩, ⟨#[115, 112, 97, 119, 110]⟩, ⟨#[115, 116, 114, 105, 110, 103]⟩, ⟨#[116, 97, 103, 111, 102]⟩, ⟨#[116, 108]⟩, ⟨#[116, 111]⟩, ⟨#[116, 121, 112, 101]⟩, ⟨#[119, 104, 105, 108, 101]⟩]
def signsL : List ByteArray := [⟨#[60, 60, 61]⟩, ⟨#[62, 62, 61]⟩, ⟨#[60, 45, 61]⟩, ⟨#[61, 61]⟩, ⟨#[33, 61]⟩, ⟨#[60, 61]⟩, ⟨#[62, 61]⟩, ⟨#[60, 60]⟩, ⟨#[62, 62]⟩, ⟨#[38, 38]⟩, ⟨#[124, 124]⟩, ⟨#[43, 43]⟩, ⟨#[45, 45]⟩, ⟨#[43, 61]⟩, ⟨#[45, 61]⟩, ⟨#[42, 61]⟩, ⟨#[47, 61]⟩, ⟨#[37, 61]⟩, ⟨#[38, 61]⟩, ⟨#[124, 61]⟩, ⟨#[94, 61]⟩, ⟨#[58, 61]⟩, ⟨#[60, 45]⟩, ⟨#[45, 62]⟩, ⟨#[61, 62]⟩, ⟨#[58, 58]⟩, ⟨#[43]⟩, ⟨#[45]⟩, ⟨#[42]⟩, ⟨#[47]⟩, ⟨#[37]⟩, ⟨#[38]⟩, ⟨#[124]⟩, ⟨#[94]⟩, ⟨#[126]⟩, ⟨#[33]⟩, ⟨#[61]⟩, ⟨#[60]⟩, ⟨#[62]⟩, ⟨#[46]⟩, ⟨#[44]⟩, ⟨#[59]⟩, ⟨#[58]⟩, ⟨#[40]⟩, ⟨#[41]⟩, ⟨#[91]⟩, ⟨#[93]⟩, ⟨#[123]⟩, ⟨#[125]⟩]
def isKey (s : ByteArray) : Bool := keysL.any (fun k => s == k)
def isSgn (s : ByteArray) : Bool := signsL.any (fun k => s == k)
def leadS (s : ByteArray) : ByteArray := (signsL.find? (fun k => Lib.hasPrefix s.data.toList k.data.toList)).getD ⟨#[]⟩
theorem sign_own : signsL.all (fun k => k == leadS k && !(k == ⟨#[]⟩)) = true := by decide +kernel
theorem ba_eq (a b : ByteArray) : (a == b) = true ↔ a = b := by rw [beq_toListBytes]; exact Lib.bytes_beq_iff a b
theorem sign_eq (s : ByteArray) : (!(s == ⟨#[]⟩) && s == leadS s) = isSgn s := by
  rw [Bool.eq_iff_iff]
  constructor
  · intro h
    rw [Bool.and_eq_true, Bool.not_eq_true', ba_eq] at h
    obtain ⟨h0, h1⟩ := h
    unfold leadS at h1
    cases hf : signsL.find? (fun k => Lib.hasPrefix s.data.toList k.data.toList) with
    | none =>
      rw [hf] at h1
      rw [Option.getD_none] at h1
      have := (ba_eq s ⟨#[]⟩).2 h1
      rw [this] at h0
      cases h0
    | some k =>
      rw [hf, Option.getD_some] at h1
      unfold isSgn
      rw [List.any_eq_true]
      exact ⟨k, List.mem_of_find?_eq_some hf, (ba_eq s k).2 h1⟩
  · intro h
    unfold isSgn at h
    rw [List.any_eq_true] at h
    obtain ⟨k, hk, hs⟩ := h
    have := (ba_eq s k).1 hs
    subst this
    have := List.all_eq_true.1 sign_own s hk
    rw [Bool.and_eq_true] at this
    rw [Bool.and_eq_true]
    exact ⟨this.2, this.1⟩
def wordB (n : Nat) : Bool := decide (97 ≤ n ∧ n ≤ 122) || decide (65 ≤ n ∧ n ≤ 90) || decide (48 ≤ n ∧ n ≤ 57) || n == 95
def allWord (s : ByteArray) : Bool := s.data.toList.all (fun b => wordB b.toNat)
end Go.Proofs.YtmielaonkkhmiaaGreatDoor
