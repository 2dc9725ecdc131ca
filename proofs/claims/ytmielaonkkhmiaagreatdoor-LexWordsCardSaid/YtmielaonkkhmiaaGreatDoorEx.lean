/-
  lex: the example that every statement asks first, token by token.
-/
import Derived.Test.YtmielaonkkhmiaaGreatDoorTokn
set_option linter.unusedVariables false
namespace Go.Proofs.YtmielaonkkhmiaaGreatDoor
open Go.RowKit

/-- x := 16r1F; # five -/
def exT : ByteArray := ⟨#[120, 32, 58, 61, 32, 49, 54, 114, 49, 70, 59, 32, 35, 32, 102, 105, 118, 101]⟩
def byteN (S : ByteArray) (i : Nat) : Nat := (S.data.toList.getD i 0).toNat
theorem byteN_eq (S : ByteArray) (i : Nat) (h : i < S.size) : (S[i]'h).toNat = byteN S i := by
  unfold byteN
  have h2 : i < S.data.toList.length := by rw [Array.length_toList]; exact h
  rw [List.getD_eq_getElem?_getD, List.getElem?_eq_getElem h2, Option.getD_some, Array.getElem_toList]
  rfl
def runsB (S : ByteArray) (fits : Int → Bool) (n : Nat) : Bool :=
  decide (n ≤ S.size) && (List.range n).all (fun i => decide (byteN S i < 128) && fits (byteN S i : Int)) && (decide (n = S.size) || (decide (byteN S n < 128) && !fits (byteN S n : Int)))
theorem runs_of {S : ByteArray} {fits : Int → Bool} {n : Nat} (h : runsB S fits n = true) : Runs S fits n := by
  unfold runsB at h
  rw [Bool.and_eq_true, Bool.and_eq_true] at h
  obtain ⟨⟨h1, h2⟩, h3⟩ := h
  refine ⟨of_decide_eq_true h1, fun i hi hn => ?_, fun hn => ?_⟩
  · have := List.all_eq_true.1 h2 i (List.mem_range.2 hn)
    rw [Bool.and_eq_true] at this
    rw [byteN_eq S i hi]
    exact ⟨of_decide_eq_true this.1, this.2⟩
  · rw [Bool.or_eq_true] at h3
    rcases h3 with h3 | h3
    · have := of_decide_eq_true h3; omega
    · rw [Bool.and_eq_true] at h3
      rw [byteN_eq S n hn]
      exact ⟨of_decide_eq_true h3.1, by simpa using h3.2⟩
theorem noSharp_of {T : ByteArray} {p : Nat} (h : (decide (p = T.size) || (decide (p < T.size) && decide (byteN T p ≠ 35))) = true) : NoSharp T p := by
  rw [Bool.or_eq_true] at h
  rcases h with h | h
  · exact .inl (of_decide_eq_true h)
  · rw [Bool.and_eq_true] at h
    have h1 := of_decide_eq_true h.1
    exact .inr ⟨h1, by rw [byteN_eq T p h1]; exact of_decide_eq_true h.2⟩
theorem ex_size : exT.size = 18 := rfl
/-- Where the tokens begin and where they end; what they are. -/
def pl : Nat → Nat
  | 0 => 0
  | 1 => 2
  | 2 => 5
  | 3 => 10
  | _ => 18
def ql : Nat → Nat
  | 0 => 1
  | 1 => 4
  | 2 => 10
  | _ => 11
def tk0 : Nat → Int
  | 0 => 1
  | 1 => 3
  | 2 => 4
  | _ => 3
def tk1 : Nat → ByteArray
  | 0 => ⟨#[120]⟩
  | 1 => ⟨#[58, 61]⟩
  | 2 => ⟨#[]⟩
  | _ => ⟨#[59]⟩
def tk2 : Nat → Int
  | 2 => 31
  | _ => 0
theorem skip_ex (b : Nat) (tk : Value) (w : World) (h : ScAt b exT (0 : Nat) tk w) :
    Calls Tryz.prog 46 #[.pointer (some ⟨b, 0, none⟩)] w fun e w' => e = .returned (.tuple #[]) ∧ ScAt b exT (pl 0 : Nat) tk w' ∧ Kp b w w' :=
  skip_plain b exT 0 tk _ 0 w h (by decide) (by decide) rfl (runs_of (by decide +kernel)) (noSharp_of (by decide +kernel))
theorem token_ex (b r : Nat) (hr : r < 4) (tk : Value) (w : World) (h : ScAt b exT (pl r : Nat) tk w) (ht : TabX w) (hb : 1 < b) :
    Calls Tryz.prog 48 #[.pointer (some ⟨b, 0, none⟩)] w fun e w' => e = .returned (.agg #[.int .i64 (tk0 r), .string (tk1 r), .int .i64 (tk2 r), .int .i64 0]) ∧ ScAt b exT (ql r : Nat) tk w' ∧ Kp b w w' := by
  match r, hr with
  | 0, _ => exact token_word b exT 0 _ tk _ _ _ w h (by decide) (by decide +kernel) (by decide +kernel) (fun w h ht => word_any b exT 0 1 tk _ ⟨#[120]⟩ 1 w h ht hb (by decide) (by decide) rfl (runs_of (by decide +kernel)) rfl (by decide +kernel) (by decide) (by decide +kernel)) ht hb
  | 1, _ => exact token_sign b exT 2 _ tk _ _ _ w h (by decide) (by decide +kernel) (by decide +kernel) (by decide +kernel) (by decide +kernel) (fun w h ht => sign_any b exT 2 4 tk _ ⟨#[58, 61]⟩ w h ht hb (by decide) (by decide) rfl (by decide +kernel) (by decide) (by decide) rfl) ht hb
  | 2, _ => exact token_number b exT 5 _ tk _ _ _ w h (by decide) (by decide +kernel) (fun w h ht => number_16 b exT 5 tk _ w h (by decide) (by decide) rfl (fun w => numberLength_any _ 5 (by decide +kernel) (by decide) (by decide +kernel) (by decide +kernel) (fun i hi h1 h5 => by rw [byteN_eq]; exact (by decide +kernel : ∀ i : Fin 5, 1 ≤ i.val → isNa (byteN (exT.extract 5 exT.size) i.val : Int) = true) ⟨i, h5⟩ h1) (by decide +kernel) (by decide +kernel) w) (by decide +kernel)) ht hb
  | 3, _ => exact token_sign b exT 10 _ tk _ _ _ w h (by decide) (by decide +kernel) (by decide +kernel) (by decide +kernel) (by decide +kernel) (fun w h ht => sign_any b exT 10 11 tk _ ⟨#[59]⟩ w h ht hb (by decide) (by decide) rfl (by decide +kernel) (by decide) (by decide) rfl) ht hb
theorem skips_ex (b r : Nat) (hr : r < 4) (tk : Value) (w : World) (h : ScAt b exT (ql r : Nat) tk w) :
    Calls Tryz.prog 46 #[.pointer (some ⟨b, 0, none⟩)] w fun e w' => e = .returned (.tuple #[]) ∧ ScAt b exT (pl (r + 1) : Nat) tk w' ∧ Kp b w w' := by
  match r, hr with
  | 0, _ => exact skip_plain b exT 1 tk _ 1 w h (by decide) (by decide) rfl (runs_of (by decide +kernel)) (noSharp_of (by decide +kernel))
  | 1, _ => exact skip_plain b exT 4 tk _ 1 w h (by decide) (by decide) rfl (runs_of (by decide +kernel)) (noSharp_of (by decide +kernel))
  | 2, _ => exact skip_plain b exT 10 tk _ 0 w h (by decide) (by decide) rfl (runs_of (by decide +kernel)) (noSharp_of (by decide +kernel))
  | 3, _ => exact skip_sharp b exT 11 12 18 18 tk _ _ _ 1 6 0 w h (by decide) (by decide) rfl (runs_of (by decide +kernel)) rfl (by decide) (by decide +kernel) rfl (runs_of (by decide +kernel)) rfl (by decide) rfl (runs_of (by decide +kernel)) rfl (noSharp_of (by decide +kernel))
end Go.Proofs.YtmielaonkkhmiaaGreatDoor
