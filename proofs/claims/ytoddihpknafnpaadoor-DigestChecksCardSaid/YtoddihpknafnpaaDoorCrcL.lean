/-
  The check that the program reckons is the check of the mathematics.
-/
import Derived.Test.YtoddihpknafnpaaDoorCrcM
import Derived.Test.YtoddihpknafnpaaDoorRefCrc
set_option linter.unusedVariables false
namespace Go.Proofs.YtoddihpknafnpaaDoor
open Go.RowKit

theorem and32 (x : Nat) (h : x < 4294967296) : bits .and .u32 (x : Int) 1 = ((x % 2 : Nat) : Int) := by rw [and32i _ (by omega) (by omega)]; omega
theorem crcBit_nat (x : Nat) (h : x < 4294967296) : crcBit (x : Int) = (stepN x : Int) := by
  unfold crcBit stepN
  rw [and32 x h]
  have e : (x : Int) / 2 = ((x / 2 : Nat) : Int) := by omega
  rcases Nat.mod_two_eq_zero_or_one x with a | a
  · rw [if_neg (by rw [a]; decide), if_neg (by omega), e]
  · rw [if_pos (by rw [a]; rfl), if_pos a, e]
    exact xorN32 (x / 2) 3988292384 (by omega) (by decide)
theorem itN_succ (x k : Nat) : itN x (k + 1) = stepN (itN x k) := by rw [itN_add]; rfl
theorem crcBits_nat (x k : Nat) (h : x < 4294967296) : crcBits (x : Int) k = (itN x k : Int) := by
  induction k with
  | zero => rfl
  | succ k ih => rw [crcBits, ih, crcBit_nat _ (itN_lt k x h), itN_succ]
def nats (l : List UInt8) : List Nat := l.map (·.toNat)
theorem nats_lt (l : List UInt8) : ∀ b ∈ nats l, b < 256 := by
  intro b hb
  simp only [nats, List.mem_map] at hb
  obtain ⟨c, _, rfl⟩ := hb
  exact c.toNat_lt
theorem crcK_nat (c : Nat) (hc : c < 4294967296) (l : List UInt8) (k : Nat) (hk : k ≤ l.length) : crcK (c : Int) l k = (crcN c (nats (l.take k)) : Int) := by
  induction k with
  | zero => rfl
  | succ k ih =>
    have hlt := crcN_lt (nats (l.take k)) c hc (nats_lt _)
    have e : nats (l.take (k + 1)) = nats (l.take k) ++ [(l.getD k 0).toNat] := by
      rw [List.take_succ_eq_append_getElem (by omega), nats, List.map_append, List.map_cons, List.map_nil, nats, List.getD_eq_getElem?_getD, List.getElem?_eq_getElem (show k < l.length by omega), Option.getD_some]
    have hb := (l.getD k 0).toNat_lt
    rw [crcK, ih (by omega), e, crcN_app, crcN_cons, crcN_nil, byteS_def, byt, xorN32 _ _ hlt (by omega), crcBits_nat _ _ (Nat.xor_lt_two_pow (n := 32) hlt (by omega))]
theorem mask_ex : ∃ n : Nat, n = 4294967295 := ⟨_, rfl⟩
/-- All bits of a word, which the kernel can't open. -/
noncomputable def maskC : Nat := Classical.choose mask_ex
theorem maskC_eq : maskC = 4294967295 := Classical.choose_spec mask_ex
noncomputable def notN (x : Nat) : Nat := maskC ^^^ x
theorem xor_lt32 (a x : Nat) (ha : a < 4294967296) (h : x < 4294967296) : a ^^^ x < 4294967296 := Nat.xor_lt_two_pow (n := 32) ha h
theorem notN_lt (x : Nat) (h : x < 4294967296) : notN x < 4294967296 := xor_lt32 maskC x (by rw [maskC_eq]; omega) h
theorem xor_twice (a x : Nat) : a ^^^ (a ^^^ x) = x := by rw [← Nat.xor_assoc, Nat.xor_self, Nat.zero_xor]
theorem notN_notN (x : Nat) : notN (notN x) = x := xor_twice maskC x
theorem max32 : IntKind.u32.max = (maskC : Int) := by rw [maskC_eq]; decide +kernel
theorem notW_nat (x : Nat) (h : x < 4294967296) : notW (x : Int) = (notN x : Int) := by
  unfold notW notN
  rw [max32]
  exact xorN32 maskC x (by rw [maskC_eq]; omega) h
noncomputable def crcXN (c : Nat) (l : List UInt8) : Nat := notN (crcN (notN c) (nats l))
theorem crcXN_lt (c : Nat) (hc : c < 4294967296) (l : List UInt8) : crcXN c l < 4294967296 := notN_lt _ (crcN_lt _ _ (notN_lt c hc) (nats_lt l))
theorem crcX_nat (c : Nat) (hc : c < 4294967296) (l : List UInt8) : crcX (c : Int) l = (crcXN c l : Int) := by
  unfold crcX crcXN
  rw [notW_nat c hc, crcK_nat _ (notN_lt c hc) l _ (Nat.le_refl _), List.take_of_length_le (Nat.le_refl _), notW_nat _ (crcN_lt _ _ (notN_lt c hc) (nats_lt l))]
/-- The check of a text goes on with the next one. -/
theorem crcX_app (s t : List UInt8) : crcX (crcX 0 s) t = crcX 0 (s ++ t) := by
  have h0 : (0 : Int) = ((0 : Nat) : Int) := rfl
  rw [h0, crcX_nat 0 (by decide), crcX_nat _ (crcXN_lt 0 (by decide) s), crcX_nat 0 (by decide)]
  unfold crcXN
  rw [notN_notN, show nats (s ++ t) = nats s ++ nats t by simp [nats], crcN_app]
/-- A change that the mathematics sees, the check sees. -/
theorem crcX_ne (l m : List UInt8) (D : List Nat) (hl : l.length = D.length) (hm : nats m = List.zipWith (· ^^^ ·) (nats l) D) (hD : crcN 0 D ≠ 0) : crcX 0 m ≠ crcX 0 l := by
  have h0 : (0 : Int) = ((0 : Nat) : Int) := rfl
  rw [h0, crcX_nat 0 (by decide), crcX_nat 0 (by decide)]
  intro e
  have e2 : crcXN 0 m = crcXN 0 l := by omega
  unfold crcXN at e2
  have e3 := congrArg notN e2
  rw [notN_notN, notN_notN, hm] at e3
  have e4 := crcN_xor (nats l) D (notN 0) 0 (by simp [nats, hl])
  rw [Nat.xor_zero, e3] at e4
  refine hD ?_
  have e5 := xor_cancel (crcN (notN 0) (nats l)) 0 (crcN 0 D) (by rw [Nat.xor_zero]; exact e4)
  exact e5.symm
end Go.Proofs.YtoddihpknafnpaaDoor
