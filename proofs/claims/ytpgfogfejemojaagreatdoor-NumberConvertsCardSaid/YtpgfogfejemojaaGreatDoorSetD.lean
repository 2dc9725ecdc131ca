/-
  internal/strconv.setDigits.
-/
import Derived.Test.YtpgfogfejemojaaGreatDoorFixed
import Derived.Lib.ItoaMem
set_option linter.unusedVariables false
namespace Go.Proofs.YtpgfogfejemojaaGreatDoor
open Go.RowKit Go.Sort Go.Lib

/-- The number of digits without the zeros at their end, of the first k. -/
def stripN (L : List UInt8) : Nat → Nat
  | 0 => 0
  | k + 1 => if L.getD k 0 = 48 then stripN L k else k + 1
theorem stripN_yes (L : List UInt8) (k : Nat) (h : L.getD k 0 = 48) : stripN L (k + 1) = stripN L k := by
  rw [stripN, if_pos h]
theorem stripN_no (L : List UInt8) (k : Nat) (h : ¬ L.getD k 0 = 48) : stripN L (k + 1) = k + 1 := by
  rw [stripN, if_neg h]
theorem stripN_le (L : List UInt8) (k : Nat) : stripN L k ≤ k := by
  induction k with
  | zero => exact Nat.le_refl _
  | succ k ih => unfold stripN; split <;> omega

def byC (b : UInt8) : Value := .int .u8 (b.toNat : Int)
def Buf (w : World) (g : Nat) (L : List UInt8) : Prop := ∀ j, j < L.length → w.cell? ⟨g, j, none⟩ = some (.int .u8 ((L.getD j 0).toNat : Int))
def Zero24 (w : World) (g : Nat) : Prop := ∀ j, j < 24 → w.cell? ⟨g, j, none⟩ = some (.int .u8 0) ∧ w.frozen? ⟨g, j, none⟩ = false

theorem below_put {α : Type} [Inhabited α] {enc : α → Value} {B : Nat} {w0 w : World} {g : Nat} {d : Array α} (h : Below B w0 w) (hg : B ≤ g) : Below B w0 (putRow enc w g 0 d) :=
  ⟨h.os, h.tape, h.output, by simpa [putRow, mapBlock] using h.size, fun k hk => by
    rw [← h.block k hk]
    simp [putRow, mapBlock, Array.getElem?_modify, show g ≠ k by omega]⟩
def StripRel (L : List UInt8) (n : Nat) (v : Value) : Prop := ∃ k : Nat, k ≤ n ∧ v = .int .i64 (k : Int) ∧ stripN L k = stripN L n
set_option maxRecDepth 100000 in
theorem setDigits_any (g d : Nat) (p : Int) (h1 : 1 ≤ d) (h2 : d < 18446744073709551616) (p0 : -1000 ≤ p) (p1 : p ≤ 1000) (w : World) (ht : TabN w) (hz : Zero24 w g) (hg : 16 < g) :
    Calls Tryz.prog 131 #[.slice (some ⟨g, 0, none⟩) 24 24, .int .u64 (d : Int), .int .i64 p, .int .i64 (nDigits d : Int)] w fun en w' =>
      en = .returned (.tuple #[.int .i64 ((nDigits d : Int) + p), .int .i64 (stripN (decDigits d) (nDigits d) : Int)]) ∧ Buf w' g (decDigits d) ∧ Below g w w' := by
  have hnd : nDigits d ≤ 20 := by have := numDigits_eq d h1 h2; split at this <;> omega
  have hpos := nDigits_pos d
  have hlt := lt_pow_nDigits d
  have HH : Hid (Holds (fun (b : UInt8) => Value.int .u8 (b.toNat : Int)) w g 0 (Array.replicate (nDigits d) (0 : UInt8))) := Lib.hid (fun j hj => by
    have hj' : j < nDigits d := by simpa using hj
    have := hz j (by omega)
    rw [Nat.zero_add, getElem!_pos _ j hj]
    simpa using this)
  have hsz : (Array.replicate (nDigits d) (0 : UInt8)).size = nDigits d := by simp
  have hlen := decDigits_length d
  have HF : Hid (∀ cap, Calls Tryz.prog 145 #[.slice (some ⟨g, 0, none⟩) (nDigits d) cap, .int .u64 (d : Int)] w fun e w' => e = .returned (.tuple #[]) ∧ Buf w' g (decDigits d) ∧ Below g w w') := Lib.hid (fun cap => by
    have h := Tryz.internal_strconv_formatBase10 g 0 cap d (Array.replicate (nDigits d) 0) w HH.out (by simpa using hlt) h2 (by simp; omega)
    rw [hsz] at h
    refine h.mono ?_
    rintro e w' ⟨he, n, v', dk, rfl, hi⟩
    refine ⟨he, ?_, below_drewN (below_put (Below.refl _ _) (Nat.le_refl _)) _⟩
    intro j hj
    have hds : dk.size = nDigits d := hi.size
    have hq := holds_putRow _ w g 0 _ dk HH.out (by rw [hds]; simp) j (by rw [hds]; omega)
    rw [World.cell?_drewN]
    rw [Nat.zero_add] at hq
    rw [hq.1, ← row_is_numeral hi j hj, List.getD_eq_getElem?_getD, List.getElem?_eq_getElem hj]
    rfl)
  obtain ⟨L, hL⟩ : ∃ L, L = decDigits d := ⟨_, rfl⟩
  obtain ⟨nd, hndd⟩ : ∃ nd, nd = nDigits d := ⟨_, rfl⟩
  rw [← hndd, ← hL] at HF hlen ⊢
  rw [← hndd] at hnd hpos
  clear hndd hlt hz hsz HH hL
  go_enter Tryz.func131, Tryz.ntmps131
  go_wp2_with fail
  refine (HF.out _).mono ?_
  rintro e w1 ⟨rfl, hbuf, hb⟩
  have HB := Lib.hid hb
  have HBUF := Lib.hid hbuf
  have HLEN := Lib.hid hlen
  clear hb hbuf hlen
  go_wp2_with fail
  go_loop [3] (fun v => StripRel L nd v) (fun v => (Go.RowKit.intOf v).toNat)
  case atStart => exact ⟨nd, Nat.le_refl _, rfl, rfl⟩
  case round =>
    obtain ⟨k, hk, rfl, hst⟩ := hrel
    have HST := Lib.hid hst
    clear hst
    cases k with
    | zero =>
      have HST2 : Hid (stripN L nd = 0) := Lib.hid HST.out.symm
      go_wp2
      go_ret2
      exact ⟨by rw [HST2.out]; rfl, HBUF.out, HB.out⟩
    | succ k =>
      have hc := HBUF.out k (by have := HLEN.out; omega)
      by_cases h48 : L.getD k 0 = 48
      · rw [h48] at hc
        have HN : Hid (stripN L k = stripN L nd) := Lib.hid (by rw [← HST.out, stripN_yes L k h48])
        clear h48
        have hc' : w1.cell? ⟨g, k, none⟩ = some (.int .u8 48) := hc
        clear hc
        go_wp2
        go_round
        case rel => exact ⟨k, by omega, by go_num, HN.out⟩
        case measure => simp [Go.RowKit.intOf]
      · have hne : ((((L.getD k 0).toNat : Nat) : Int) == 48) = false := by
          simp only [beq_eq_false_iff_ne, ne_eq]
          intro h
          apply h48
          have : (L.getD k 0).toNat = 48 := by omega
          exact UInt8.toNat_inj.1 this
        have HN : Hid (stripN L nd = k + 1) := Lib.hid (by rw [← HST.out, stripN_no L k h48])
        obtain ⟨c, hce⟩ : ∃ c, c = L.getD k 0 := ⟨_, rfl⟩
        rw [← hce] at hc hne
        clear h48 hce
        go_wp2
        go_ret2
        exact ⟨by rw [HN.out]; rfl, HBUF.out, HB.out⟩
end Go.Proofs.YtpgfogfejemojaaGreatDoor
