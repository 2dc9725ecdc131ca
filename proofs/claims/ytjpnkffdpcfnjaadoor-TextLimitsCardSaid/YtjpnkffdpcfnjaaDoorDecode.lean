/-
  The reference's Decode: the characters of a text, as a slice of the call's own.
-/
import Derived.Test.YtjpnkffdpcfnjaaDoorFirst5
import Derived.Test.YtjpnkffdpcfnjaaDoorDec2
set_option linter.unusedVariables false
namespace Go.Proofs.YtjpnkffdpcfnjaaDoor
open Go.RowKit

theorem infoInt : (Tryd.prog.info? 3).map (fun i => (i.zero, i.size, i.bytes)) = some (some (.int .i64 0), 1, 8) := by kernel_rfl

def intsV (l : List Nat) : List Value := l.map fun (c : Nat) => Value.int .i64 (c : Int)
/-- A slice of the numbers l, in blocks from base on. -/
def Ints (w : World) (base : Nat) (v : Value) (l : List Nat) : Prop := w.ownsRow base 3 1 v l.length (intsV l)

theorem decF_len (s : ByteArray) (f pos : Nat) : (decF s f pos).length ≤ f := by
  induction f generalizing pos with
  | zero => simp [decF]
  | succ f ih =>
    unfold decF
    split
    · simp; exact ih _
    · simp

theorem row_below {w w' : World} {base B : Nat} {e : TypeId} {size n : Nat} {v : Value} {xs : List Value} (h : w.ownsRow base e size v n xs) (hB : w.heap.size ≤ B) (hb : Below B w w') : w'.ownsRow base e size v n xs := by
  have hlt := h.lt
  refine ⟨h.1, ?_⟩
  rcases h.2 with hn | ⟨g, cap, cur, hv, hg, hc, rest⟩
  · exact .inl hn
  · refine .inr ⟨g, cap, cur, hv, hg, ?_, rest⟩
    have := hlt g (by rw [hv]; rfl)
    rw [hb.block g (by omega)]
    exact hc

theorem below_from {B : Nat} {w w1 w2 : World} (h : Below B w w1) (h2 : Below w1.heap.size w1 w2) (hB : B ≤ w.heap.size) : Below B w w2 :=
  h.trans (h2.mono (by have := h.size; omega))

def strLen : Value → Nat | .string s => s.size | _ => 0

def DecRel (s : ByteArray) (w : World) (t out : Value) (wr : World) : Prop :=
  ∃ (pos fuel : Nat) (acc : List Nat), pos ≤ s.size ∧ t = .string (s.extract pos s.size) ∧ Ints wr w.heap.size out acc ∧ Below w.heap.size w wr ∧ acc ++ decF s fuel pos = decs s ∧ s.size ≤ pos + fuel ∧ acc.length ≤ pos

def DecPost (s : ByteArray) (w : World) (e : Ending) (w' : World) : Prop := ∃ v, e = .returned v ∧ Ints w' w.heap.size v (decs s) ∧ Below w.heap.size w w'

set_option maxHeartbeats 1000000 in
theorem decode_any (s : ByteArray) (hl : s.size ≤ 1000000000) (w : World) :
    Calls Tryd.prog 11 #[.string s] w (DecPost s w) := by
  obtain ⟨i0, hi, hz0, hz1, hz2⟩ := info_parts infoInt
  go_enter Tryd.func11, Tryd.ntmps11
  go_wp2
  go_loopw [0, 3, 4, 5] (fun t out _ _ wr => DecRel s w t out wr) (fun t _ _ _ _ => strLen t)
  case atStart => exact ⟨0, s.size, [], by omega, by simp, World.ownsRow_nil _ _ _ _, Below.refl _ _, rfl, by omega, Nat.le_refl _⟩
  case round =>
    obtain ⟨pos, fuel, acc, hpl, rfl, hown, hbel, hacc, hfu, hal⟩ := hrel
    have hsz := hbel.size
    by_cases hp : pos < s.size
    · have hwd := width_pos s pos hp
      have hwl := width_le s pos hp
      obtain ⟨f, rfl⟩ : ∃ f, fuel = f + 1 := ⟨fuel - 1, by omega⟩
      have hdec : decF s (f + 1) pos = (Utf8.decode s pos).1 :: decF s f (pos + (Utf8.decode s pos).2) := by simp [decF, hp]
      rw [hdec] at hacc
      have HA := Lib.hid hacc
      have hts : (s.extract pos s.size).size = s.size - pos := by simp
      have hde := decode_extract s pos (by omega)
      have hstep := extract_step s pos (Utf8.decode s pos).2 hwl
      have hc := Lib.hid (decode_lt s pos)
      have hfc := first_any (s.extract pos s.size) (by omega) (by omega) wr
      unfold FirstPost at hfc
      rw [hde] at hfc
      have hpos : (0 : Int) < ((s.extract pos s.size).size : Int) := by omega
      generalize (Utf8.decode s pos).1 = c at HA hfc hc
      generalize (Utf8.decode s pos).2 = n at HA hfc hstep hwd hwl
      have HS := Lib.hid hstep
      have HF := Lib.hid hfc
      have HT := Lib.hid hts
      clear hacc hdec hde hstep hfc hts
      have hn2 : n ≤ (s.extract pos s.size).size := by rw [HT.out]; omega
      generalize ht : s.extract pos s.size = t at HF HT hpos hn2 HS
      have HTT := Lib.hid ht
      clear ht
      go_wp2_with (go_at_call 33; refine HF.out.mono ?_)
      rintro e w1 ⟨rfl, hb1⟩
      have hown1 := row_below hown (Nat.le_refl _) hb1
      have hbel1 := below_from hbel hb1 (Nat.le_refl _)
      have hsz1 := hbel1.size
      clear hown hbel
      go_wp2_with (at_builtin; refine wpList_append_own _ rfl _ _ 31 rfl w.heap.size 3 i0 (.int .i64 0) 1 8 Tryd.underlying31 hi hz0 hz1 hz2 rfl (by decide) _ _ _ rfl (hown1.alloc _) ⟨w1.heap.size, 0, none⟩ 1 1 [.int .i64 (c : Int)] rfl rfl ?c1 ?c2 ?c3 ?c4 ?c5 ?_)
      case c1 =>
        intro j u hj
        match j, hj with
        | 0, hj => simp at hj; subst hj; simp [Addr.add]
      case c2 => intro u hu; simp at hu; subst hu; rfl
      case c3 => unfold maxLen; omega
      case c4 => omega
      case c5 => simp; omega
      intro v' w2 hown' hgrow _
      have hb2 := below_append hbel1 (Nat.le_refl _) hown1 hgrow
      clear hown1 hbel1 hb1
      go_wp2
      go_roundw
      case rel =>
        refine ⟨pos + n, f, acc ++ [c], hwl, ?_, ?_, hb2, ?_, by omega, by simp; omega⟩
        · have h1 := HS.out
          rw [← HT.out] at h1
          rw [← h1]
        · have e : intsV (acc ++ [c]) = intsV acc ++ [.int .i64 (c : Int)] := by simp [intsV]
          unfold Ints
          rw [e, List.length_append]
          exact hown'
        · rw [← HA.out]; simp
      case measure =>
        have := HT.out
        simp [strLen]
        omega
    · rw [decF_end s fuel pos hp, List.append_nil] at hacc
      subst hacc
      have hts : (s.extract pos s.size).size = 0 := by simp; omega
      have hz : ¬ (0 : Int) < ((s.extract pos s.size).size : Int) := by omega
      clear hts
      generalize s.extract pos s.size = t at hz
      go_wp2
      go_ret
      exact ⟨_, rfl, hown, hbel⟩
end Go.Proofs.YtjpnkffdpcfnjaaDoor
