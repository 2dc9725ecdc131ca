/-
  text.quoteChar and text.Quote: the literal of any string.
-/
import Derived.Test.YtjpnkffdpcfnjaaDoorQuoM
import Derived.Test.YtjpnkffdpcfnjaaDoorIdxR
import Derived.Test.YtjpnkffdpcfnjaaDoorBByte
import Derived.Test.YtjpnkffdpcfnjaaDoorBStr
import Derived.Test.YtjpnkffdpcfnjaaDoorText
set_option linter.unusedVariables false
namespace Go.Proofs.YtjpnkffdpcfnjaaDoor
open Go.RowKit

def qi (c : Nat) : Int := if c = 10 then 0 else if c = 9 then 1 else if c = 13 then 2 else if c = 0 then 3 else if c = 34 then 4 else if c = 92 then 5 else -1
theorem qi_ascii : ∀ k : Fin 128, Lib.indexByte [10, 9, 13, 0, 34, 92] k.val.toUInt8 = qi k.val := by decide +kernel
theorem qs_ascii : ∀ j, j < (⟨#[10, 9, 13, 0, 34, 92]⟩ : ByteArray).size → byteAt ⟨#[10, 9, 13, 0, 34, 92]⟩ j < 128 := by
  intro j hj
  have key : ∀ k : Fin 6, byteAt ⟨#[10, 9, 13, 0, 34, 92]⟩ k.val < 128 := by decide +kernel
  exact key ⟨j, hj⟩

theorem idxR_any (c : Nat) (hc : c < 1114112 ∧ (c < 55296 ∨ 57343 < c)) (w : World) :
    Calls Tryd.prog 48 #[.string ⟨#[10, 9, 13, 0, 34, 92]⟩, .int .i32 (c : Int)] w fun e w' => e = .returned (.int .i64 (qi c)) ∧ Below w.heap.size w w' := by
  by_cases h : c < 128
  · refine (Tryd.strings_IndexRune_ascii ⟨#[10, 9, 13, 0, 34, 92]⟩ (c : Int) w (by omega) (by omega)).mono fun e w' h' => ⟨?_, ?_⟩
    · rw [h'.1, Int.toNat_natCast]
      exact ret_int (qi_ascii ⟨c, h⟩)
    · rw [h'.2]; exact Below.refl _ _
  · have e : qi c = -1 := by unfold qi; repeat' split
                             all_goals omega
    rw [e]
    exact idxR_none _ (by decide) (by decide) qs_ascii c hc (by omega) w

theorem cells_app (a b : List UInt8) : Lib.byteCells (a ++ b) = Lib.byteCells a ++ Lib.byteCells b := Lib.byteCells_append a b
theorem cells_len (a : List UInt8) : (Lib.byteCells a).length = a.length := Lib.byteCells_length a
theorem hex_lit : ∀ k : Fin 16, byteAt ⟨#[48, 49, 50, 51, 52, 53, 54, 55, 56, 57, 97, 98, 99, 100, 101, 102]⟩ k.val = (hexd k.val).toNat := by decide +kernel
theorem hex_at (k : Nat) (h : k < 16) (h' : k < (⟨#[48, 49, 50, 51, 52, 53, 54, 55, 56, 57, 97, 98, 99, 100, 101, 102]⟩ : ByteArray).size) : ((⟨#[48, 49, 50, 51, 52, 53, 54, 55, 56, 57, 97, 98, 99, 100, 101, 102]⟩ : ByteArray)[k]'h').toNat = (hexd k).toNat := (byteAt_eq _ k h').trans (hex_lit ⟨k, h⟩)
theorem and15 : ∀ k : Fin 128, bits .and .i32 (k.val : Int) 15 = ((k.val % 16 : Nat) : Int) := by decide +kernel

/-- What quoteChar leaves. -/
def QC (B b : Nat) (bs : List UInt8) (w : World) (e : Ending) (w' : World) : Prop := e = .returned (.tuple #[]) ∧ Lib.IsBuilderF 56 5 B b (Lib.byteCells bs) w' ∧ Below B w w'

set_option maxHeartbeats 2000000 in
set_option maxRecDepth 100000 in
theorem quote_two (B b : Nat) (bs : List UInt8) (c x : Nat) (i : Int) (hq : qi c = i) (hi : (i = 0 ∧ x = 110) ∨ (i = 1 ∧ x = 116) ∨ (i = 2 ∧ x = 114) ∨ (i = 3 ∧ x = 48) ∨ (i = 4 ∧ x = 34) ∨ (i = 5 ∧ x = 92)) (hc : c < 128) (w : World) (h : Lib.IsBuilderF 56 5 B b (Lib.byteCells bs) w) (hl : bs.length ≤ 100000000) (hB : B ≤ w.heap.size) :
    Calls Tryd.prog 27 #[.pointer (some ⟨b, 0, none⟩), .int .i32 (c : Int)] w (QC B b (bs ++ [92, x.toUInt8]) w) := by
  have HI := Lib.hid (idxR_any c (by omega))
  rw [hq] at HI
  have hlen1 : (Lib.byteCells bs).length + 1 ≤ 140737488355328 := by rw [cells_len]; omega
  have hlen2 : (Lib.byteCells bs ++ [Value.int .u8 92]).length + 1 ≤ 140737488355328 := by rw [List.length_append, cells_len]; simp; omega
  have HL1 := Lib.hid hlen1
  have HL2 := Lib.hid hlen2
  have HB := Lib.hid hB
  generalize (c : Int) = z at HI ⊢
  clear hlen1 hlen2 hB hl hq hc
  unfold QC
  rcases hi with ⟨rfl, rfl⟩ | ⟨rfl, rfl⟩ | ⟨rfl, rfl⟩ | ⟨rfl, rfl⟩ | ⟨rfl, rfl⟩ | ⟨rfl, rfl⟩
  all_goals
    go_enter Tryd.func27, Tryd.ntmps27
    go_wp2_with fail
    refine (HI.out _).mono ?_
    rintro e w1 ⟨rfl, hb1⟩
    have h1 := builder_below h hb1
    have hB1 := Nat.le_trans HB.out hb1.size
    go_wp2_with fail
    refine (writeByte_any B b _ 92 w1 h1 HL1.out hB1).mono ?_
    rintro e w2 ⟨rfl, h2, hb2, _⟩
    have hB2 := Nat.le_trans hB1 hb2.size
    go_wp2_with fail
    refine (writeByte_any B b _ _ w2 (.inr h2) HL2.out hB2).mono ?_
    rintro e w3 ⟨rfl, h3, hb3, _⟩
    have hbw : Below B w w3 := ((hb1.mono HB.out).trans hb2).trans hb3
    go_wp2
    refine bodyPost_ret (results_none rfl _ _ _) rfl ?_
    refine ⟨rfl, ?_, hbw⟩
    rw [cells_app]
    rw [List.append_assoc] at h3
    exact .inr h3

set_option maxHeartbeats 8000000 in
set_option maxRecDepth 100000 in
theorem quote_hex (B b : Nat) (bs : List UInt8) (c : Nat) (hq : qi c = -1) (hc : c < 32 ∨ c = 127) (w : World) (h : Lib.IsBuilderF 56 5 B b (Lib.byteCells bs) w) (hl : bs.length ≤ 100000000) (hB : B ≤ w.heap.size) :
    Calls Tryd.prog 27 #[.pointer (some ⟨b, 0, none⟩), .int .i32 (c : Int)] w (QC B b (bs ++ [92, 117, 48, 48, hexd (c / 16), hexd (c % 16)]) w) := by
  have HI := Lib.hid (idxR_any c (by omega))
  rw [hq] at HI
  obtain ⟨p, hp⟩ : ∃ p, p = c / 16 := ⟨_, rfl⟩
  obtain ⟨r, hr⟩ : ∃ r, r = c % 16 := ⟨_, rfl⟩
  have hp16 : p < 16 := by omega
  have hr16 : r < 16 := by omega
  have hpI : (c : Int) / 16 = (p : Int) := by omega
  have hrI : bits .and .i32 (c : Int) 15 = (r : Int) := by have h15 := and15 ⟨c, by omega⟩; dsimp only at h15; rw [h15, hr]
  rw [← hp, ← hr]
  have hlt : (c : Int) < 32 ∨ (c : Int) = 127 := by omega
  have hlen1 : (Lib.byteCells bs).length + (⟨#[92, 117, 48, 48]⟩ : ByteArray).size ≤ 140737488355328 := by rw [cells_len]; show bs.length + 4 ≤ _; omega
  have HL1 := Lib.hid hlen1
  have HL := Lib.hid hl
  have HB := Lib.hid hB
  have HP16 := Lib.hid hp16
  have HR16 := Lib.hid hr16
  generalize (c : Int) = z at HI hpI hrI hlt ⊢
  clear hlen1 hB hl hq hc hp hr hp16 hr16
  have HPI := Lib.hid hpI
  have HRI := Lib.hid hrI
  clear hpI hrI
  unfold QC
  by_cases h32 : z < 32
  all_goals
    have hz127 : ¬ z < 32 → ((z : Int) == 127) = true := fun h => by rw [show z = 127 by omega]; rfl
    try (have h127 := hz127 h32)
    clear hz127 hlt
    go_enter Tryd.func27, Tryd.ntmps27
    go_wp2_with fail
    refine (HI.out _).mono ?_
    rintro e w1 ⟨rfl, hb1⟩
    have h1 := builder_below h hb1
    have hB1 := Nat.le_trans HB.out hb1.size
    go_wp2_with fail
    refine (writeString_any B b _ ⟨#[92, 117, 48, 48]⟩ w1 h1 HL1.out hB1).mono ?_
    rintro e w2 ⟨rfl, h2, hb2, _⟩
    have hB2 := Nat.le_trans hB1 hb2.size
    have hpI := HPI.out
    have hp16 := HP16.out
    go_wp2_with fail
    refine (writeByte_any B b _ _ w2 (.inr h2) (by rw [List.length_append, cells_len, Lib.strCells_length]; have := HL.out; show bs.length + 4 + 1 ≤ _; omega) hB2).mono ?_
    rintro e w3 ⟨rfl, h3, hb3, _⟩
    have hB3 := Nat.le_trans hB2 hb3.size
    clear hpI
    have hrI := HRI.out
    have hr16 := HR16.out
    go_wp2_with fail
    refine (writeByte_any B b _ _ w3 (.inr h3) (by rw [List.length_append, List.length_append, cells_len, Lib.strCells_length]; have := HL.out; show bs.length + 4 + 1 + 1 ≤ _; omega) hB3).mono ?_
    rintro e w4 ⟨rfl, h4, hb4, _⟩
    have hbw : Below B w w4 := (((hb1.mono HB.out).trans hb2).trans hb3).trans hb4
    go_wp2
    refine bodyPost_ret (results_none rfl _ _ _) rfl ?_
    refine ⟨rfl, ?_, hbw⟩
    have e : Lib.byteCells (bs ++ [92, 117, 48, 48, hexd p, hexd r]) = Lib.byteCells bs ++ Lib.strCells ⟨#[92, 117, 48, 48]⟩ ++ [.int .u8 ((hexd p).toNat : Int)] ++ [.int .u8 ((hexd r).toNat : Int)] := by
      rw [cells_app, List.append_assoc, List.append_assoc]
      rfl
    rw [hex_at p HP16.out, hex_at r HR16.out] at h4
    rw [e]
    exact .inr h4

set_option maxHeartbeats 2000000 in
set_option maxRecDepth 100000 in
theorem quote_plain (B b : Nat) (bs : List UInt8) (c : Nat) (hq : qi c = -1) (hc : c < 1114112 ∧ (c < 55296 ∨ 57343 < c)) (h32 : 32 ≤ c) (h127 : c ≠ 127) (w : World) (h : Lib.IsBuilderF 56 5 B b (Lib.byteCells bs) w) (hl : bs.length ≤ 100000000) (hB : B ≤ w.heap.size) :
    Calls Tryd.prog 27 #[.pointer (some ⟨b, 0, none⟩), .int .i32 (c : Int)] w (QC B b (bs ++ enc c) w) := by
  have HI := Lib.hid (idxR_any c hc)
  rw [hq] at HI
  have hE := encodeRune_enc c hc
  have hlen1 : (Lib.byteCells bs).length + 4 ≤ 140737488355328 := by rw [cells_len]; omega
  have HL1 := Lib.hid hlen1
  have HB := Lib.hid hB
  have hz0 : ¬ (c : Int) < 32 := by omega
  have hz1 : ((c : Int) == 127) = false := by simp; omega
  have HR := Lib.hid (show (-2147483648 : Int) ≤ (c : Int) ∧ (c : Int) ≤ 2147483647 by omega)
  generalize (c : Int) = z at HI hE hz0 hz1 HR ⊢
  have HE := Lib.hid hE
  clear hlen1 hB hl hq hc h32 h127 hE
  unfold QC
  go_enter Tryd.func27, Tryd.ntmps27
  go_wp2_with fail
  refine (HI.out _).mono ?_
  rintro e w1 ⟨rfl, hb1⟩
  have h1 := builder_below h hb1
  have hB1 := Nat.le_trans HB.out hb1.size
  go_wp2_with fail
  refine (writeRune_any B b _ z HR.out.1 HR.out.2 w1 h1 HL1.out hB1).mono ?_
  rintro e w2 ⟨rfl, h2, hb2, _⟩
  have hbw : Below B w w2 := (hb1.mono HB.out).trans hb2
  go_wp2
  go_end0
  refine ⟨rfl, ?_, hbw⟩
  rw [cells_app, ← HE.out]
  exact .inr h2

theorem quoteChar_any (B b : Nat) (bs : List UInt8) (c : Nat) (hc : c < 1114112 ∧ (c < 55296 ∨ 57343 < c)) (w : World) (h : Lib.IsBuilderF 56 5 B b (Lib.byteCells bs) w) (hl : bs.length ≤ 100000000) (hB : B ≤ w.heap.size) :
    Calls Tryd.prog 27 #[.pointer (some ⟨b, 0, none⟩), .int .i32 (c : Int)] w (QC B b (bs ++ quoteC c) w) := by
  unfold quoteC
  by_cases e1 : c = 10
  · rw [if_pos e1]; subst e1; exact quote_two B b bs 10 110 0 rfl (by decide) (by omega) w h hl hB
  by_cases e2 : c = 9
  · rw [if_neg e1, if_pos e2]; subst e2; exact quote_two B b bs 9 116 1 rfl (by decide) (by omega) w h hl hB
  by_cases e3 : c = 13
  · rw [if_neg e1, if_neg e2, if_pos e3]; subst e3; exact quote_two B b bs 13 114 2 rfl (by decide) (by omega) w h hl hB
  by_cases e4 : c = 0
  · rw [if_neg e1, if_neg e2, if_neg e3, if_pos e4]; subst e4; exact quote_two B b bs 0 48 3 rfl (by decide) (by omega) w h hl hB
  by_cases e5 : c = 34
  · rw [if_neg e1, if_neg e2, if_neg e3, if_neg e4, if_pos e5]; subst e5; exact quote_two B b bs 34 34 4 rfl (by decide) (by omega) w h hl hB
  by_cases e6 : c = 92
  · rw [if_neg e1, if_neg e2, if_neg e3, if_neg e4, if_neg e5, if_pos e6]; subst e6; exact quote_two B b bs 92 92 5 rfl (by decide) (by omega) w h hl hB
  have hq : qi c = -1 := by unfold qi; rw [if_neg e1, if_neg e2, if_neg e3, if_neg e4, if_neg e5, if_neg e6]
  rw [if_neg e1, if_neg e2, if_neg e3, if_neg e4, if_neg e5, if_neg e6]
  by_cases e7 : c < 32 ∨ c = 127
  · rw [if_pos e7]; exact quote_hex B b bs c hq e7 w h hl hB
  · rw [if_neg e7]; exact quote_plain B b bs c hq hc (by omega) (by omega) w h hl hB
end Go.Proofs.YtjpnkffdpcfnjaaDoor
