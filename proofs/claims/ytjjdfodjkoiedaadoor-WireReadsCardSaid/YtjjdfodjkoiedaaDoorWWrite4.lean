/-
  wire.Writer: Number at every number; Raw, String, Text, Len, NewWriter; all of them at nil.
-/
import Derived.Test.YtjjdfodjkoiedaaDoorWWrite3
import Derived.Lib.BufferRead
set_option linter.unusedVariables false
namespace Go.Proofs.YtjjdfodjkoiedaaDoor
open Go.RowKit

set_option maxRecDepth 100000 in
theorem orAnd_mask (c : Nat) (h : c < 256) :
    bits .or .u8 0 (bits .and .u8 (c : Int) 127) = ((c % 128 : Nat) : Int) ∧ bits .or .u8 128 (bits .and .u8 (c : Int) 63) = ((128 + c % 64 : Nat) : Int) ∧ bits .or .u8 192 (bits .and .u8 (c : Int) 31) = ((192 + c % 32 : Nat) : Int) ∧ bits .or .u8 224 (bits .and .u8 (c : Int) 0) = 224 := by
  have key : ∀ k : Fin 256, bits .or .u8 0 (bits .and .u8 (k.val : Int) 127) = ((k.val % 128 : Nat) : Int) ∧ bits .or .u8 128 (bits .and .u8 (k.val : Int) 63) = ((128 + k.val % 64 : Nat) : Int) ∧ bits .or .u8 192 (bits .and .u8 (k.val : Int) 31) = ((192 + k.val % 32 : Nat) : Int) ∧ bits .or .u8 224 (bits .and .u8 (k.val : Int) 0) = 224 := by decide +kernel
  exact key ⟨c, h⟩

theorem mask_of (x : Int) : ∃ c : Nat, c < 256 ∧ IntKind.u8.wrap x = (c : Int) ∧ (c : Int) = x % 256 := by
  refine ⟨(x % 256).toNat, by omega, ?_, by omega⟩
  rw [IntKind.wrap_u8]; omega

theorem number_any (wb B : Nat) (v : Value) (bs : List UInt8) (n : Int) (hl : bs.length ≤ 1000000000) (w : World) (h : WAt w wb B v bs) (ht : Tab w) :
    Calls Tryd.prog 27 #[.pointer (some ⟨wb, 0, none⟩), .int .i64 n] w (WPost w wb B v bs (0, encNum n)) := by
  by_cases h1 : -64 ≤ n ∧ n ≤ 63
  · have e : encNum n = byteI (n % 128) :: beT n 0 0 := by unfold encNum; rw [if_pos h1]; rfl
    rw [e]
    refine number_core wb B v bs n 1 7 0 127 0 (by omega) (by omega) _ (by unfold formN; rw [if_pos h1]) ?_ hl w h ht
    obtain ⟨c, hc, hw, hm⟩ := mask_of (n / 2 ^ (8 * 0))
    rw [hw, (orAnd_mask c hc).1, byteI_nat]
    simp at hm
    omega
  by_cases h2 : -8192 ≤ n ∧ n ≤ 8191
  · have e : encNum n = byteI (128 + n / 256 % 64) :: beT n 1 1 := by unfold encNum; rw [if_neg h1, if_pos h2]; simp [beT]
    rw [e]
    refine number_core wb B v bs n 2 14 128 63 1 (by omega) (by omega) _ (by unfold formN; rw [if_neg h1, if_pos h2]) ?_ hl w h ht
    obtain ⟨c, hc, hw, hm⟩ := mask_of (n / 2 ^ (8 * 1))
    rw [hw, (orAnd_mask c hc).2.1, byteI_nat]
    simp at hm
    omega
  by_cases h3 : -268435456 ≤ n ∧ n ≤ 268435455
  · have e : encNum n = byteI (192 + n / 16777216 % 32) :: beT n 3 3 := by unfold encNum; rw [if_neg h1, if_neg h2, if_pos h3]; simp [beT]
    rw [e]
    refine number_core wb B v bs n 4 29 192 31 3 (by omega) (by omega) _ (by unfold formN; rw [if_neg h1, if_neg h2, if_pos h3]) ?_ hl w h ht
    obtain ⟨c, hc, hw, hm⟩ := mask_of (n / 2 ^ (8 * 3))
    rw [hw, (orAnd_mask c hc).2.2.1, byteI_nat]
    simp at hm
    omega
  · have e : encNum n = 224 :: beT n 8 8 := by unfold encNum; rw [if_neg h1, if_neg h2, if_neg h3]; simp [beT]
    rw [e]
    refine number_core wb B v bs n 9 64 224 0 8 (by omega) (by omega) _ (by unfold formN; rw [if_neg h1, if_neg h2, if_neg h3]) ?_ hl w h ht
    obtain ⟨c, hc, hw, hm⟩ := mask_of (n / 2 ^ (8 * 8))
    rw [hw, (orAnd_mask c hc).2.2.2]
    rfl

set_option maxHeartbeats 1000000 in
set_option maxRecDepth 100000 in
theorem raw_any (wb B : Nat) (v : Value) (bs : List UInt8) (s : ByteArray) (hl : bs.length ≤ 1000000000) (hs : s.size ≤ 1000000000) (w : World) (h : WAt w wb B v bs) :
    Calls Tryd.prog 42 #[.pointer (some ⟨wb, 0, none⟩), .string s] w (WPost w wb B v bs (0, s.data.toList)) := by
  obtain ⟨i0, hi, hz0, hz1, hz2⟩ := info_parts infoU8
  have c0 := h.cell
  have hba := h.base
  have hown := h.own
  go_enter Tryd.func42, Tryd.ntmps42
  go_wp2_with (at_builtin; refine wpList_append_str _ rfl _ _ 64 9 rfl B 5 i0 Tryd.underlying64 Tryd.underlying9 hi hz0 hz1 hz2 v _ _ rfl hown s rfl ?c3 ?c4 ?c5 ?_)
  case c3 => unfold maxLen; omega
  case c4 => omega
  case c5 => exact hba
  intro v' w2 hown' hgrow hat
  have cw := h.cell_grown (Below.refl _ _) hgrow
  have fw := h.free_grown (Below.refl _ _) hgrow
  have hsz : s.data.toList.length = s.size := by rw [Array.length_toList]; rfl
  rw [← hsz, u8s_str] at hown'
  have R := h.land (new := s.data.toList) (Below.refl _ _) hown' hgrow hat (Nat.le_refl _)
  obtain ⟨ao, n', cap, rfl⟩ : ∃ ao n' cap, v' = .slice ao n' cap := by
    rcases hown'.2 with ⟨hv, _⟩ | ⟨g, cap, cur, hv, _⟩
    · exact ⟨_, _, _, hv⟩
    · exact ⟨_, _, _, hv⟩
  clear hsz
  have HR := Lib.hid R
  clear R hown' hgrow hat hown h
  go_wp2
  go_ret
  exact ⟨rfl, _, HR.out.1, HR.out.2⟩

set_option maxHeartbeats 1000000 in
set_option maxRecDepth 100000 in
theorem len_any (wb B : Nat) (v : Value) (bs : List UInt8) (w : World) (h : WAt w wb B v bs) :
    Calls Tryd.prog 14 #[.pointer (some ⟨wb, 0, none⟩)] w fun e w' => e = .returned (.int .i64 (bs.length : Int)) ∧ w = w' := by
  have c0 := h.cell
  obtain ⟨ao, cap, rfl⟩ : ∃ ao cap, v = .slice ao bs.length cap := by
    rcases h.own.2 with ⟨hv, h0⟩ | ⟨g, cap, cur, hv, _⟩
    · exact ⟨none, 0, by rw [hv, h0]⟩
    · exact ⟨_, _, hv⟩
  clear h
  go_enter Tryd.func14, Tryd.ntmps14
  go_wp2
  go_ret
  exact ⟨rfl, rfl⟩

theorem wconv {w : World} {wb B : Nat} {v : Value} {bs : List UInt8} (h : WAt w wb B v bs) : (convert 64 9 v).run Tryd.prog w = .ok (.string ⟨bs.toArray⟩) w := by
  rcases h.own.2 with ⟨rfl, h0⟩ | ⟨g, cap, cur, rfl, _⟩
  · obtain rfl : bs = [] := List.eq_nil_of_length_eq_zero h0
    exact Lib.run_convert_nil_bytes w _ _ _ 0 Tryd.underlying64 Tryd.underlying5 Tryd.underlying9
  · exact run_convert_bytes_back w _ _ _ ⟨g, 0, none⟩ cap bs Tryd.underlying64 Tryd.underlying5 Tryd.underlying9 (fun j hj => by
      refine h.own.cells (g := g) rfl j _ ?_
      simp [u8s, hj])

set_option maxHeartbeats 1000000 in
set_option maxRecDepth 100000 in
theorem text_any (wb B : Nat) (v : Value) (bs : List UInt8) (w : World) (h : WAt w wb B v bs) :
    Calls Tryd.prog 13 #[.pointer (some ⟨wb, 0, none⟩)] w fun e w' => e = .returned (.string ⟨bs.toArray⟩) ∧ w = w' := by
  have c0 := h.cell
  have hc := wconv h
  clear h
  generalize (⟨bs.toArray⟩ : ByteArray) = t at *
  go_enter Tryd.func13, Tryd.ntmps13
  go_wp2
  go_ret
  exact ⟨rfl, rfl⟩

set_option maxHeartbeats 1000000 in
set_option maxRecDepth 100000 in
theorem newWriter_any (w : World) :
    Calls Tryd.prog 12 #[] w fun e w' => e = .returned (.pointer (some ⟨w.heap.size, 0, none⟩)) ∧ Below w.heap.size w w' ∧ ∀ B, B ≤ w.heap.size → WAt w' w.heap.size B (.slice none 0 0) [] := by
  go_enter Tryd.func12, Tryd.ntmps12
  go_wp2
  go_ret
  exact ⟨rfl, (Below.refl _ _).alloc (Nat.le_refl _) _, fun B hB => ⟨hB, heap_alloc_new w _, World.ownsRow_nil _ _ _ _, by simp [Value.ownBlock]⟩⟩
end Go.Proofs.YtjjdfodjkoiedaaDoor
