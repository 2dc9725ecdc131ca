/-
  strings.IndexRune in a short string of ASCII bytes: a character that is not ASCII is not in it.
-/
import Derived.Test.YtjpnkffdpcfnjaaDoorEsc
import Derived.Test.YtjpnkffdpcfnjaaDoorUnqM
import Derived.Laws.Runes
import Derived.WalkMore
set_option linter.unusedVariables false
namespace Go.Proofs.YtjpnkffdpcfnjaaDoor
open Go.RowKit

theorem idx_none : ∀ (l : List UInt8) (c : UInt8), (∀ x ∈ l, x.toNat < 128) → 128 ≤ c.toNat → Lib.indexByte l c = -1 := by
  intro l c
  induction l with
  | nil => intro _ _; rfl
  | cons x t ih =>
    intro h hc
    have hx := h x (.head _)
    have hne : (x == c) = false := by
      cases he : x == c
      · rfl
      · have := eq_of_beq he; subst this; omega
    unfold Lib.indexByte
    rw [hne, ih (fun y hy => h y (.tail _ hy)) hc]
    rfl

theorem encode_enc (c : Nat) (h : c < 1114112 ∧ (c < 55296 ∨ 57343 < c)) : Utf8.encode (c : Int) = ⟨(enc c).toArray⟩ := by
  have hv : Utf8.valid (c : Int) = true := by rw [valid_okc]; exact (okc_iff c).2 (by omega)
  unfold Utf8.encode enc
  simp only [hv, if_true, Int.toNat_natCast]
  by_cases h1 : c < 128
  · rw [if_pos h1, if_pos h1]
  by_cases h2 : c < 2048
  · rw [if_neg h1, if_pos h2, if_neg h1, if_pos h2]
  by_cases h3 : c < 65536
  · rw [if_neg h1, if_neg h2, if_pos h3, if_neg h1, if_neg h2, if_pos h3]
  · rw [if_neg h1, if_neg h2, if_neg h3, if_neg h1, if_neg h2, if_neg h3]

/-- The encoding of a character that is not ASCII: how long it is, and its last byte. -/
theorem encode_last (c : Nat) (h : c < 1114112 ∧ (c < 55296 ∨ 57343 < c)) (h0 : 128 ≤ c) : ∃ m : Nat, 1 ≤ m ∧ m ≤ 3 ∧ (Utf8.encode (c : Int)).size = m + 1 ∧ 128 ≤ byteAt (Utf8.encode (c : Int)) m := by
  rw [encode_enc c h]
  have hb : ∀ (l : List UInt8) (m : Nat) (hl : l.length = m + 1) (hx : 128 ≤ (l[m]'(by omega)).toNat), (⟨l.toArray⟩ : ByteArray).size = m + 1 ∧ 128 ≤ byteAt ⟨l.toArray⟩ m := fun l m hl hx => by
    have hs : (⟨l.toArray⟩ : ByteArray).size = l.length := by show (List.toArray l).size = _; simp
    refine ⟨by omega, ?_⟩
    rw [← byteAt_eq _ m (by omega)]
    exact hx
  unfold enc
  rw [if_neg (by omega)]
  by_cases h2 : c < 2048
  · rw [if_pos h2]; exact ⟨1, by omega, by omega, hb _ 1 rfl (by simp; omega)⟩
  by_cases h3 : c < 65536
  · rw [if_neg h2, if_pos h3]; exact ⟨2, by omega, by omega, hb _ 2 rfl (by simp; omega)⟩
  · rw [if_neg h2, if_neg h3]; exact ⟨3, by omega, by omega, hb _ 3 rfl (by simp; omega)⟩

theorem bytes_extract (s : ByteArray) (k : Nat) (hasc : ∀ j, j < s.size → byteAt s j < 128) : ∀ x ∈ (s.extract k s.size).data.toList, x.toNat < 128 := by
  intro x hx
  obtain ⟨j, hj, rfl⟩ := List.getElem_of_mem hx
  have hs : (s.extract k s.size).data.toList.length = s.size - k := by
    have : (s.extract k s.size).size = s.size - k := by simp
    rw [← this]; simp
  have hj' : j < s.size - k := by rw [← hs]; exact hj
  have := hasc (k + j) (by omega)
  rw [← byteAt_eq s (k + j) (by omega)] at this
  simp only [ByteArray.data_extract, Array.toList_extract, List.extract_eq_take_drop, List.getElem_take, List.getElem_drop, Array.getElem_toList]
  exact this

set_option maxRecDepth 100000 in
set_option maxHeartbeats 2000000 in
theorem idxR_err (s : ByteArray) (hsz : s.size ≤ 1000) (hasc : ∀ j, j < s.size → byteAt s j < 128) (w : World) :
    Calls Tryd.prog 48 #[.string s, .int .i32 65533] w fun e w' => e = .returned (.int .i64 (-1)) ∧ Below w.heap.size w w' := by
  go_enter Tryd.func48, Tryd.ntmps48
  go_wp2
  go_loopw [5, 6] (fun _ _ wr => ∃ pos : Nat, pos ≤ s.size ∧ wr.heap[w.heap.size]? = some (.stringIter s pos) ∧ Below w.heap.size w wr) (fun _ _ wr => s.size - wr.iterPos w.heap.size)
  case atStart => exact ⟨0, Nat.zero_le _, (by have := World.iter_heap w s 0; simpa using this), (Below.refl _ _).alloc (Nat.le_refl _) _⟩
  case round =>
    obtain ⟨pos, hpl, hit, hbel⟩ := hrel
    have hlt : w.heap.size < wr.heap.size := (Array.getElem?_eq_some_iff.1 hit).1
    by_cases hp : pos < s.size
    · have hnx : ∀ ty, (Instr.next (.pointer (some ⟨w.heap.size, 0, none⟩)) true ty).run Tryd.prog wr = _ := fun ty => Lib.run_next_any_at wr w.heap.size s pos ty hit hp
      have hb := hasc pos hp
      have hd : Utf8.decode s pos = (byteAt s pos, 1) := by
        have hd := dec_one (s.extract pos s.size) (by
          have e : byteAt (s.extract pos s.size) 0 = byteAt s pos := by
            have h1 : 0 < (s.extract pos s.size).size := by simp; omega
            rw [← byteAt_eq _ 0 h1, ← byteAt_eq s pos hp]
            simp [ByteArray.getElem_eq_getElem_data]
          rw [e]; exact hb)
        rw [decode_extract s pos (by omega)] at hd
        rw [hd]
        have h1 : 0 < (s.extract pos s.size).size := by simp; omega
        rw [← byteAt_eq _ 0 h1, ← byteAt_eq s pos hp]
        simp [ByteArray.getElem_eq_getElem_data]
      rw [hd] at hnx
      dsimp only at hnx
      have hit2 := Lib.iterAt_heap wr w.heap.size s pos (pos + 1) hit
      have hbel2 := Lib.below_iterAt hbel (k := w.heap.size) (Nat.le_refl _) s (pos + 1)
      have HI0 := Lib.hid hit
      have HI2 := Lib.hid hit2
      generalize byteAt s pos = x at *
      have hq : ((x : Int) == 65533) = false := by simp; omega
      clear hd hit hit2 hb
      go_wp2
      go_roundw
      case rel => exact ⟨pos + 1, hp, HI2.out, hbel2⟩
      case measure => simp only [World.iterPos, HI2.out, HI0.out]; omega
    · have hnx : ∀ ty, (Instr.next (.pointer (some ⟨w.heap.size, 0, none⟩)) true ty).run Tryd.prog wr = _ := fun ty => Lib.run_next_end_at wr w.heap.size s pos ty hit hp
      clear hit
      go_wp2
      go_ret
      exact ⟨rfl, hbel⟩

theorem validR (c : Nat) (h : c < 1114112 ∧ (c < 55296 ∨ 57343 < c)) (w : World) : Calls Tryd.prog 62 #[.int .i32 (c : Int)] w fun e w' => e = .returned (.bool true) ∧ w = w' :=
  (Tryd.utf8_ValidRune (c : Int) w).mono fun e w' h' => ⟨by rw [h'.1]; have : Lib.validRune (c : Int) = true := (by unfold Lib.validRune; exact decide_eq_true (by omega)); rw [this], h'.2.symm⟩

set_option maxRecDepth 100000 in
set_option maxHeartbeats 2000000 in
theorem idxR_none (s : ByteArray) (hsz : s.size ≤ 1000) (h4 : 4 ≤ s.size) (hasc : ∀ j, j < s.size → byteAt s j < 128) (c : Nat) (hc : c < 1114112 ∧ (c < 55296 ∨ 57343 < c)) (h0 : 128 ≤ c) (w : World) :
    Calls Tryd.prog 48 #[.string s, .int .i32 (c : Int)] w fun e w' => e = .returned (.int .i64 (-1)) ∧ Below w.heap.size w w' := by
  by_cases he : c = 65533
  · subst he; exact idxR_err s hsz hasc w
  obtain ⟨m, m1, m3, hes, hel⟩ := encode_last c hc h0
  have hV := validR c hc
  have hne : ((c : Int) == 65533) = false := by simp; omega
  have hge : ¬ (c : Int) < 128 := by omega
  have hge0 : (0 : Int) ≤ (c : Int) := by omega
  have HV := Lib.hid hV
  clear hV hc h0 he
  generalize (c : Int) = z at *
  have t21 := Tryd.underlying21
  have t9 := Tryd.underlying9
  have hcv : ∀ w, (convert 21 9 (.int .i32 z)).run Tryd.prog w = .ok (.string (Utf8.encode z)) w := fun w => run_convert_int_string w _ _ _ _ (by rw [t21]; rfl) t9
  generalize hr : Utf8.encode z = rs at hes hel hcv
  have hw : IntKind.i64.wrap ((rs.size : Int) - 1) = (m : Int) := by rw [IntWalk.i64_in _ (by omega)]; omega
  have hms : m < s.size := by omega
  have hmr : m < rs.size := by omega
  have hb1 := byteAt_eq s m hms
  have hb2 := byteAt_eq rs m hmr
  have hlt1 := hasc m hms
  have hq : ((s[m].toNat : Int) == (rs[m].toNat : Int)) = false := by rw [hb1, hb2]; simp; omega
  have hw1 : IntKind.i64.wrap ((m : Int) + 1) = ((m + 1 : Nat) : Int) := by rw [IntWalk.i64_in _ (by omega)]; omega
  have hI := Tryd.strings_IndexByte (s.extract (m + 1) s.size) (rs[m].toNat : Int)
  rw [Int.toNat_natCast, idx_none _ _ (bytes_extract s (m + 1) hasc) (by rw [show rs[m].toNat.toUInt8 = rs[m] by simp, hb2]; exact hel)] at hI
  obtain ⟨k, hk⟩ : ∃ k, k = m + 1 := ⟨_, rfl⟩
  have hks : k ≤ s.size := by omega
  rw [← hk] at hI hw1
  have HI := Lib.hid hI
  clear hI hb1 hb2 hlt1 hes hel hasc m1 m3 hk h4 hsz
  go_enter Tryd.func48, Tryd.ntmps48
  go_wp2_with fail
  refine (HV.out _).mono ?_
  rintro e w1 ⟨rfl, rfl⟩
  go_wp2
  go_step3
  go_wp2
  refine wp_loop_rounds 1 ?_
  rw [rounds_succ]
  go_wp2
  go_step3
  go_wp2_with fail
  go_region
  go_wp2_with fail
  go_region_with (go_at_call 61; refine (HI.out _).mono ?_; rintro e w' ⟨rfl, rfl⟩)
  all_goals
    go_wp2
    rw [Exit.noGoto_ret]
    go_wp2
    try rw [Exit.noGoto_ret]
    try go_wp2
    go_ret
    exact ⟨rfl, (Below.refl _ _).drew.drew⟩
end Go.Proofs.YtjpnkffdpcfnjaaDoor
