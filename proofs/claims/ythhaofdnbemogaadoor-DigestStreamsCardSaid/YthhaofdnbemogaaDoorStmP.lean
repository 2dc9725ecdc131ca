/-
  digest.Stream, Mask; acheronref03.Mask.
-/
import Derived.Test.YthhaofdnbemogaaDoorStmR
set_option linter.unusedVariables false
namespace Go.Proofs.YthhaofdnbemogaaDoor
open Go.RowKit

def BadS (nonce f n : Int) : Prop := nonce < 0 ∨ (¬ nonce < 0 ∧ f < 0) ∨ (¬ nonce < 0 ∧ ¬ f < 0 ∧ n < 0) ∨ (¬ nonce < 0 ∧ ¬ f < 0 ∧ ¬ n < 0 ∧ 1048576 < f) ∨ (¬ nonce < 0 ∧ ¬ f < 0 ∧ ¬ n < 0 ∧ ¬ 1048576 < f ∧ 1048576 < n)
set_option maxHeartbeats 2000000 in
set_option maxRecDepth 100000 in
theorem Stream_no (key : ByteArray) (nonce f n : Int) (h : BadS nonce f n) (w : World) :
    Calls Tryd.prog 23 #[.string key, .int .i64 nonce, .int .i64 f, .int .i64 n] w fun e w' => e = .returned (.tuple #[.string ⟨#[]⟩, .int .i64 11]) ∧ w = w' := by
  unfold BadS at h
  rcases h with h0 | ⟨h0, h1⟩ | ⟨h0, h1, h2⟩ | ⟨h0, h1, h2, h3⟩ | ⟨h0, h1, h2, h3, h4⟩
  all_goals
    go_enter Tryd.func23, Tryd.ntmps23
    go_wp2_with fail
    go_ret2
    exact ⟨rfl, rfl⟩
set_option maxHeartbeats 2000000 in
set_option maxRecDepth 100000 in
theorem Stream_yes (key : ByteArray) (hk : key.size ≤ 1000000) (nonce f n : Nat) (hno : nonce < 9223372036854775808) (hf : f ≤ 1048576) (hn : n ≤ 1048576) (w : World) (ht : TabD w) :
    Calls Tryd.prog 23 #[.string key, .int .i64 (nonce : Int), .int .i64 (f : Int), .int .i64 (n : Int)] w fun e w' => e = .returned (.tuple #[.string (strL (ksL key.data.toList nonce f n)), .int .i64 0]) ∧ Below w.heap.size w w' := by
  have HL := Lib.hid (lockOf_any key (by omega) w ht)
  have HS := Lib.hid (fun w ht => stream_any key.data.toList nonce f n hno hf hn w ht)
  have h0 : ¬ (nonce : Int) < 0 := by omega
  have h1 : ¬ (f : Int) < 0 := by omega
  have h2 : ¬ (n : Int) < 0 := by omega
  have h3 : ¬ 1048576 < (f : Int) := by omega
  have h4 : ¬ 1048576 < (n : Int) := by omega
  have HT := Lib.hid ht
  generalize ksL key.data.toList nonce f n = R at *
  generalize lockV key.data.toList = V at *
  generalize (nonce : Int) = no at *
  generalize (f : Int) = fi at *
  generalize (n : Int) = ni at *
  clear hno hf hn hk ht
  go_enter Tryd.func23, Tryd.ntmps23
  go_wp2_with fail
  refine HL.out.mono ?_
  rintro e w1 ⟨rfl, hb⟩
  have HB1 := Lib.hid hb
  clear hb
  go_wp2_with fail
  refine (HS.out _ (HT.out.below HB1.out HT.out.pos)).mono ?_
  rintro e w2 ⟨rfl, hb⟩
  have HB2 := Lib.hid (HB1.out.trans (hb.mono HB1.out.size))
  clear hb
  go_wp2_with fail
  go_ret2
  exact ⟨rfl, HB2.out⟩
set_option maxHeartbeats 2000000 in
set_option maxRecDepth 100000 in
theorem Mask_no (s key : ByteArray) (nonce : Int) (h : nonce < 0) (w : World) :
    Calls Tryd.prog 25 #[.string s, .string key, .int .i64 nonce] w fun e w' => e = .returned (.tuple #[.string ⟨#[]⟩, .int .i64 11]) ∧ w = w' := by
  go_enter Tryd.func25, Tryd.ntmps25
  go_wp2_with fail
  go_ret2
  exact ⟨rfl, rfl⟩
/-- What Mask makes. -/
def mskL (key s : List UInt8) (nonce : Nat) : List UInt8 := maskL s (ksL key nonce 0 s.length)
theorem mskL_len (key s : List UInt8) (nonce : Nat) : (mskL key s nonce).length = s.length := by simp [mskL, maskL, ksL_len]
theorem mask_two : ∀ (s k : List UInt8), s.length ≤ k.length → maskL (maskL s k) k = s := by
  intro s
  induction s with
  | nil => intro k _; cases k <;> rfl
  | cons a s ih =>
    intro k hk
    cases k with
    | nil => simp at hk
    | cons b k =>
      show ((a ^^^ b) ^^^ b) :: maskL (maskL s k) k = a :: s
      rw [ih k (by simpa using hk), UInt8.xor_assoc, UInt8.xor_self, UInt8.xor_zero]
theorem msk_two (key s : List UInt8) (nonce : Nat) : mskL key (mskL key s nonce) nonce = s := by
  have h := mskL_len key s nonce
  rw [mskL, h]
  unfold mskL
  exact mask_two s _ (by rw [ksL_len]; omega)
set_option maxHeartbeats 2000000 in
set_option maxRecDepth 100000 in
theorem Mask_yes (s key : ByteArray) (hs : s.size ≤ 1048576) (hk : key.size ≤ 1000000) (nonce : Nat) (hno : nonce < 9223372036854775808) (w : World) (ht : TabD w) :
    Calls Tryd.prog 25 #[.string s, .string key, .int .i64 (nonce : Int)] w fun e w' => e = .returned (.tuple #[.string (strL (mskL key.data.toList s.data.toList nonce)), .int .i64 0]) ∧ Below w.heap.size w w' := by
  have hsl : s.data.toList.length = s.size := by simp
  have HL := Lib.hid (lockOf_any key (by omega) w ht)
  have HS := Lib.hid (fun w ht => stream_any key.data.toList nonce 0 s.size hno (by omega) hs w ht)
  have HM := Lib.hid (fun w => masked_any s (strL (ksL key.data.toList nonce 0 s.size)) (by omega) (by rw [strL_size, ksL_len]; omega) w)
  have hres : maskL s.data.toList (strL (ksL key.data.toList nonce 0 s.size)).data.toList = mskL key.data.toList s.data.toList nonce := by
    rw [strL_data, mskL, hsl]
  rw [hres] at HM
  have h0 : ¬ (nonce : Int) < 0 := by omega
  have h1 : ¬ 1048576 < (s.size : Int) := by omega
  have hz : ((0 : Nat) : Int) = 0 := rfl
  rw [hz] at HS
  have HT := Lib.hid ht
  generalize mskL key.data.toList s.data.toList nonce = R at *
  obtain ⟨X, hX⟩ : ∃ X, X = strL (ksL key.data.toList nonce 0 s.size) := ⟨_, rfl⟩
  rw [← hX] at HS HM
  generalize lockV key.data.toList = V at *
  generalize (nonce : Int) = no at *
  clear hno hk hs ht hX hres hsl hz
  go_enter Tryd.func25, Tryd.ntmps25
  go_wp2_with fail
  refine HL.out.mono ?_
  rintro e w1 ⟨rfl, hb⟩
  have HB1 := Lib.hid hb
  clear hb
  go_wp2_with fail
  refine (HS.out _ (HT.out.below HB1.out HT.out.pos)).mono ?_
  rintro e w2 ⟨rfl, hb⟩
  have HB2 := Lib.hid (HB1.out.trans (hb.mono HB1.out.size))
  clear hb
  go_wp2_with fail
  refine (HM.out _).mono ?_
  rintro e w3 ⟨rfl, hb⟩
  have HB3 := Lib.hid (HB2.out.trans (hb.mono HB2.out.size))
  clear hb
  go_wp2_with fail
  go_ret2
  exact ⟨rfl, HB3.out⟩

set_option maxHeartbeats 4000000 in
set_option maxRecDepth 100000 in
theorem refMask_any (s key : ByteArray) (hs : s.size ≤ 1048576) (hk : key.size ≤ 1000000) (nonce : Nat) (hno : nonce < 9223372036854775808) (w : World) :
    Calls Tryd.prog 26 #[.string s, .string key, .int .i64 (nonce : Int)] w fun e w' => e = .returned (.string (strL (mskL key.data.toList s.data.toList nonce))) ∧ Below w.heap.size w w' := by
  have hsl : s.data.toList.length = s.size := by simp
  have HS := Lib.hid (fun w => refStream_any key nonce 0 s.size hk hno (by omega) hs w)
  obtain ⟨t, hX⟩ : ∃ X, X = strL (ksL key.data.toList nonce 0 s.size) := ⟨_, rfl⟩
  have hts : t.size = s.size := by rw [hX, strL_size, ksL_len]
  have hres : Hid (strL (maskL s.data.toList t.data.toList) = strL (mskL key.data.toList s.data.toList nonce)) := Lib.hid (by
    rw [hX, strL_data, mskL, hsl])
  have hz : ((0 : Nat) : Int) = 0 := rfl
  rw [hz, ← hX] at HS
  have HTS := Lib.hid hts
  have hsI : (s.size : Int) ≤ 1048576 := by omega
  have hcv := fun w => Lib.run_convert_string_bytes (P := Tryd.prog) w 9 47 5 s Tryd.underlying9 Tryd.underlying47 Tryd.underlying5
  have HM : Hid (∀ w : World, MaskRel w s t (.int .i64 0) (Lib.bytesWorld w 5 s)) := Lib.hid (by
    intro w
    refine ⟨0, Nat.zero_le _, rfl, ⟨by rw [Lib.bytesWorld_size]; omega, fun i hi => ?_, fun i hi => ?_⟩, ?_⟩
    · rw [Lib.bytesWorld_cell w _ s i hi, maskF, if_neg (Nat.not_lt_zero _)]
    · unfold World.frozen?
      rw [Lib.bytesWorld_at_new]
      have : s.size ≤ (Lib.bytesCells w 5 s).size := by simp [Lib.bytesCells]
      simp
      omega
    · refine ⟨rfl, rfl, rfl, by rw [Lib.bytesWorld_size]; omega, fun j hj => Lib.bytesWorld_at_old w _ s j hj⟩)
  clear hsl hX hts hz hs hk hno
  go_enter Tryd.func26, Tryd.ntmps26
  go_wp2_with fail
  refine (HS.out _).mono ?_
  rintro e w1 ⟨rfl, hb⟩
  have HB1 := Lib.hid hb
  clear hb
  go_wp2_with fail
  clear hcv
  go_loopw [9] (fun i wr => MaskRel w1 s t i wr) (fun i _ => s.size - (intOf i).toNat)
  case atStart => exact HM.out w1
  case round =>
    obtain ⟨k, hk, rfl, hr, hbel⟩ := hrel
    clear HM
    by_cases hlt : k < s.size
    · have hltI : (k : Int) < (s.size : Int) := by omega
      have hltT' : k < t.size := by have := HTS.out; omega
      have hltT : (k : Int) < (t.size : Int) := by omega
      have hcell := hr.cell k hlt
      rw [maskF, if_neg (Nat.lt_irrefl _)] at hcell
      have hfr := hr.free k hlt
      have hbt := byte_at t k hltT'
      have HR := Lib.hid hr
      have HB := Lib.hid hbel
      generalize hA : s.data.toList.getD k 0 = A at *
      generalize hB : t.data.toList.getD k 0 = B at *
      have HA := Lib.hid hA
      have HBB := Lib.hid hB
      clear hr hbel hA hB
      go_wp2_with fail
      go_region
      go_wp2
      go_roundw
      case rel =>
        refine ⟨k + 1, by omega, by go_num, ?_, ?_⟩
        · refine MRow.drew ((HR.out.set k _ hlt).congr (fun j _ => ?_))
          exact maskF_step _ _ k j (by rw [HA.out, HBB.out]; exact xor_u8 A B)
        · exact (HB.out.setCell (p := ⟨w1.heap.size, k, none⟩) (Nat.le_refl _) _).drew
      case measure => simp [intOf]; omega
    · obtain rfl : k = s.size := by omega
      have hcv : (convert 47 9 (.slice (some ⟨w1.heap.size, 0, none⟩) s.size (grownCap w1 s.size 0 5))).run Tryd.prog wr = .ok (.string ⟨(maskL s.data.toList t.data.toList).toArray⟩) wr := by
        have hts := HTS.out
        have hlen : (maskL s.data.toList t.data.toList).length = s.size := by simp [maskL]; omega
        rw [← hlen]
        refine run_convert_bytes_back wr _ _ _ ⟨w1.heap.size, 0, none⟩ _ (maskL s.data.toList t.data.toList) Tryd.underlying47 Tryd.underlying5 Tryd.underlying9 (fun j hj => ?_)
        rw [hlen] at hj
        rw [addr_at, hr.cell j hj, maskF, if_pos hj]
        simp [maskL, List.getD_eq_getElem?_getD, hj, show j < t.size by omega]
      have HB := Lib.hid (HB1.out.trans (hbel.mono HB1.out.size))
      clear hr hbel
      go_wp2
      go_ret
      exact ⟨by rw [← hres.out]; rfl, HB.out⟩
end Go.Proofs.YthhaofdnbemogaaDoor
