/-
  digest.Unhex.
-/
import Derived.Test.YthhaofdnbemogaaDoorUnhexM
import Derived.Test.YthhaofdnbemogaaDoorMask
import Derived.Test.YthhaofdnbemogaaDoorCrc
import Derived.Test.YthhaofdnbemogaaDoorShelf
set_option linter.unusedVariables false
namespace Go.Proofs.YthhaofdnbemogaaDoor
open Go.RowKit

/-- A cell behind the first k characters. -/
def uhV (l : List UInt8) (k j : Nat) : Int := if 2 * j + 1 < k then 16 * digV (chr l (2 * j)) + digV (chr l (2 * j + 1)) else if 2 * j < k then digV (chr l (2 * j)) else 0
theorem uh_step (l : List UInt8) (k j q : Nat) (hq : q = k / 2) (v : Int) (hv : v = (if k % 2 = 0 then digV (chr l k) else 16 * digV (chr l (k - 1)) + digV (chr l k))) :
    (if j = q then Value.int .u8 v else Value.int .u8 (uhV l k j)) = Value.int .u8 (uhV l (k + 1) j) := by
  unfold uhV
  by_cases hj : j = q
  · rw [if_pos hj, hv]
    by_cases h2 : k % 2 = 0
    · rw [if_pos h2, if_neg (by omega), if_pos (by omega), show 2 * j = k by omega]
    · rw [if_neg h2, if_pos (by omega), show 2 * j = k - 1 by omega, show k - 1 + 1 = k by omega]
  · rw [if_neg hj]
    by_cases h1 : 2 * j + 1 < k
    · rw [if_pos h1, if_pos (show 2 * j + 1 < k + 1 by omega)]
    · by_cases h3 : 2 * j < k
      · omega
      · rw [if_neg h1, if_neg h3, if_neg (show ¬ 2 * j + 1 < k + 1 by omega), if_neg (show ¬ 2 * j < k + 1 by omega)]
theorem or_digit (a d : Int) (a0 : 0 ≤ a) (a1 : a < 16) (d0 : 0 ≤ d) (d1 : d < 16) : bits .or .u8 (a * 16) d = 16 * a + d := by
  rw [show a * 16 = 16 * a by omega]
  exact bits_join .u8 8 (by decide) wraps_u8 4 (16 * a) d (by omega) (by show _ % (16 : Int) = 0; omega) (by show _ < (256 : Int); omega) d0 (by show _ < (16 : Int); omega) (by show _ < (256 : Int); omega)

theorem ib_any (c : UInt8) (w : World) : Calls Tryd.prog 54 #[.string ⟨#[48, 49, 50, 51, 52, 53, 54, 55, 56, 57, 97, 98, 99, 100, 101, 102]⟩, .int .u8 (c.toNat : Int)] w fun e w' => e = .returned (.int .i64 (digV c)) ∧ w = w' := by
  refine (Tryd.strings_IndexByte ⟨#[48, 49, 50, 51, 52, 53, 54, 55, 56, 57, 97, 98, 99, 100, 101, 102]⟩ (c.toNat : Int) w).mono fun e w' h => ⟨?_, h.2.symm⟩
  rw [h.1, Int.toNat_natCast]
  have : c.toNat.toUInt8 = c := by simp
  rw [this]
  exact ret_int (digV_index c)

/-- The answer, behind the loop's premise. -/
def UhPost (l : List UInt8) (w : World) (e : Ending) (w' : World) : Prop := ∃ (s : ByteArray) (n : Int), e = .returned (.tuple #[.string s, .int .i64 n]) ∧ unhexR l s n ∧ Below w.heap.size w w'

def UhRel (w : World) (l : List UInt8) (i : Value) (wr : World) : Prop :=
  ∃ k : Nat, k ≤ l.length ∧ i = .int .i64 (k : Int) ∧ allD l k ∧ wr.rowIs w.heap.size 5 (l.length / 2) (fun j => .int .u8 (uhV l k j)) ∧ Below w.heap.size w wr

theorem chr_at (s : ByteArray) (k : Nat) (h : k < s.size) : s[k] = chr s.data.toList k := byte_at s k h

set_option maxHeartbeats 4000000 in
set_option maxRecDepth 100000 in
theorem unhex_any (s : ByteArray) (hs : s.size ≤ 1000000000) (w : World) :
    Calls Tryd.prog 17 #[.string s] w (UhPost s.data.toList w) := by
  have hlen : s.data.toList.length = s.size := by simp
  by_cases hodd : s.size % 2 = 1
  · have hm : (s.size : Int) % 2 = 1 := by omega
    have HP : Hid (UhPost s.data.toList w (.returned (.tuple #[.string ⟨#[]⟩, .int .i64 14])) w) := Lib.hid ⟨_, _, rfl, .inl ⟨by rw [hlen]; exact hodd, rfl, rfl⟩, Below.refl _ _⟩
    clear hlen
    go_enter Tryd.func17, Tryd.ntmps17
    go_wp2
    go_ret2
    exact HP.out
  · have hm : (s.size : Int) % 2 = 0 := by omega
    obtain ⟨p, hp⟩ : ∃ p : Nat, p = s.size / 2 := ⟨_, rfl⟩
    have hdv : (s.size : Int) / 2 = (p : Int) := by omega
    have hp2 : p ≤ 1000000000 := by omega
    have hmk := fun w => run_make_row' (P := Tryd.prog) 47 5 (.int .u8 0) 1 Tryd.underlying47 infoU8 rfl .i64 .i64 p (by omega) (by omega) w
    have HROW := Lib.hid (World.rowIs_made w (.int .u8 0) p 5)
    have HPP := Lib.hid hp
    have HLN := Lib.hid hlen
    clear hp hlen
    go_enter Tryd.func17, Tryd.ntmps17
    go_wp2
    have HOD := Lib.hid hodd
    clear hmk hm hodd
    go_loopw [2, 3, 5, 6, 17] (fun _ _ _ _ i wr => UhRel w s.data.toList i wr) (fun _ _ _ _ i _ => s.size - (intOf i).toNat)
    case atStart =>
      refine ⟨0, Nat.zero_le _, rfl, fun j hj => absurd hj (Nat.not_lt_zero _), ?_, (Below.refl _ _).alloc (Nat.le_refl _) _⟩
      rw [HLN.out, ← HPP.out]
      exact HROW.out.congr (fun j _ => by simp [uhV])
    case round =>
      clear HROW
      obtain ⟨k, hk, rfl, hall, hr, hbel⟩ := hrel
      rw [HLN.out] at hk hr
      by_cases hlt : k < s.size
      · have hltI : (k : Int) < (s.size : Int) := by omega
        obtain ⟨c, hc⟩ : ∃ c, s[k] = c := ⟨_, rfl⟩
        have hck : c = chr s.data.toList k := by rw [← hc]; exact chr_at s k hlt
        have HCK := Lib.hid hck
        have HIB := Lib.hid (fun w => ib_any c w)
        have hd := digV_bd c
        have HALL := Lib.hid hall
        obtain ⟨d, hdd⟩ : ∃ d, digV c = d := ⟨_, rfl⟩
        have HDD := Lib.hid hdd
        rw [hdd] at hd HIB
        by_cases hneg : d < 0
        · have HP : Hid (UhPost s.data.toList w (.returned (.tuple #[.string ⟨#[]⟩, .int .i64 9])) wr) := Lib.hid ⟨_, _, rfl, .inr (.inl ⟨by rw [HLN.out]; have := HOD.out; omega, fun h => by
            have := h k (by rw [HLN.out]; exact hlt)
            rw [← hck, hdd] at this
            omega, rfl, rfl⟩), hbel⟩
          clear hr hbel hck hdd hall
          go_wp2_with fail
          refine (HIB.out _).mono ?_
          rintro e w1 ⟨rfl, rfl⟩
          go_wp2_with fail
          go_ret2
          exact HP.out
        · have hn0 : 0 ≤ d := by omega
          have hd16 := hd.2
          have hall' : Hid (allD s.data.toList (k + 1)) := Lib.hid (fun j hj => by
            by_cases h : j = k
            · rw [h, ← hck, hdd]; exact hn0
            · exact hall j (by omega))
          obtain ⟨q, hqe⟩ : ∃ q : Nat, q = k / 2 := ⟨_, rfl⟩
          have hqp : q < s.size / 2 := by have := HOD.out; omega
          have hcell := hr.cell hqp
          have hfr := hr.frozen q
          obtain ⟨a, ha⟩ : ∃ a, uhV s.data.toList k q = a := ⟨_, rfl⟩
          have hav : a = if k % 2 = 0 then 0 else digV (chr s.data.toList (k - 1)) := by
            rw [← ha, uhV, if_neg (by omega)]
            by_cases h2 : k % 2 = 0
            · rw [if_neg (by omega), if_pos h2]
            · rw [if_pos (by omega), if_neg h2, show 2 * q = k - 1 by omega]
          have hab : 0 ≤ a ∧ a < 16 := by
            rw [hav]
            split
            · omega
            · exact ⟨hall (k - 1) (by omega), (digV_bd _).2⟩
          have hor := or_digit a d hab.1 hab.2 hn0 hd16
          have hstep : Hid (∀ j, (if j = q then Value.int .u8 (16 * a + d) else Value.int .u8 (uhV s.data.toList k j)) = Value.int .u8 (uhV s.data.toList (k + 1) j)) := Lib.hid (fun j => uh_step s.data.toList k j q hqe _ (by
            rw [hav, ← hck, hdd]
            split
            · omega
            · rfl))
          rw [ha] at hcell
          have hdv2 : (k : Int) / 2 = (q : Int) := by omega
          have hdv3 : (k : Int).tdiv 2 = (q : Int) := by rw [Int.tdiv_eq_ediv_of_nonneg (by omega)]; omega
          have hq0 : (q : Int) < (p : Int) := by have := HPP.out; omega
          have hq1 : (0 : Int) ≤ (q : Int) := by omega
          have hwd : IntKind.u8.wrap d = d := by rw [IntKind.wrap_u8]; omega
          have HR := Lib.hid hr
          have HB := Lib.hid hbel
          have HQP := Lib.hid hqp
          clear hr hbel hck hdd hall hqe ha hav hqp
          go_wp2_with fail
          refine (HIB.out _).mono ?_
          rintro e w1 ⟨rfl, rfl⟩
          go_wp2_with fail
          go_roundw
          case rel => exact ⟨k + 1, by rw [HLN.out]; omega, by go_num, hall'.out, by rw [HLN.out]; exact (HR.out.set q _).congr (fun j _ => hstep.out j), HB.out.setCell (p := ⟨w.heap.size, q, none⟩) (Nat.le_refl _) _⟩
          case measure => simp [intOf]; omega
      · obtain rfl : k = s.size := by omega
        have hcv : (convert 47 9 (.slice (some ⟨w.heap.size, 0, none⟩) p p)).run Tryd.prog wr = .ok (.string ⟨(pairsL s.data.toList p).toArray⟩) wr := by
          have h := run_convert_bytes_back (P := Tryd.prog) wr 47 9 5 ⟨w.heap.size, 0, none⟩ p (pairsL s.data.toList p) Tryd.underlying47 Tryd.underlying5 Tryd.underlying9 (fun j hj => by
            rw [pairsL_len] at hj
            have hpe := HPP.out
            rw [addr_at, hr.cell (by omega)]
            simp only [pairsL, List.getElem_map, List.getElem_range]
            rw [pair_val _ _ (hall _ (by omega)) (hall _ (by omega)), uhV, if_pos (by omega)])
          rw [pairsL_len] at h
          exact h
        have HP : Hid (UhPost s.data.toList w (.returned (.tuple #[.string ⟨(pairsL s.data.toList p).toArray⟩, .int .i64 0])) wr) := Lib.hid ⟨_, _, rfl, .inr (.inr ⟨by rw [HLN.out]; have := HOD.out; omega, by rw [HLN.out]; exact hall, by rw [HLN.out, ← HPP.out]; rfl, rfl⟩), hbel⟩
        clear hr hbel hall
        go_wp2_with fail
        go_ret2
        exact HP.out
end Go.Proofs.YthhaofdnbemogaaDoor
