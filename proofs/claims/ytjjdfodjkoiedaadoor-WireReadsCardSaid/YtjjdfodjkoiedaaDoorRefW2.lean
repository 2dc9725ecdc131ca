/-
  The reference's writers: Number.
-/
import Derived.Test.YtjjdfodjkoiedaaDoorRefW
import Derived.Laws.Bits64b
set_option linter.unusedVariables false
namespace Go.Proofs.YtjjdfodjkoiedaaDoor
open Go.RowKit

set_option maxHeartbeats 400000 in
theorem rSize_any (n : Int) (w : World) :
    Calls Tryd.prog 29 #[.int .i64 n] w fun e w' => e = .returned (.int .i64 (szN n)) ∧ w = w' := by
  unfold szN
  by_cases h1 : -64 ≤ n ∧ n ≤ 63
  · rw [if_pos h1]
    obtain ⟨h1, h2⟩ := h1
    have d1 : decide (-64 ≤ n) = true := decide_eq_true h1
    go_enter Tryd.func29, Tryd.ntmps29
    go_wp2
    go_ret
    exact ⟨rfl, rfl⟩
  rw [if_neg h1]
  by_cases h2 : -8192 ≤ n ∧ n ≤ 8191
  · rw [if_pos h2]
    go_enter Tryd.func29, Tryd.ntmps29
    go_wp2
    all_goals first | (exfalso; omega) | (go_ret; exact ⟨rfl, rfl⟩)
  rw [if_neg h2]
  by_cases h3 : -268435456 ≤ n ∧ n ≤ 268435455
  · rw [if_pos h3]
    go_enter Tryd.func29, Tryd.ntmps29
    go_wp2
    all_goals first | (exfalso; omega) | (go_ret; exact ⟨rfl, rfl⟩)
  · rw [if_neg h3]
    go_enter Tryd.func29, Tryd.ntmps29
    go_wp2
    all_goals first | (exfalso; omega) | (go_ret; exact ⟨rfl, rfl⟩)

theorem lit_conv (W : World) (bs : List UInt8) (vs : Array Value) (t : TypeId) (k : Nat) (hk : bs.length = k) (h : vs.toList = u8s bs) :
    (convert 64 9 (.slice (some ⟨W.heap.size, 0, none⟩) k k)).run Tryd.prog (W.alloc (.cells vs t)) = .ok (.string ⟨bs.toArray⟩) (W.alloc (.cells vs t)) := by
  subst hk
  refine run_convert_bytes_back _ _ _ _ ⟨W.heap.size, 0, none⟩ bs.length bs Tryd.underlying64 Tryd.underlying5 Tryd.underlying9 (fun j hj => ?_)
  rw [show (⟨W.heap.size, 0, none⟩ : Addr).add j = ⟨W.heap.size, j, none⟩ by unfold Addr.add; split <;> simp_all, World.cell?_alloc_at _ _ _ _ rfl]
  show vs[j]? = _
  rw [← Array.getElem?_toList, h]
  simp [u8s, hj]

theorem and64 (u : Int) (k : Nat) (hk : k < 64) (h0 : 0 ≤ u) (h1 : u < 18446744073709551616) : bits .and .u64 u (2 ^ k - 1) = u % 2 ^ k := by
  obtain ⟨a, rfl⟩ : ∃ a : Nat, u = (a : Int) := ⟨u.toNat, by omega⟩
  have hp : (0 : Nat) < 2 ^ k := Nat.pow_pos (by omega)
  have hle : (2 : Nat) ^ k ≤ 2 ^ 63 := Nat.pow_le_pow_right (by omega) (by omega)
  have e : ((2 : Int) ^ k - 1) = ((2 ^ k - 1 : Nat) : Int) := by
    have : ((2 : Int) ^ k) = ((2 ^ k : Nat) : Int) := by simp
    omega
  rw [e, bits_and_u64_nat a _ (by omega) (by omega), Nat.and_two_pow_sub_one_eq_mod]
  simp

set_option maxRecDepth 100000 in
theorem or128 (c : Int) (h0 : 0 ≤ c) (h : c < 64) : bits .or .u8 128 c = 128 + c := by
  obtain ⟨a, rfl⟩ : ∃ a : Nat, c = (a : Int) := ⟨c.toNat, by omega⟩
  have key : ∀ k : Fin 64, bits .or .u8 128 (k.val : Int) = 128 + (k.val : Int) := by decide +kernel
  exact key ⟨a, by omega⟩
set_option maxRecDepth 100000 in
theorem or192 (c : Int) (h0 : 0 ≤ c) (h : c < 32) : bits .or .u8 192 c = 192 + c := by
  obtain ⟨a, rfl⟩ : ∃ a : Nat, c = (a : Int) := ⟨c.toNat, by omega⟩
  have key : ∀ k : Fin 32, bits .or .u8 192 (k.val : Int) = 192 + (k.val : Int) := by decide +kernel
  exact key ⟨a, by omega⟩

theorem beT_mod (n : Int) (k : Nat) (hk : k ≤ 8) : beT (n % 18446744073709551616) 8 k = beT n 8 k := by
  induction k with
  | zero => rfl
  | succ k ih =>
    rw [beT, beT, ih (by omega)]
    congr 2
    refine byteI_congr ?_
    rcases (by omega : k = 0 ∨ k = 1 ∨ k = 2 ∨ k = 3 ∨ k = 4 ∨ k = 5 ∨ k = 6 ∨ k = 7) with rfl | rfl | rfl | rfl | rfl | rfl | rfl | rfl
    all_goals omega

def BeRel (w : World) (u : Int) (b i : Value) (wr : World) : Prop :=
  ∃ k : Nat, k ≤ 8 ∧ i = .int .i64 (7 - (k : Int)) ∧ wr.ownsRow w.heap.size 5 1 b (k + 1) (u8s (224 :: beT u 8 k)) ∧ Below w.heap.size w wr

theorem own_lit (W : World) (vs : Array Value) (k : Nat) (us : List Value) (h : vs.toList = us) (hk : us.length = k) (hm : k ≤ maxLen) :
    (W.alloc (.cells vs 5)).ownsRow W.heap.size 5 1 (.slice (some ⟨W.heap.size, 0, none⟩) k k) k us := by
  subst h
  exact World.ownsRow_lit W vs k (Nat.le_refl _) hm (by rw [← hk]; simp)

set_option maxHeartbeats 1000000 in
set_option maxRecDepth 100000 in
theorem refNumber_any (n : Int) (hn : I64 n) (w : World) :
    Calls Tryd.prog 37 #[.int .i64 n] w fun e w' => e = .returned (.string ⟨(encNum n).toArray⟩) ∧ Below w.heap.size w w' := by
  obtain ⟨i0, hi, hz0, hz1, hz2⟩ := info_parts infoU8
  have hz := fun w => rSize_any n w
  have hu : IntKind.u64.wrap n = n % 18446744073709551616 := IntKind.wrap_u64 n
  have hu0 : 0 ≤ IntKind.u64.wrap n := by rw [hu]; omega
  have hu1 : IntKind.u64.wrap n < 18446744073709551616 := by rw [hu]; omega
  unfold szN at hz
  unfold encNum
  by_cases h1 : -64 ≤ n ∧ n ≤ 63
  · rw [if_pos h1] at hz ⊢
    have HZ := Lib.hid hz
    have e7 := and64 (IntKind.u64.wrap n) 7 (by omega) hu0 hu1
    have hc := fun w : World => lit_conv w [byteI (n % 128)] #[.int .u8 (bits .and .u64 (IntKind.u64.wrap n) 127 % 256)] 5 1 rfl (by
      have e7' : bits .and .u64 (IntKind.u64.wrap n) 127 = IntKind.u64.wrap n % 128 := e7
      simp only [u8s, List.map_cons, List.map_nil, byteI_nat]
      rw [e7', hu]
      simp only [List.cons.injEq, Value.int.injEq, and_true, true_and]
      omega)
    clear hz e7 hu hu0 hu1
    obtain ⟨h1, h2⟩ := h1
    go_enter Tryd.func37, Tryd.ntmps37
    go_wp2_with fail
    refine (HZ.out _).mono ?_
    rintro e w1 ⟨rfl, rfl⟩
    go_wp2
    go_ret
    exact ⟨rfl, below_al (Below.refl _ _)⟩
  rw [if_neg h1] at hz ⊢
  by_cases h2 : -8192 ≤ n ∧ n ≤ 8191
  · rw [if_pos h2] at hz ⊢
    have HZ := Lib.hid hz
    have e7 := and64 (IntKind.u64.wrap n / 256) 6 (by omega) (by omega) (by omega)
    have hc := fun w : World => lit_conv w [byteI (128 + n / 256 % 64), byteI n] #[.int .u8 (bits .or .u8 128 (bits .and .u64 (IntKind.u64.wrap n / 256) 63 % 256)), .int .u8 (IntKind.u64.wrap n % 256)] 5 2 rfl (by
      have e7' : bits .and .u64 (IntKind.u64.wrap n / 256) 63 = IntKind.u64.wrap n / 256 % 64 := e7
      simp only [u8s, List.map_cons, List.map_nil, byteI_nat]
      rw [e7', or128 _ (by omega) (by omega), hu]
      simp only [List.cons.injEq, Value.int.injEq, and_true, true_and]
      exact ⟨by omega, by omega⟩)
    clear hz e7 hu hu0 hu1
    go_enter Tryd.func37, Tryd.ntmps37
    go_wp2_with fail
    refine (HZ.out _).mono ?_
    rintro e w1 ⟨rfl, rfl⟩
    go_wp2
    go_ret
    exact ⟨rfl, below_al (Below.refl _ _)⟩
  rw [if_neg h2] at hz ⊢
  by_cases h3 : -268435456 ≤ n ∧ n ≤ 268435455
  · rw [if_pos h3] at hz ⊢
    have HZ := Lib.hid hz
    have e7 := and64 (IntKind.u64.wrap n / 16777216) 5 (by omega) (by omega) (by omega)
    have hc := fun w : World => lit_conv w [byteI (192 + n / 16777216 % 32), byteI (n / 65536), byteI (n / 256), byteI n] #[.int .u8 (bits .or .u8 192 (bits .and .u64 (IntKind.u64.wrap n / 16777216) 31 % 256)), .int .u8 (IntKind.u64.wrap n / 65536 % 256), .int .u8 (IntKind.u64.wrap n / 256 % 256), .int .u8 (IntKind.u64.wrap n % 256)] 5 4 rfl (by
      have e7' : bits .and .u64 (IntKind.u64.wrap n / 16777216) 31 = IntKind.u64.wrap n / 16777216 % 32 := e7
      simp only [u8s, List.map_cons, List.map_nil, byteI_nat]
      rw [e7', or192 _ (by omega) (by omega), hu]
      simp only [List.cons.injEq, Value.int.injEq, and_true, true_and]
      exact ⟨by omega, by omega, by omega, by omega⟩)
    clear hz e7 hu hu0 hu1
    go_enter Tryd.func37, Tryd.ntmps37
    go_wp2_with fail
    refine (HZ.out _).mono ?_
    rintro e w1 ⟨rfl, rfl⟩
    go_wp2
    go_ret
    exact ⟨rfl, below_al (Below.refl _ _)⟩
  rw [if_neg h3] at hz ⊢
  have HZ := Lib.hid hz
  have HE : Hid (224 :: beT (IntKind.u64.wrap n) 8 8 = [224, byteI (n / 72057594037927936), byteI (n / 281474976710656), byteI (n / 1099511627776), byteI (n / 4294967296), byteI (n / 16777216), byteI (n / 65536), byteI (n / 256), byteI n]) := by
    show _ = _
    rw [hu, beT_mod n 8 (by omega)]; simp [beT]
  rw [← HE.out]
  clear hz HE hu
  have HU := Lib.hid (And.intro hu0 hu1)
  clear hu0 hu1 h1 h2 h3
  go_enter Tryd.func37, Tryd.ntmps37
  go_wp2_with fail
  refine (HZ.out _).mono ?_
  rintro e w1 ⟨rfl, rfl⟩
  go_wp2
  go_loopw [4, 5] (fun b i wr => BeRel w (IntKind.u64.wrap n) b i wr) (fun _ i _ => (intOf i + 1).toNat)
  case atStart =>
    refine ⟨0, by omega, rfl, ?_, below_al (Below.refl _ _)⟩
    exact own_lit w _ 1 _ rfl rfl (by decide)
  case round =>
    obtain ⟨k, hk, rfl, hown, hbel⟩ := hrel
    by_cases hlt : k < 8
    · obtain ⟨q, hq⟩ : ∃ q : Nat, q = 7 - k := ⟨_, rfl⟩
      have hqI : 7 - (k : Int) = (q : Int) := by omega
      have hq7 : (q : Int) ≤ 7 := by omega
      have hq0 : (0 : Int) ≤ (q : Int) := by omega
      have HQ := Lib.hid hq
      have hba := hbel.size
      have hlk : (u8s (224 :: beT (IntKind.u64.wrap n) 8 k)).length = k + 1 := by rw [u8s_len, List.length_cons, beT_len]
      have hen : Hid (u8s (224 :: beT (IntKind.u64.wrap n) 8 (k + 1)) = u8s (224 :: beT (IntKind.u64.wrap n) 8 k) ++ [.int .u8 (IntKind.u64.wrap n / 2 ^ (8 * q) % 256)]) := by
        show _ = _
        rw [beT, ← List.cons_append, u8s_append]
        simp only [u8s, List.map_cons, List.map_nil, byteI_nat]
        rw [show 8 - (k + 1) = q by omega]
      rw [hqI]
      clear hq hqI
      go_wp2_with (at_builtin; refine wpList_append_own _ rfl _ _ 64 rfl w.heap.size 5 i0 (.int .u8 0) 1 1 Tryd.underlying64 hi hz0 hz1 hz2 rfl (by decide) _ _ _ rfl (hown.alloc _) ⟨wr.heap.size, 0, none⟩ 1 1 [.int .u8 (IntKind.u64.wrap n / 2 ^ (8 * q) % 256)] rfl rfl ?c1 ?c2 ?c3 ?c4 ?c5 ?_)
      case c1 => exact news_one _ _ _
      case c2 => exact one_one _ _
      case c3 => unfold maxLen; omega
      case c4 => omega
      case c5 => simp; omega
      intro v' w2 hown' hgrow _
      have HO := Lib.hid hown'
      have HB := Lib.hid (((hbel.alloc hba _).grown hgrow (by simp; omega) (fun g hg => (hown.lt g hg).1)))
      clear hown' hgrow hown hbel hlk
      go_wp2
      go_roundw
      case rel => exact ⟨k + 1, by omega, by have := HQ.out; show Value.int .i64 _ = _; congr 1; omega, by rw [hen.out]; exact HO.out, HB.out⟩
      case measure => simp [intOf]
    · obtain rfl : k = 8 := by omega
      have hcv := own_conv hown
      clear hown
      go_wp2
      go_ret
      exact ⟨rfl, hbel⟩
end Go.Proofs.YtjjdfodjkoiedaaDoor
