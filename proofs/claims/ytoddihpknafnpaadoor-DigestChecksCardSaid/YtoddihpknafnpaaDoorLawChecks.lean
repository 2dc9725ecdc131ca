/-
  For all strings s and t, every number at and every word bits the law DigestChecks returns true. No condition.
-/
import Derived.Test.YtoddihpknafnpaaDoorRows
import Derived.Test.YtoddihpknafnpaaDoorAwake
import Derived.Test.YtoddihpknafnpaaDoorBurst2
import Derived.Test.YtoddihpknafnpaaDoorLaidD
import Derived.WalkKit
import Derived.ProofKit
import Derived.OpenShut
import Derived.ShutString
import Derived.ChangeOld
import Derived.Carry
import Derived.SevenTiedAt
import Derived.Test.YtoddihpknafnpaaDoorCards
import Derived.Test.YtoddihpknafnpaaDoorTie
set_option linter.unusedVariables false
namespace Go.Proofs.YtoddihpknafnpaaDoor.digestChecks
open Go.ChangeShapes Go.WideShapes Go.ChangeAt Go.RowKit
open Go.ChangeMaps (open_string shut_string)

theorem below_bytes (w : World) (T : TypeId) (s : ByteArray) : Below w.heap.size w (Lib.bytesWorld w T s) := ⟨rfl, rfl, rfl, by rw [Lib.bytesWorld_size]; omega, fun j hj => Lib.bytesWorld_at_old w _ s j hj⟩

theorem own : ownKnob Tryd.prog.godebug = none := by kernel_rfl

theorem u32_bd {n : Int} (h : (Lit.int .u32 n).wf = true) : 0 ≤ n ∧ n < 4294967296 := by
  simp [Lit.wf, IntKind.min, IntKind.max, IntKind.signed, IntKind.bits] at h
  omega

def ChRel (w : World) (b : Nat) (l : List UInt8) (bs m : Nat) (i : Value) (wr : World) : Prop :=
  ∃ k : Nat, k ≤ 32 ∧ i = .int .i64 (k : Int) ∧ MRow wr b l.length (fun j => .int .u8 (burF l bs m k j : Int)) ∧ Below w.heap.size w wr

set_option maxHeartbeats 8000000 in
set_option maxRecDepth 100000 in
theorem walk (s t : ByteArray) (m : Int) (bs : Int) (hb0 : 0 ≤ bs) (hb1 : bs < 4294967296) (w : World) (ht : TabD w) :
    Calls Tryd.prog 7 #[.string s, .string t, .int .i64 m, .int .u32 bs] w fun e w' => e = .returned (.bool true) ∧ Below w.heap.size w w' := by
  have HT := Lib.hid ht
  have HAW := Lib.hid (awake_any w ht)
  clear ht
  by_cases hs : s.size ≤ 500
  case neg =>
    have i1 : (500 : Int) < (s.size : Int) := by omega
    go_enter Tryd.func7, Tryd.ntmps7
    go_wp2_with fail
    refine HAW.out.mono ?_
    rintro e w1 ⟨rfl, hb⟩
    have HB1 := Lib.hid hb
    clear hb
    go_wp2_with fail
    go_ret
    exact ⟨rfl, HB1.out⟩
  by_cases hT : t.size ≤ 500
  case neg =>
    have i0 : ¬ (500 : Int) < (s.size : Int) := by omega
    have i1 : (500 : Int) < (t.size : Int) := by omega
    go_enter Tryd.func7, Tryd.ntmps7
    go_wp2_with fail
    refine HAW.out.mono ?_
    rintro e w1 ⟨rfl, hb⟩
    have HB1 := Lib.hid hb
    clear hb
    go_wp2_with fail
    go_ret
    exact ⟨rfl, HB1.out⟩
  have i0 : ¬ (500 : Int) < (s.size : Int) := by omega
  have i1 : ¬ (500 : Int) < (t.size : Int) := by omega
  obtain ⟨l, hl⟩ : ∃ l, l = s.data.toList ++ t.data.toList := ⟨_, rfl⟩
  have hll : l.length = s.size + t.size := by rw [hl, List.length_append]; simp
  have hst : (s ++ t).data.toList = l := by rw [hl]; simp
  have hsz : (s ++ t).size ≤ 1000 := by
    have : (s ++ t).data.toList.length = l.length := by rw [hst]
    simp at this
    simp; omega
  have bC := crcX_bd 0 s.data.toList
  have HC1 := Lib.hid (fun w => crc_any s (by omega) w)
  have HE1 := Lib.hid (fun w => extend_yes (crcX 0 s.data.toList) bC.1 bC.2 t (by omega) w)
  have HE2 := Lib.hid (fun w => extend_yes 0 (by omega) (by omega) s (by omega) w)
  have HC2 := Lib.hid (fun w => crc_any (s ++ t) (by omega) w)
  have HR2 := Lib.hid (fun w => refCrc_any (s ++ t) (by omega) w)
  have HN1 := Lib.hid (fun w => extend_no (-1) (.inl (by omega)) s w)
  have HN2 := Lib.hid (fun w => extend_no 4294967296 (.inr (by omega)) s w)
  rw [crcX_app, ← hl] at HE1
  rw [hst] at HC2 HR2
  obtain ⟨C, hC⟩ : ∃ C, C = crcX 0 s.data.toList := ⟨_, rfl⟩
  obtain ⟨D, hD⟩ : ∃ D, D = crcX 0 l := ⟨_, rfl⟩
  rw [← hC] at HC1 HE1 HE2
  rw [← hD] at HE1 HC2 HR2
  have hcat : ¬ (9223372036854775807 < s.data.toList.length + t.data.toList.length) := by simp; omega
  have hcv := fun w => Lib.run_convert_string_bytes (P := Tryd.prog) w 9 47 5 (s ++ t) Tryd.underlying9 Tryd.underlying47 Tryd.underlying5
  have HCV := Lib.hid hcv
  have HST := Lib.hid hst
  have HDD := Lib.hid hD
  have HLL := Lib.hid hll
  clear hl hll hst bC hC hD hcv
  go_enter Tryd.func7, Tryd.ntmps7
  go_wp2_with fail
  refine HAW.out.mono ?_
  rintro e w1 ⟨rfl, hb⟩
  have HB1 := Lib.hid hb
  clear hb
  go_upto_region 13 with (first
    | (go_at_call 28; first | ((with_reducible refine (HC1.out _).mono ?_); rintro e w2 ⟨rfl, rfl⟩) | ((with_reducible refine (HC2.out _).mono ?_); rintro e w2 ⟨rfl, rfl⟩))
    | (go_at_call 29; ((with_reducible refine (HR2.out _).mono ?_); rintro e w2 ⟨rfl, rfl⟩))
    | (go_at_call 27; first | ((with_reducible refine (HE1.out _).mono ?_); rintro e w2 ⟨rfl, rfl⟩) | ((with_reducible refine (HE2.out _).mono ?_); rintro e w2 ⟨rfl, rfl⟩) | ((with_reducible refine (HN1.out _).mono ?_); rintro e w2 ⟨rfl, rfl⟩) | ((with_reducible refine (HN2.out _).mono ?_); rintro e w2 ⟨rfl, rfl⟩)))
  have hcv := HCV.out
  clear HCV
  have hn : (s ++ t).size = s.size + t.size := by simp
  by_cases c1 : bs = 0
  · subst c1
    go_wp2_with fail
    go_ret
    exact ⟨rfl, HB1.out.trans ((below_bytes _ _ _).mono HB1.out.size)⟩
  have c1b : (bs == 0) = false := by simpa using c1
  by_cases c2 : m < 0
  · go_wp2_with fail
    go_ret
    exact ⟨rfl, HB1.out.trans ((below_bytes _ _ _).mono HB1.out.size)⟩
  obtain ⟨mm, rfl⟩ := Int.eq_ofNat_of_zero_le (show 0 ≤ m by omega)
  by_cases c3 : 8 * ((s.size : Int) + (t.size : Int)) < (mm : Int)
  · go_wp2_with fail
    go_ret
    exact ⟨rfl, HB1.out.trans ((below_bytes _ _ _).mono HB1.out.size)⟩
  by_cases c4 : 8 * ((s.size : Int) + (t.size : Int)) - (mm : Int) < 32
  · go_wp2_with fail
    go_ret
    exact ⟨rfl, HB1.out.trans ((below_bytes _ _ _).mono HB1.out.size)⟩
  go_wp2_with fail
  obtain ⟨bn, rfl⟩ := Int.eq_ofNat_of_zero_le hb0
  have hlen : l.length = s.size + t.size := HLL.out
  have HREL : Hid (ChRel w w1.heap.size l bn mm (.int .i64 0) (Lib.bytesWorld w1 5 (s ++ t))) := Lib.hid (by
    refine ⟨0, by omega, rfl, ⟨by rw [Lib.bytesWorld_size]; omega, fun j hj => ?_, fun j hj => ?_⟩, HB1.out.trans ((below_bytes _ _ _).mono HB1.out.size)⟩
    · have hj' : j < (s ++ t).size := by rw [hn]; omega
      rw [Lib.bytesWorld_cell w1 _ (s ++ t) j hj', HST.out, burF, bur_zero, Nat.xor_zero]
    · have hj' : j < (s ++ t).size := by rw [hn]; omega
      unfold World.frozen?
      rw [Lib.bytesWorld_at_new]
      have : (s ++ t).size ≤ (Lib.bytesCells w1 5 (s ++ t)).size := by simp [Lib.bytesCells]
      simp only []
      simp
      omega)
  have HS1 := Lib.hid HB1.out.size
  have HC3 := Lib.hid c3
  have HC4 := Lib.hid c4
  have HC1' := Lib.hid c1
  have HLN := Lib.hid hlen
  have HHN := Lib.hid hn
  clear i0 i1 c1 c1b c2 c3 c4 hcv hcat hs hT hsz hlen hn hb0
  go_loopw [14, 106] (fun _ i wr => ChRel w w1.heap.size l bn mm i wr) (fun _ i _ => 32 - (intOf i).toNat)
  case atStart => exact HREL.out
  case round =>
    clear HREL
    obtain ⟨k, hk, rfl, hr, hbel⟩ := hrel
    by_cases hlt : k < 32
    · have hltI : (k : Int) < 32 := by omega
      obtain ⟨q, hq⟩ : ∃ q : Nat, q = bn / 2 ^ k := ⟨_, rfl⟩
      have hqe : (bn : Int) / 2 ^ k = (q : Int) := by rw [hq]; simp
      have hql : q < 4294967296 := by rw [hq]; exact Nat.lt_of_le_of_lt (Nat.div_le_self _ _) (by omega)
      have hand := and32 q hql
      have HQ := Lib.hid hq
      have HR := Lib.hid hr
      have HBL := Lib.hid hbel
      clear hq hr hbel
      by_cases hbit : q % 2 = 1
      · rw [hbit] at hand
        obtain ⟨p, hp⟩ : ∃ p : Nat, p = (mm + k) / 8 := ⟨_, rfl⟩
        obtain ⟨r, hr⟩ : ∃ r : Nat, r = (mm + k) % 8 := ⟨_, rfl⟩
        have hpl : p < l.length := by rw [HLN.out]; have h3 := HC3.out; have h4 := HC4.out; omega
        have hpl2 : p < s.size + t.size := by rw [← HLN.out]; exact hpl
        have hplI : (p : Int) < (s.size : Int) + (t.size : Int) := by omega
        have hmb : mm ≤ 8 * (s.size + t.size) := by have h3 := HC3.out; omega
        have hmb2 : s.size + t.size ≤ 1000 := by have := HHN.out; omega
        have e1 : IntKind.i64.wrap ((mm : Int) + (k : Int)) = (mm : Int) + (k : Int) := IntWalk.i64_in _ (by omega)
        have e2 : ((mm : Int) + (k : Int)) / 8 = (p : Int) := by omega
        have e3 : ((mm : Int) + (k : Int)).tdiv 8 = (p : Int) := by rw [Int.tdiv_eq_ediv_of_nonneg (by omega)]; exact e2
        have e4 : ((mm : Int) + (k : Int)) % 8 = (r : Int) := by omega
        have e5 : ((mm : Int) + (k : Int)).tmod 8 = (r : Int) := by rw [Int.tmod_eq_emod_of_nonneg (by omega)]; exact e4
        have e6 : IntKind.i64.wrap (p : Int) = (p : Int) := IntWalk.i64_in _ (by omega)
        have hcell := HR.out.cell p hpl
        have hfr := HR.out.free p hpl
        have hFl := burF_lt l bn mm k p
        have HP := Lib.hid hp
        have HRR := Lib.hid hr
        have hr8 : r < 8 := by omega
        have hrI : (r : Int) < 8 := by omega
        have hr0 : (0 : Int) ≤ (r : Int) := by omega
        have HPL := Lib.hid hpl
        clear hp hr hpl
        go_wp2_with fail
        go_region
        go_wp2
        refine ⟨⟨k + 1, by omega, by go_num, MRow.drew ((HR.out.set p _ HPL.out).congr (fun j _ => bur_cell l bn mm k j p r (by rw [← HQ.out]; exact hbit) HP.out HRR.out)), (HBL.out.setCell (p := ⟨w1.heap.size, p, none⟩) HS1.out _).drew⟩, by simp [intOf]; omega⟩
      · have hz : q % 2 = 0 := by omega
        rw [hz] at hand
        clear hbit
        go_wp2_with fail
        refine ⟨⟨k + 1, by omega, by go_num, HR.out.congr (fun j _ => ?_), HBL.out⟩, by simp [intOf]; omega⟩
        rw [burF, burF, bur_step0 bn mm k j (by rw [← HQ.out]; exact hz)]
    · obtain rfl : k = 32 := by omega
      have HR := Lib.hid hr
      have HBL := Lib.hid hbel
      clear hr hbel
      have hlb : (burL l bn mm).length = s.size + t.size := by rw [← HLN.out]; simp [burL]
      have hcv : (convert 47 9 (.slice (some ⟨w1.heap.size, 0, none⟩) (s.size + t.size) (grownCap w1 (s.size + t.size) 0 5))).run Tryd.prog wr = .ok (.string (strL (burL l bn mm))) wr := by
        rw [← hlb]
        refine run_convert_bytes_back wr _ _ _ ⟨w1.heap.size, 0, none⟩ _ (burL l bn mm) Tryd.underlying47 Tryd.underlying5 Tryd.underlying9 (fun j hj => ?_)
        have hj' : j < l.length := by rw [HLN.out, ← hlb]; exact hj
        rw [addr_at, HR.out.cell j hj']
        have hb := burF_lt l bn mm 32 j
        simp only [burL, List.getElem_map, List.getElem_range]
        have : (UInt8.ofNat (burF l bn mm 32 j)).toNat = burF l bn mm 32 j := by simp; omega
        rw [this]
      have HCR := Lib.hid (fun w => crc_any (strL (burL l bn mm)) (by rw [strL_size, hlb]; have := HHN.out; omega) w)
      rw [strL_data] at HCR
      have hne := burL_ne l bn mm (by intro e; exact HC1'.out (by rw [e]; rfl)) (by omega) (by rw [HLN.out]; have h3 := HC3.out; have h4 := HC4.out; omega)
      rw [← HDD.out] at hne
      generalize crcX 0 (burL l bn mm) = E at *
      have hneb : (E == D) = false := by simpa using hne
      have hneb2 : (E != D) = true := by simpa using hne
      clear hlb
      go_wp2_with fail
      refine (HCR.out _).mono ?_
      rintro e w9 ⟨rfl, rfl⟩
      go_wp2_with fail
      go_ret
      exact ⟨rfl, HBL.out⟩

set_option maxRecDepth 100000 in
theorem lifted (os : Os) (started : os.Started) (H : Type) (enc : TypeId × Value → H) :
    ReturnsInHanded {} Tryd.checked os 7 .any (fun w args => (Rows.digestChecksSpec.pre enc Tryd.prog Tryd.f7 [] false w args ∧ laidMetH Tryd.prog laid2 w) ∧ sizedMet enc Tryd.prog Tryd.f7 (OpenSpec.ofChange Rows.digestChecksSpec) false w args)
      (Rows.digestChecksSpec.post enc Tryd.prog Tryd.f7 false true false false) := by
  refine returnsInHanded_of_change_and (C := Tryd.checked) (X := fun w _ => laidMetH Tryd.prog laid2 w) (fun _ _ _ hh h => h.of_heap hh) own started (by kernel_rfl) Tryd.func7
    (ChangeSpec.witness_shaped (enc := enc) (C := Tryd.checked) (os := os) (X := fun w _ => laidMetH Tryd.prog laid2 w) false (World.doorLaid Tryd.prog 400 os) #[.string ByteArray.empty, .string ByteArray.empty, .int .i64 0, .int .u32 0] 8 rfl (World.shaped_of_RefB (by kernel_rfl) (by kernel_rfl)) (by kernel_rfl) (by kernel_rfl) (by kernel_rfl) (door_met os _)) ?_
  intro W base args ds gs before hval0 hW _ _ hL _
  have hval : ∀ (j : Nat) t v, Tryd.f7.params[j]? = some t → args[j]? = some v → Value.okWide Tryd.prog W .any base t v := hval0
  have hW' := hW
  obtain ⟨p, q, hA0, hV, rfl, hfz, hnd⟩ := hW
  have hA : DataW.TrodAll enc Tryd.prog W 0 (fun _ => true) true Tryd.f7.params.toList args.toList ds p := hA0
  rw [Tryd.params7] at hA hval
  obtain ⟨v0, vs0, d0, ds0, p0, q0, hargs, rfl, rfl, h0, r0⟩ := trodAll_cons hA
  obtain ⟨v1, vs1, d1, ds1, p1, q1, rfl, rfl, rfl, h1, r1⟩ := trodAll_cons r0
  obtain ⟨v2, vs2, d2, ds2, p2, q2, rfl, rfl, rfl, h2, r2⟩ := trodAll_cons r1
  obtain ⟨v3, vs3, d3, ds3, p3, q3, rfl, rfl, rfl, h3, r3⟩ := trodAll_cons r2
  obtain ⟨rfl, rfl, rfl⟩ := trodAll_nil r3
  obtain rfl : args = #[v0, v1, v2, v3] := by cases args; simp_all
  obtain ⟨rfl, rfl⟩ := trodVars_none hV
  obtain ⟨a0, rfl, rfl, rfl, w0⟩ := open_string Tryd.underlying9 (hval 0 9 v0 rfl rfl) h0
  obtain ⟨a1, rfl, rfl, rfl, w1⟩ := open_string Tryd.underlying9 (hval 1 9 v1 rfl rfl) h1
  obtain ⟨a2, rfl, rfl, rfl, w2⟩ := open_int Tryd.underlying3 (hval 2 3 v2 rfl rfl) h2
  obtain ⟨a3, rfl, rfl, rfl, w3⟩ := open_int Tryd.underlying24 (hval 3 24 v3 rfl rfl) h3
  clear hA0 hval0
  have ht := of_laid hL
  refine (walk a0 a1 a2 a3 (u32_bd w3).1 (u32_bd w3).2 W ht).mono fun e W' ⟨he, bel⟩ => ?_
  subst he
  exact ⟨_, rfl, _, _, _, [], _, [], hW', trodAll_mk1 (shut_bool Tryd.underlying4 _), (trodAll_cons_mk (shut_string Tryd.underlying9 w0) (trodAll_cons_mk (shut_string Tryd.underlying9 w1) (trodAll_cons_mk (shut_int Tryd.underlying3 w2) (trodAll_cons_mk (shut_int Tryd.underlying24 w3) trodAll_mk0)))), rfl, bel.frame _, fun h => by cases h⟩

theorem over : Rows.digestChecksRow.holds Tryd.pinned (OpenSpec.ofChange Rows.digestChecksSpec) :=
  OpenClaim.holds_of_wide 7 Tryd.f7 rfl rfl rfl rfl rfl rfl rfl ⟨rfl, rfl, rfl, rfl, rfl⟩ rfl rfl rfl rfl rfl (by kernel_rfl) Tryd.func7 (by kernel_rfl)
    (of_decide_eq_true (by kernel_rfl)) (by unfold Func.isWrapper; first | (rw [if_pos (by decide +kernel)]; kernel_rfl) | (rw [if_neg (by decide +kernel)]; exact ⟨rfl, rfl⟩))
    (fun os started H enc _ => lifted os started H enc)

theorem card_holds : Rows.DigestChecksCardSaid :=
  Claim7.holds_tied_plain_at .later [] [.data, .data] true (true, "8c260326cb8ce36d986a9977b984088357d89190d852a59f516cd170735cb484") false
    over (fun _ h => by cases h) (by kernel_rfl) (fun _ h => by cases h) digestChecks_row_tie rfl ⟨rfl, rfl⟩ (by kernel_rfl) rfl
    (fun f fn hf hfn => by
      obtain rfl : f = 7 := Option.some.inj ((show Tryd.prog.funcNamed "acheron/acheronlaw03.DigestChecks" = some 7 by kernel_rfl).symm.trans hf) |>.symm
      obtain rfl : fn = Tryd.f7 := (Option.some.inj (Tryd.func7.symm.trans hfn)).symm
      exact ⟨by kernel_rfl, fun j t ht => by
        rw [Tryd.params7] at ht
        have hm : t ∈ [9, 3, 24] := by have := Array.mem_of_getElem? ht; simp at this ⊢; omega
        have hall : ([9, 3, 24].all fun u => !Tryd.prog.wantsStandIn u) = true := by kernel_rfl
        exact (show Tryd.prog.wantsStandIn t = false by simpa using List.all_eq_true.1 hall t hm)⟩)
    (by kernel_rfl)
end Go.Proofs.YtoddihpknafnpaaDoor.digestChecks

