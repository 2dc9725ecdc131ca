/-
  acheronref04: Fits, FitsUnary, Unary, width, shift.
-/
import Derived.Test.YthbmdlihfocbmaaGreatDoorRef1
import Derived.Test.YthbmdlihfocbmaaGreatDoorUn
set_option linter.unusedVariables false
namespace Go.Proofs.YthbmdlihfocbmaaGreatDoor
open Go.RowKit

set_option maxRecDepth 100000 in
theorem refFits1_yes (op : Int) (h : 0 ≤ op ∧ op ≤ 9) (w : World) : Calls Tryz.prog 21 #[.int .i64 1, .int .i64 op] w fun e w' => e = .returned (.bool true) ∧ w = w' := by
  rcases (by omega : op < 0 ∨ (0 ≤ op ∧ op ≤ 3) ∨ (4 ≤ op ∧ op ≤ 9) ∨ 9 < op) with hc | ⟨hc, hc2⟩ | ⟨hc, hc2⟩ | hc
  all_goals first
    | (exfalso; omega)
    | (clear h
       go_enter Tryz.func21, Tryz.ntmps21
       go_wp2
       all_goals first
         | (go_ret; first | exact ⟨rfl, rfl⟩ | (refine ⟨?_, rfl⟩; simp; omega))
         | (exfalso; omega))
set_option maxRecDepth 100000 in
theorem refFits1_no (op : Int) (h : op < 0 ∨ 9 < op) (w : World) : Calls Tryz.prog 21 #[.int .i64 1, .int .i64 op] w fun e w' => e = .returned (.bool false) ∧ w = w' := by
  rcases (by omega : op < 0 ∨ (0 ≤ op ∧ op ≤ 3) ∨ (4 ≤ op ∧ op ≤ 9) ∨ 9 < op) with hc | ⟨hc, hc2⟩ | ⟨hc, hc2⟩ | hc
  all_goals first
    | (exfalso; omega)
    | (clear h
       go_enter Tryz.func21, Tryz.ntmps21
       go_wp2
       all_goals first
         | (go_ret; first | exact ⟨rfl, rfl⟩ | (refine ⟨?_, rfl⟩; simp; omega))
         | (exfalso; omega))
set_option maxRecDepth 100000 in
theorem refFits2_yes (op : Int) (h : 0 ≤ op ∧ op ≤ 9) (w : World) : Calls Tryz.prog 21 #[.int .i64 2, .int .i64 op] w fun e w' => e = .returned (.bool true) ∧ w = w' := by
  rcases (by omega : op < 0 ∨ (0 ≤ op ∧ op ≤ 3) ∨ (4 ≤ op ∧ op ≤ 9) ∨ 9 < op) with hc | ⟨hc, hc2⟩ | ⟨hc, hc2⟩ | hc
  all_goals first
    | (exfalso; omega)
    | (clear h
       go_enter Tryz.func21, Tryz.ntmps21
       go_wp2
       all_goals first
         | (go_ret; first | exact ⟨rfl, rfl⟩ | (refine ⟨?_, rfl⟩; simp; omega))
         | (exfalso; omega))
set_option maxRecDepth 100000 in
theorem refFits2_no (op : Int) (h : op < 0 ∨ 9 < op) (w : World) : Calls Tryz.prog 21 #[.int .i64 2, .int .i64 op] w fun e w' => e = .returned (.bool false) ∧ w = w' := by
  rcases (by omega : op < 0 ∨ (0 ≤ op ∧ op ≤ 3) ∨ (4 ≤ op ∧ op ≤ 9) ∨ 9 < op) with hc | ⟨hc, hc2⟩ | ⟨hc, hc2⟩ | hc
  all_goals first
    | (exfalso; omega)
    | (clear h
       go_enter Tryz.func21, Tryz.ntmps21
       go_wp2
       all_goals first
         | (go_ret; first | exact ⟨rfl, rfl⟩ | (refine ⟨?_, rfl⟩; simp; omega))
         | (exfalso; omega))
set_option maxRecDepth 100000 in
theorem refFits3_yes (op : Int) (h : 0 ≤ op ∧ op ≤ 9) (w : World) : Calls Tryz.prog 21 #[.int .i64 3, .int .i64 op] w fun e w' => e = .returned (.bool true) ∧ w = w' := by
  rcases (by omega : op < 0 ∨ (0 ≤ op ∧ op ≤ 3) ∨ (4 ≤ op ∧ op ≤ 9) ∨ 9 < op) with hc | ⟨hc, hc2⟩ | ⟨hc, hc2⟩ | hc
  all_goals first
    | (exfalso; omega)
    | (clear h
       go_enter Tryz.func21, Tryz.ntmps21
       go_wp2
       all_goals first
         | (go_ret; first | exact ⟨rfl, rfl⟩ | (refine ⟨?_, rfl⟩; simp; omega))
         | (exfalso; omega))
set_option maxRecDepth 100000 in
theorem refFits3_no (op : Int) (h : op < 0 ∨ 9 < op) (w : World) : Calls Tryz.prog 21 #[.int .i64 3, .int .i64 op] w fun e w' => e = .returned (.bool false) ∧ w = w' := by
  rcases (by omega : op < 0 ∨ (0 ≤ op ∧ op ≤ 3) ∨ (4 ≤ op ∧ op ≤ 9) ∨ 9 < op) with hc | ⟨hc, hc2⟩ | ⟨hc, hc2⟩ | hc
  all_goals first
    | (exfalso; omega)
    | (clear h
       go_enter Tryz.func21, Tryz.ntmps21
       go_wp2
       all_goals first
         | (go_ret; first | exact ⟨rfl, rfl⟩ | (refine ⟨?_, rfl⟩; simp; omega))
         | (exfalso; omega))
set_option maxRecDepth 100000 in
theorem refFits4_yes (op : Int) (h : 0 ≤ op ∧ op ≤ 3) (w : World) : Calls Tryz.prog 21 #[.int .i64 4, .int .i64 op] w fun e w' => e = .returned (.bool true) ∧ w = w' := by
  rcases (by omega : op < 0 ∨ (0 ≤ op ∧ op ≤ 3) ∨ (4 ≤ op ∧ op ≤ 9) ∨ 9 < op) with hc | ⟨hc, hc2⟩ | ⟨hc, hc2⟩ | hc
  all_goals first
    | (exfalso; omega)
    | (clear h
       go_enter Tryz.func21, Tryz.ntmps21
       go_wp2
       all_goals first
         | (go_ret; first | exact ⟨rfl, rfl⟩ | (refine ⟨?_, rfl⟩; simp; omega))
         | (exfalso; omega))
set_option maxRecDepth 100000 in
theorem refFits4_no (op : Int) (h : op < 0 ∨ 3 < op) (w : World) : Calls Tryz.prog 21 #[.int .i64 4, .int .i64 op] w fun e w' => e = .returned (.bool false) ∧ w = w' := by
  rcases (by omega : op < 0 ∨ (0 ≤ op ∧ op ≤ 3) ∨ (4 ≤ op ∧ op ≤ 9) ∨ 9 < op) with hc | ⟨hc, hc2⟩ | ⟨hc, hc2⟩ | hc
  all_goals first
    | (exfalso; omega)
    | (clear h
       go_enter Tryz.func21, Tryz.ntmps21
       go_wp2
       all_goals first
         | (go_ret; first | exact ⟨rfl, rfl⟩ | (refine ⟨?_, rfl⟩; simp; omega))
         | (exfalso; omega))
theorem refFitsU1_16 (w : World) : Calls Tryz.prog 23 #[.int .i64 1, .int .i64 16] w fun e w' => e = .returned (.bool true) ∧ w = w' := by
  go_enter Tryz.func23, Tryz.ntmps23
  go_wp2
  go_ret
  exact ⟨rfl, rfl⟩
theorem refFitsU1_17 (w : World) : Calls Tryz.prog 23 #[.int .i64 1, .int .i64 17] w fun e w' => e = .returned (.bool true) ∧ w = w' := by
  go_enter Tryz.func23, Tryz.ntmps23
  go_wp2
  go_ret
  exact ⟨rfl, rfl⟩
theorem refFitsU1_18 (w : World) : Calls Tryz.prog 23 #[.int .i64 1, .int .i64 18] w fun e w' => e = .returned (.bool false) ∧ w = w' := by
  go_enter Tryz.func23, Tryz.ntmps23
  go_wp2
  go_ret
  exact ⟨rfl, rfl⟩
theorem refFitsU2_16 (w : World) : Calls Tryz.prog 23 #[.int .i64 2, .int .i64 16] w fun e w' => e = .returned (.bool true) ∧ w = w' := by
  go_enter Tryz.func23, Tryz.ntmps23
  go_wp2
  go_ret
  exact ⟨rfl, rfl⟩
theorem refFitsU2_17 (w : World) : Calls Tryz.prog 23 #[.int .i64 2, .int .i64 17] w fun e w' => e = .returned (.bool true) ∧ w = w' := by
  go_enter Tryz.func23, Tryz.ntmps23
  go_wp2
  go_ret
  exact ⟨rfl, rfl⟩
theorem refFitsU2_18 (w : World) : Calls Tryz.prog 23 #[.int .i64 2, .int .i64 18] w fun e w' => e = .returned (.bool true) ∧ w = w' := by
  go_enter Tryz.func23, Tryz.ntmps23
  go_wp2
  go_ret
  exact ⟨rfl, rfl⟩
theorem refFitsU3_16 (w : World) : Calls Tryz.prog 23 #[.int .i64 3, .int .i64 16] w fun e w' => e = .returned (.bool true) ∧ w = w' := by
  go_enter Tryz.func23, Tryz.ntmps23
  go_wp2
  go_ret
  exact ⟨rfl, rfl⟩
theorem refFitsU3_17 (w : World) : Calls Tryz.prog 23 #[.int .i64 3, .int .i64 17] w fun e w' => e = .returned (.bool true) ∧ w = w' := by
  go_enter Tryz.func23, Tryz.ntmps23
  go_wp2
  go_ret
  exact ⟨rfl, rfl⟩
theorem refFitsU3_18 (w : World) : Calls Tryz.prog 23 #[.int .i64 3, .int .i64 18] w fun e w' => e = .returned (.bool false) ∧ w = w' := by
  go_enter Tryz.func23, Tryz.ntmps23
  go_wp2
  go_ret
  exact ⟨rfl, rfl⟩
theorem refFitsU4_16 (w : World) : Calls Tryz.prog 23 #[.int .i64 4, .int .i64 16] w fun e w' => e = .returned (.bool true) ∧ w = w' := by
  go_enter Tryz.func23, Tryz.ntmps23
  go_wp2
  go_ret
  exact ⟨rfl, rfl⟩
theorem refFitsU4_17 (w : World) : Calls Tryz.prog 23 #[.int .i64 4, .int .i64 17] w fun e w' => e = .returned (.bool false) ∧ w = w' := by
  go_enter Tryz.func23, Tryz.ntmps23
  go_wp2
  go_ret
  exact ⟨rfl, rfl⟩
theorem refFitsU4_18 (w : World) : Calls Tryz.prog 23 #[.int .i64 4, .int .i64 18] w fun e w' => e = .returned (.bool false) ∧ w = w' := by
  go_enter Tryz.func23, Tryz.ntmps23
  go_wp2
  go_ret
  exact ⟨rfl, rfl⟩
theorem refFitsU_no (k op : Int) (h16 : (op == 16) = false) (h17 : (op == 17) = false) (h18 : (op == 18) = false) (w : World) : Calls Tryz.prog 23 #[.int .i64 k, .int .i64 op] w fun e w' => e = .returned (.bool false) ∧ w = w' := by
  go_enter Tryz.func23, Tryz.ntmps23
  go_wp2
  go_ret
  exact ⟨rfl, rfl⟩
theorem xor_m1 (a : Int) : bits .xor .i64 (-1) a = wrap64 (-1 - a) := by
  have h1 : (BitVec.ofInt 64 a).toNat = (a % 18446744073709551616).toNat := by rw [BitVec.toNat_ofInt]; rfl
  show IntKind.i64.wrap ((BitVec.ofInt 64 (-1) ^^^ BitVec.ofInt 64 a).toNat : Int) = wrap64 (-1 - a)
  rw [show BitVec.ofInt 64 (-1) = BitVec.allOnes 64 from by decide, BitVec.allOnes_xor, BitVec.toNat_not, h1, IntKind.wrap_i64]
  unfold wrap64
  have : (2 : Nat) ^ 64 = 18446744073709551616 := by decide
  rw [this]
  omega
theorem xor_sign (a : Int) : wrap64 (bits .xor .u64 (IntKind.u64.wrap a) 9223372036854775808) = bits .xor .i64 a (-9223372036854775808) := by
  have e1 : BitVec.ofInt 64 (IntKind.u64.wrap a) = BitVec.ofInt 64 a := by
    apply BitVec.eq_of_toNat_eq
    rw [BitVec.toNat_ofInt, BitVec.toNat_ofInt, IntKind.wrap_u64]
    congr 1
    omega
  show wrap64 (IntKind.u64.wrap ((BitVec.ofInt 64 (IntKind.u64.wrap a) ^^^ BitVec.ofInt 64 9223372036854775808).toNat : Int)) = IntKind.i64.wrap ((BitVec.ofInt 64 a ^^^ BitVec.ofInt 64 (-9223372036854775808)).toNat : Int)
  rw [e1, show BitVec.ofInt 64 (-9223372036854775808) = BitVec.ofInt 64 9223372036854775808 from by decide, IntKind.wrap_u64, IntKind.wrap_i64]
  unfold wrap64
  omega
set_option maxRecDepth 100000 in
theorem refUn1_16 (a : Int) (w : World) : Calls Tryz.prog 24 #[.int .i64 1, .int .i64 16, .int .i64 a] w fun e w' => e = .returned (.int .i64 ((unI 16 (a % 256)) % 256)) ∧ w = w' := by
  have HW := Lib.hid (fun w => refWrap1 a w)
  go_enter Tryz.func24, Tryz.ntmps24
  go_wp2_with fail
  refine (HW.out _).mono ?_
  rintro e w1 ⟨rfl, rfl⟩
  go_wp2_with fail
  refine (refWrap1 _ _).mono ?_
  rintro e w2 ⟨rfl, rfl⟩
  go_wp2_with fail
  go_ret
  exact ⟨ret_int (by show _ = wrap64 (-(a % 256)) % 256; unfold wrap64; omega), rfl⟩
set_option maxRecDepth 100000 in
theorem refUn1_17 (a : Int) (w : World) : Calls Tryz.prog 24 #[.int .i64 1, .int .i64 17, .int .i64 a] w fun e w' => e = .returned (.int .i64 ((unI 17 (a % 256)) % 256)) ∧ w = w' := by
  have HW := Lib.hid (fun w => refWrap1 a w)
  go_enter Tryz.func24, Tryz.ntmps24
  go_wp2_with fail
  refine (HW.out _).mono ?_
  rintro e w1 ⟨rfl, rfl⟩
  go_wp2_with fail
  refine (refWrap1 _ _).mono ?_
  rintro e w2 ⟨rfl, rfl⟩
  go_wp2_with fail
  go_ret
  exact ⟨ret_int (by show _ = bits .xor .i64 (-1) (a % 256) % 256; rw [xor_m1]; unfold wrap64; omega), rfl⟩
set_option maxRecDepth 100000 in
theorem refUn2_16 (a : Int) (w : World) : Calls Tryz.prog 24 #[.int .i64 2, .int .i64 16, .int .i64 a] w fun e w' => e = .returned (.int .i64 (wrap32 (unI 16 (wrap32 a)))) ∧ w = w' := by
  have HW := Lib.hid (fun w => refWrap2 a w)
  go_enter Tryz.func24, Tryz.ntmps24
  go_wp2_with fail
  refine (HW.out _).mono ?_
  rintro e w1 ⟨rfl, rfl⟩
  go_wp2_with fail
  refine (refWrap2 _ _).mono ?_
  rintro e w2 ⟨rfl, rfl⟩
  go_wp2_with fail
  go_ret
  exact ⟨rfl, rfl⟩
set_option maxRecDepth 100000 in
theorem refUn2_17 (a : Int) (w : World) : Calls Tryz.prog 24 #[.int .i64 2, .int .i64 17, .int .i64 a] w fun e w' => e = .returned (.int .i64 (wrap32 (unI 17 (wrap32 a)))) ∧ w = w' := by
  have HW := Lib.hid (fun w => refWrap2 a w)
  go_enter Tryz.func24, Tryz.ntmps24
  go_wp2_with fail
  refine (HW.out _).mono ?_
  rintro e w1 ⟨rfl, rfl⟩
  go_wp2_with fail
  refine (refWrap2 _ _).mono ?_
  rintro e w2 ⟨rfl, rfl⟩
  go_wp2_with fail
  go_ret
  exact ⟨ret_int (by show _ = wrap32 (bits .xor .i64 (-1) (wrap32 a)); rw [xor_m1]), rfl⟩
set_option maxRecDepth 100000 in
theorem refUn2_18 (a : Int) (w : World) : Calls Tryz.prog 24 #[.int .i64 2, .int .i64 18, .int .i64 a] w fun e w' => e = .returned (.int .i64 (wrap32 (unI 18 (wrap32 a)))) ∧ w = w' := by
  have HW := Lib.hid (fun w => refWrap2 a w)
  rcases Bool.eq_false_or_eq_true (wrap32 a == 0) with h | h
  all_goals
    have hv : wrap32 (unI 18 (wrap32 a)) = wrap32 (bif wrap32 a == 0 then 1 else 0) := rfl
    rw [h] at hv
    rw [hv]
    clear hv
    go_enter Tryz.func24, Tryz.ntmps24
    go_wp2_with fail
    refine (HW.out _).mono ?_
    rintro e w1 ⟨rfl, rfl⟩
    go_wp2_with fail
    go_ret
    exact ⟨ret_int (by unfold wrap32; decide), rfl⟩
set_option maxRecDepth 100000 in
theorem refUn3_16 (a : Int) (w : World) : Calls Tryz.prog 24 #[.int .i64 3, .int .i64 16, .int .i64 a] w fun e w' => e = .returned (.int .i64 (unI 16 a)) ∧ w = w' := by
  have HW := Lib.hid (fun w => refWrap3 a w)
  go_enter Tryz.func24, Tryz.ntmps24
  go_wp2_with fail
  refine (HW.out _).mono ?_
  rintro e w1 ⟨rfl, rfl⟩
  go_wp2_with fail
  refine (refWrap3 _ _).mono ?_
  rintro e w2 ⟨rfl, rfl⟩
  go_wp2_with fail
  go_ret
  exact ⟨rfl, rfl⟩
set_option maxRecDepth 100000 in
theorem refUn3_17 (a : Int) (w : World) : Calls Tryz.prog 24 #[.int .i64 3, .int .i64 17, .int .i64 a] w fun e w' => e = .returned (.int .i64 (unI 17 a)) ∧ w = w' := by
  have HW := Lib.hid (fun w => refWrap3 a w)
  go_enter Tryz.func24, Tryz.ntmps24
  go_wp2_with fail
  refine (HW.out _).mono ?_
  rintro e w1 ⟨rfl, rfl⟩
  go_wp2_with fail
  refine (refWrap3 _ _).mono ?_
  rintro e w2 ⟨rfl, rfl⟩
  go_wp2_with fail
  go_ret
  exact ⟨ret_int (by show _ = bits .xor .i64 (-1) a; rw [xor_m1]), rfl⟩
set_option maxRecDepth 100000 in
theorem refUn4_16 (a : Int) (h0 : -9223372036854775808 ≤ a) (h1 : a ≤ 9223372036854775807) (w : World) : Calls Tryz.prog 24 #[.int .i64 4, .int .i64 16, .int .i64 a] w fun e w' => e = .returned (.int .i64 (wrR (unI 19 (wrR a)))) ∧ w = w' := by
  have HW := Lib.hid (fun w => refWrap4 a h0 h1 w)
  have hx := xor_sign (wrR a)
  have hr : -9223372036854775808 ≤ unI 19 (wrR a) ∧ unI 19 (wrR a) ≤ 9223372036854775807 := by
    show _ ≤ bits .xor .i64 _ _ ∧ bits .xor .i64 _ _ ≤ _
    rw [← hx]; unfold wrap64; omega
  have HV := Lib.hid (fun w => refWrap4 (unI 19 (wrR a)) hr.1 hr.2 w)
  have HX : Hid (wrap64 (bits .xor .u64 (IntKind.u64.wrap (wrR a)) 9223372036854775808) = unI 19 (wrR a)) := Lib.hid hx
  clear h0 h1 hx hr
  go_enter Tryz.func24, Tryz.ntmps24
  go_wp2_with fail
  refine (HW.out _).mono ?_
  rintro e w1 ⟨rfl, rfl⟩
  go_wp2_with fail
  rw [HX.out]
  refine (HV.out _).mono ?_
  rintro e w2 ⟨rfl, rfl⟩
  go_wp2_with fail
  go_ret
  exact ⟨rfl, rfl⟩
end Go.Proofs.YthbmdlihfocbmaaGreatDoor
