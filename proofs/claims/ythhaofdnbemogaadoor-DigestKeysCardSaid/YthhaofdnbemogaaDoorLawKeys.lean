/-
  For all numbers x, y, key the law DigestKeys returns true. No condition.
-/
import Derived.Test.YthhaofdnbemogaaDoorRows
import Derived.Test.YthhaofdnbemogaaDoorAwake
import Derived.Test.YthhaofdnbemogaaDoorRefPow
import Derived.Test.YthhaofdnbemogaaDoorLaidD
import Derived.WalkKit
import Derived.ProofKit
import Derived.OpenShut
import Derived.ShutString
import Derived.ChangeOld
import Derived.Carry
import Derived.SevenTiedAt
import Derived.Test.YthhaofdnbemogaaDoorCards
import Derived.Test.YthhaofdnbemogaaDoorTie
set_option linter.unusedVariables false
namespace Go.Proofs.YthhaofdnbemogaaDoor.digestKeys
open Go.ChangeShapes Go.WideShapes Go.ChangeAt Go.RowKit
open Go.ChangeMaps (open_string shut_string)

theorem own : ownKnob Tryd.prog.godebug = none := by kernel_rfl

set_option maxHeartbeats 8000000 in
set_option maxRecDepth 100000 in
theorem walk000 (x : Int) (y : Int) (hy : secretB y = false) (key : Int) (hx : secretB x = false) (hk : validB key = false) (w : World) (ht : TabD w) :
    Calls Tryd.prog 9 #[.int .i64 x, .int .i64 y, .int .i64 key] w fun e w' => e = .returned (.bool true) ∧ Below w.heap.size w w' := by
  have HAW := Lib.hid (awake_any w ht)
  have HV := Lib.hid (fun w => valid_no key hk w)
  have HR := Lib.hid (fun w => refValid_no key hk w)
  have H2 := Lib.hid (fun w => Key_no y hy w)
  have H1 := Lib.hid (fun w => Key_no x hx w)
  have H3 := Lib.hid (fun w => Shared_no x key hx w)
  have HS := Lib.hid (fun w => refSecret_no x hx w)
  clear hx hk hy
  clear ht
  go_enter Tryd.func9, Tryd.ntmps9
  go_wp2_with fail
  refine (HAW.out).mono ?_
  rintro e w1 ⟨rfl, hb⟩
  have HB1 := Lib.hid hb
  clear hb
  go_wp2_with fail
  refine (HV.out _).mono ?_
  rintro e w2 ⟨rfl, hb⟩
  have HB2 := Lib.hid (HB1.out.trans (hb.mono HB1.out.size))
  clear hb
  go_wp2_with fail
  refine (HR.out _).mono ?_
  rintro e w3 ⟨rfl, rfl⟩
  go_wp2_with fail
  refine (H1.out _).mono ?_
  rintro e w4 ⟨rfl, hb⟩
  have HB4 := Lib.hid (HB2.out.trans (hb.mono HB2.out.size))
  clear hb
  go_wp2_with fail
  refine (H2.out _).mono ?_
  rintro e w5 ⟨rfl, hb⟩
  have HB5 := Lib.hid (HB4.out.trans (hb.mono HB4.out.size))
  clear hb
  go_wp2_with fail
  refine (H3.out _).mono ?_
  rintro e w6 ⟨rfl, hb⟩
  have HB6 := Lib.hid (HB5.out.trans (hb.mono HB5.out.size))
  clear hb
  go_wp2_with fail
  refine (HS.out _).mono ?_
  rintro e w7 ⟨rfl, rfl⟩
  go_wp2_with fail
  go_ret
  exact ⟨rfl, HB6.out⟩

set_option maxHeartbeats 8000000 in
set_option maxRecDepth 100000 in
theorem walk100 (x : Nat) (y : Int) (hy : secretB y = false) (key : Int) (hx : secretB (x : Int) = true) (hk : validB (key : Int) = false) (w : World) (ht : TabD w) :
    Calls Tryd.prog 9 #[.int .i64 (x : Int), .int .i64 y, .int .i64 (key : Int)] w fun e w' => e = .returned (.bool true) ∧ Below w.heap.size w w' := by
  have HAW := Lib.hid (awake_any w ht)
  have HV := Lib.hid (fun w => valid_no (key : Int) hk w)
  have HR := Lib.hid (fun w => refValid_no (key : Int) hk w)
  have H1 := Lib.hid (fun w => Key_yes x hx w)
  have HS := Lib.hid (fun w => refSecret_yes (x : Int) hx w)
  have bx := secretB_of hx
  have hva : validB ((powP 4 x : Nat) : Int) = true := key_valid x (by omega) (by show x < 1152921504606845789; omega)
  have HVA := Lib.hid (fun w => valid_yes ((powP 4 x : Nat) : Int) hva w)
  have HP := Lib.hid (fun w => refPower_any 4 x (by omega) (by omega) w)
  have h4 : ((4 : Nat) : Int) = 4 := rfl
  rw [h4] at HP
  have H3 := Lib.hid (fun w => Shared_key (x : Int) key hx hk w)
  have H2 := Lib.hid (fun w => Key_no y hy w)
  have HSY := Lib.hid (fun w => refSecret_no y hy w)
  generalize powP 4 x = A at *
  clear hx hk hy bx hva h4
  clear ht
  go_enter Tryd.func9, Tryd.ntmps9
  go_wp2_with fail
  refine (HAW.out).mono ?_
  rintro e w1 ⟨rfl, hb⟩
  have HB1 := Lib.hid hb
  clear hb
  go_wp2_with fail
  refine (HV.out _).mono ?_
  rintro e w2 ⟨rfl, hb⟩
  have HB2 := Lib.hid (HB1.out.trans (hb.mono HB1.out.size))
  clear hb
  go_wp2_with fail
  refine (HR.out _).mono ?_
  rintro e w3 ⟨rfl, rfl⟩
  go_wp2_with fail
  refine (H1.out _).mono ?_
  rintro e w4 ⟨rfl, hb⟩
  have HB4 := Lib.hid (HB2.out.trans (hb.mono HB2.out.size))
  clear hb
  go_wp2_with fail
  refine (H2.out _).mono ?_
  rintro e w5 ⟨rfl, hb⟩
  have HB5 := Lib.hid (HB4.out.trans (hb.mono HB4.out.size))
  clear hb
  go_wp2_with fail
  refine (H3.out _).mono ?_
  rintro e w6 ⟨rfl, hb⟩
  have HB6 := Lib.hid (HB5.out.trans (hb.mono HB5.out.size))
  clear hb
  go_wp2_with fail
  refine (HS.out _).mono ?_
  rintro e w7 ⟨rfl, rfl⟩
  go_wp2_with fail
  refine (HVA.out _).mono ?_
  rintro e w8 ⟨rfl, hb⟩
  have HB8 := Lib.hid (HB6.out.trans (hb.mono HB6.out.size))
  clear hb
  go_wp2_with fail
  refine (HP.out _).mono ?_
  rintro e w9 ⟨rfl, rfl⟩
  go_wp2_with fail
  refine (HR.out _).mono ?_
  rintro e w10 ⟨rfl, rfl⟩
  go_wp2_with fail
  refine (HSY.out _).mono ?_
  rintro e w11 ⟨rfl, rfl⟩
  go_wp2_with fail
  go_ret
  exact ⟨rfl, HB8.out⟩

set_option maxHeartbeats 8000000 in
set_option maxRecDepth 100000 in
theorem walk001 (x : Int) (y : Nat) (hy : secretB (y : Int) = true) (key : Int) (hx : secretB x = false) (hk : validB key = false) (w : World) (ht : TabD w) :
    Calls Tryd.prog 9 #[.int .i64 x, .int .i64 (y : Int), .int .i64 key] w fun e w' => e = .returned (.bool true) ∧ Below w.heap.size w w' := by
  have HAW := Lib.hid (awake_any w ht)
  have HV := Lib.hid (fun w => valid_no key hk w)
  have HR := Lib.hid (fun w => refValid_no key hk w)
  have H2 := Lib.hid (fun w => Key_yes y hy w)
  generalize powP 4 y = B at *
  have H1 := Lib.hid (fun w => Key_no x hx w)
  have H3 := Lib.hid (fun w => Shared_no x key hx w)
  have HS := Lib.hid (fun w => refSecret_no x hx w)
  clear hx hk hy
  clear ht
  go_enter Tryd.func9, Tryd.ntmps9
  go_wp2_with fail
  refine (HAW.out).mono ?_
  rintro e w1 ⟨rfl, hb⟩
  have HB1 := Lib.hid hb
  clear hb
  go_wp2_with fail
  refine (HV.out _).mono ?_
  rintro e w2 ⟨rfl, hb⟩
  have HB2 := Lib.hid (HB1.out.trans (hb.mono HB1.out.size))
  clear hb
  go_wp2_with fail
  refine (HR.out _).mono ?_
  rintro e w3 ⟨rfl, rfl⟩
  go_wp2_with fail
  refine (H1.out _).mono ?_
  rintro e w4 ⟨rfl, hb⟩
  have HB4 := Lib.hid (HB2.out.trans (hb.mono HB2.out.size))
  clear hb
  go_wp2_with fail
  refine (H2.out _).mono ?_
  rintro e w5 ⟨rfl, hb⟩
  have HB5 := Lib.hid (HB4.out.trans (hb.mono HB4.out.size))
  clear hb
  go_wp2_with fail
  refine (H3.out _).mono ?_
  rintro e w6 ⟨rfl, hb⟩
  have HB6 := Lib.hid (HB5.out.trans (hb.mono HB5.out.size))
  clear hb
  go_wp2_with fail
  refine (HS.out _).mono ?_
  rintro e w7 ⟨rfl, rfl⟩
  go_wp2_with fail
  go_ret
  exact ⟨rfl, HB6.out⟩

set_option maxHeartbeats 8000000 in
set_option maxRecDepth 100000 in
theorem walk101 (x : Nat) (y : Nat) (hy : secretB (y : Int) = true) (key : Int) (hx : secretB (x : Int) = true) (hk : validB (key : Int) = false) (w : World) (ht : TabD w) :
    Calls Tryd.prog 9 #[.int .i64 (x : Int), .int .i64 (y : Int), .int .i64 (key : Int)] w fun e w' => e = .returned (.bool true) ∧ Below w.heap.size w w' := by
  have HAW := Lib.hid (awake_any w ht)
  have HV := Lib.hid (fun w => valid_no (key : Int) hk w)
  have HR := Lib.hid (fun w => refValid_no (key : Int) hk w)
  have H1 := Lib.hid (fun w => Key_yes x hx w)
  have HS := Lib.hid (fun w => refSecret_yes (x : Int) hx w)
  have bx := secretB_of hx
  have hva : validB ((powP 4 x : Nat) : Int) = true := key_valid x (by omega) (by show x < 1152921504606845789; omega)
  have HVA := Lib.hid (fun w => valid_yes ((powP 4 x : Nat) : Int) hva w)
  have HP := Lib.hid (fun w => refPower_any 4 x (by omega) (by omega) w)
  have h4 : ((4 : Nat) : Int) = 4 := rfl
  rw [h4] at HP
  have H3 := Lib.hid (fun w => Shared_key (x : Int) key hx hk w)
  have H2 := Lib.hid (fun w => Key_yes y hy w)
  have HSY := Lib.hid (fun w => refSecret_yes (y : Int) hy w)
  have bY := secretB_of hy
  have hvb : validB ((powP 4 y : Nat) : Int) = true := key_valid y (by omega) (by show y < 1152921504606845789; omega)
  have H4 := Lib.hid (fun w => Shared_yes x (powP 4 y) hx hvb w)
  have H5 := Lib.hid (fun w => Shared_yes y (powP 4 x) hy hva w)
  rw [pow_swap 4 y x] at H4
  generalize powP (powP 4 x) y = SH at *
  generalize powP 4 x = A at *
  generalize powP 4 y = B at *
  clear hx hk hy bx bY hva hvb h4
  clear ht
  go_enter Tryd.func9, Tryd.ntmps9
  go_wp2_with fail
  refine (HAW.out).mono ?_
  rintro e w1 ⟨rfl, hb⟩
  have HB1 := Lib.hid hb
  clear hb
  go_wp2_with fail
  refine (HV.out _).mono ?_
  rintro e w2 ⟨rfl, hb⟩
  have HB2 := Lib.hid (HB1.out.trans (hb.mono HB1.out.size))
  clear hb
  go_wp2_with fail
  refine (HR.out _).mono ?_
  rintro e w3 ⟨rfl, rfl⟩
  go_wp2_with fail
  refine (H1.out _).mono ?_
  rintro e w4 ⟨rfl, hb⟩
  have HB4 := Lib.hid (HB2.out.trans (hb.mono HB2.out.size))
  clear hb
  go_wp2_with fail
  refine (H2.out _).mono ?_
  rintro e w5 ⟨rfl, hb⟩
  have HB5 := Lib.hid (HB4.out.trans (hb.mono HB4.out.size))
  clear hb
  go_wp2_with fail
  refine (H3.out _).mono ?_
  rintro e w6 ⟨rfl, hb⟩
  have HB6 := Lib.hid (HB5.out.trans (hb.mono HB5.out.size))
  clear hb
  go_wp2_with fail
  refine (HS.out _).mono ?_
  rintro e w7 ⟨rfl, rfl⟩
  go_wp2_with fail
  refine (HVA.out _).mono ?_
  rintro e w8 ⟨rfl, hb⟩
  have HB8 := Lib.hid (HB6.out.trans (hb.mono HB6.out.size))
  clear hb
  go_wp2_with fail
  refine (HP.out _).mono ?_
  rintro e w9 ⟨rfl, rfl⟩
  go_wp2_with fail
  refine (HR.out _).mono ?_
  rintro e w10 ⟨rfl, rfl⟩
  go_wp2_with fail
  refine (HSY.out _).mono ?_
  rintro e w11 ⟨rfl, rfl⟩
  go_wp2_with fail
  refine (H4.out _).mono ?_
  rintro e w12 ⟨rfl, hb⟩
  have HB12 := Lib.hid (HB8.out.trans (hb.mono HB8.out.size))
  clear hb
  go_wp2_with fail
  refine (H5.out _).mono ?_
  rintro e w13 ⟨rfl, hb⟩
  have HB13 := Lib.hid (HB12.out.trans (hb.mono HB12.out.size))
  clear hb
  go_wp2_with fail
  go_ret
  exact ⟨rfl, HB13.out⟩

set_option maxHeartbeats 8000000 in
set_option maxRecDepth 100000 in
theorem walk010 (x : Int) (y : Int) (hy : secretB y = false) (key : Int) (hx : secretB x = false) (hk : validB key = true) (w : World) (ht : TabD w) :
    Calls Tryd.prog 9 #[.int .i64 x, .int .i64 y, .int .i64 key] w fun e w' => e = .returned (.bool true) ∧ Below w.heap.size w w' := by
  have HAW := Lib.hid (awake_any w ht)
  have HV := Lib.hid (fun w => valid_yes key hk w)
  have HR := Lib.hid (fun w => refValid_yes key hk w)
  have H2 := Lib.hid (fun w => Key_no y hy w)
  have H1 := Lib.hid (fun w => Key_no x hx w)
  have H3 := Lib.hid (fun w => Shared_no x key hx w)
  have HS := Lib.hid (fun w => refSecret_no x hx w)
  clear hx hk hy
  clear ht
  go_enter Tryd.func9, Tryd.ntmps9
  go_wp2_with fail
  refine (HAW.out).mono ?_
  rintro e w1 ⟨rfl, hb⟩
  have HB1 := Lib.hid hb
  clear hb
  go_wp2_with fail
  refine (HV.out _).mono ?_
  rintro e w2 ⟨rfl, hb⟩
  have HB2 := Lib.hid (HB1.out.trans (hb.mono HB1.out.size))
  clear hb
  go_wp2_with fail
  refine (HR.out _).mono ?_
  rintro e w3 ⟨rfl, rfl⟩
  go_wp2_with fail
  refine (H1.out _).mono ?_
  rintro e w4 ⟨rfl, hb⟩
  have HB4 := Lib.hid (HB2.out.trans (hb.mono HB2.out.size))
  clear hb
  go_wp2_with fail
  refine (H2.out _).mono ?_
  rintro e w5 ⟨rfl, hb⟩
  have HB5 := Lib.hid (HB4.out.trans (hb.mono HB4.out.size))
  clear hb
  go_wp2_with fail
  refine (H3.out _).mono ?_
  rintro e w6 ⟨rfl, hb⟩
  have HB6 := Lib.hid (HB5.out.trans (hb.mono HB5.out.size))
  clear hb
  go_wp2_with fail
  refine (HS.out _).mono ?_
  rintro e w7 ⟨rfl, rfl⟩
  go_wp2_with fail
  go_ret
  exact ⟨rfl, HB6.out⟩

set_option maxHeartbeats 8000000 in
set_option maxRecDepth 100000 in
theorem walk110 (x : Nat) (y : Int) (hy : secretB y = false) (key : Nat) (hx : secretB (x : Int) = true) (hk : validB (key : Int) = true) (w : World) (ht : TabD w) :
    Calls Tryd.prog 9 #[.int .i64 (x : Int), .int .i64 y, .int .i64 (key : Int)] w fun e w' => e = .returned (.bool true) ∧ Below w.heap.size w w' := by
  have HAW := Lib.hid (awake_any w ht)
  have HV := Lib.hid (fun w => valid_yes (key : Int) hk w)
  have HR := Lib.hid (fun w => refValid_yes (key : Int) hk w)
  have H1 := Lib.hid (fun w => Key_yes x hx w)
  have HS := Lib.hid (fun w => refSecret_yes (x : Int) hx w)
  have bx := secretB_of hx
  have hva : validB ((powP 4 x : Nat) : Int) = true := key_valid x (by omega) (by show x < 1152921504606845789; omega)
  have HVA := Lib.hid (fun w => valid_yes ((powP 4 x : Nat) : Int) hva w)
  have HP := Lib.hid (fun w => refPower_any 4 x (by omega) (by omega) w)
  have h4 : ((4 : Nat) : Int) = 4 := rfl
  rw [h4] at HP
  have H3 := Lib.hid (fun w => Shared_yes x key hx hk w)
  have HP2 := Lib.hid (fun w => refPower_any key x (by have := unitB_nat (unitB_valid hk); omega) (by omega) w)
  have H2 := Lib.hid (fun w => Key_no y hy w)
  have HSY := Lib.hid (fun w => refSecret_no y hy w)
  generalize powP 4 x = A at *
  generalize powP key x = S at *
  clear hx hk hy bx hva h4
  clear ht
  go_enter Tryd.func9, Tryd.ntmps9
  go_wp2_with fail
  refine (HAW.out).mono ?_
  rintro e w1 ⟨rfl, hb⟩
  have HB1 := Lib.hid hb
  clear hb
  go_wp2_with fail
  refine (HV.out _).mono ?_
  rintro e w2 ⟨rfl, hb⟩
  have HB2 := Lib.hid (HB1.out.trans (hb.mono HB1.out.size))
  clear hb
  go_wp2_with fail
  refine (HR.out _).mono ?_
  rintro e w3 ⟨rfl, rfl⟩
  go_wp2_with fail
  refine (H1.out _).mono ?_
  rintro e w4 ⟨rfl, hb⟩
  have HB4 := Lib.hid (HB2.out.trans (hb.mono HB2.out.size))
  clear hb
  go_wp2_with fail
  refine (H2.out _).mono ?_
  rintro e w5 ⟨rfl, hb⟩
  have HB5 := Lib.hid (HB4.out.trans (hb.mono HB4.out.size))
  clear hb
  go_wp2_with fail
  refine (H3.out _).mono ?_
  rintro e w6 ⟨rfl, hb⟩
  have HB6 := Lib.hid (HB5.out.trans (hb.mono HB5.out.size))
  clear hb
  go_wp2_with fail
  refine (HS.out _).mono ?_
  rintro e w7 ⟨rfl, rfl⟩
  go_wp2_with fail
  refine (HVA.out _).mono ?_
  rintro e w8 ⟨rfl, hb⟩
  have HB8 := Lib.hid (HB6.out.trans (hb.mono HB6.out.size))
  clear hb
  go_wp2_with fail
  refine (HP.out _).mono ?_
  rintro e w9 ⟨rfl, rfl⟩
  go_wp2_with fail
  refine (HR.out _).mono ?_
  rintro e w10 ⟨rfl, rfl⟩
  go_wp2_with fail
  refine (HP2.out _).mono ?_
  rintro e w11 ⟨rfl, rfl⟩
  go_wp2_with fail
  refine (HSY.out _).mono ?_
  rintro e w12 ⟨rfl, rfl⟩
  go_wp2_with fail
  go_ret
  exact ⟨rfl, HB8.out⟩

set_option maxHeartbeats 8000000 in
set_option maxRecDepth 100000 in
theorem walk011 (x : Int) (y : Nat) (hy : secretB (y : Int) = true) (key : Int) (hx : secretB x = false) (hk : validB key = true) (w : World) (ht : TabD w) :
    Calls Tryd.prog 9 #[.int .i64 x, .int .i64 (y : Int), .int .i64 key] w fun e w' => e = .returned (.bool true) ∧ Below w.heap.size w w' := by
  have HAW := Lib.hid (awake_any w ht)
  have HV := Lib.hid (fun w => valid_yes key hk w)
  have HR := Lib.hid (fun w => refValid_yes key hk w)
  have H2 := Lib.hid (fun w => Key_yes y hy w)
  generalize powP 4 y = B at *
  have H1 := Lib.hid (fun w => Key_no x hx w)
  have H3 := Lib.hid (fun w => Shared_no x key hx w)
  have HS := Lib.hid (fun w => refSecret_no x hx w)
  clear hx hk hy
  clear ht
  go_enter Tryd.func9, Tryd.ntmps9
  go_wp2_with fail
  refine (HAW.out).mono ?_
  rintro e w1 ⟨rfl, hb⟩
  have HB1 := Lib.hid hb
  clear hb
  go_wp2_with fail
  refine (HV.out _).mono ?_
  rintro e w2 ⟨rfl, hb⟩
  have HB2 := Lib.hid (HB1.out.trans (hb.mono HB1.out.size))
  clear hb
  go_wp2_with fail
  refine (HR.out _).mono ?_
  rintro e w3 ⟨rfl, rfl⟩
  go_wp2_with fail
  refine (H1.out _).mono ?_
  rintro e w4 ⟨rfl, hb⟩
  have HB4 := Lib.hid (HB2.out.trans (hb.mono HB2.out.size))
  clear hb
  go_wp2_with fail
  refine (H2.out _).mono ?_
  rintro e w5 ⟨rfl, hb⟩
  have HB5 := Lib.hid (HB4.out.trans (hb.mono HB4.out.size))
  clear hb
  go_wp2_with fail
  refine (H3.out _).mono ?_
  rintro e w6 ⟨rfl, hb⟩
  have HB6 := Lib.hid (HB5.out.trans (hb.mono HB5.out.size))
  clear hb
  go_wp2_with fail
  refine (HS.out _).mono ?_
  rintro e w7 ⟨rfl, rfl⟩
  go_wp2_with fail
  go_ret
  exact ⟨rfl, HB6.out⟩

set_option maxHeartbeats 8000000 in
set_option maxRecDepth 100000 in
theorem walk111 (x : Nat) (y : Nat) (hy : secretB (y : Int) = true) (key : Nat) (hx : secretB (x : Int) = true) (hk : validB (key : Int) = true) (w : World) (ht : TabD w) :
    Calls Tryd.prog 9 #[.int .i64 (x : Int), .int .i64 (y : Int), .int .i64 (key : Int)] w fun e w' => e = .returned (.bool true) ∧ Below w.heap.size w w' := by
  have HAW := Lib.hid (awake_any w ht)
  have HV := Lib.hid (fun w => valid_yes (key : Int) hk w)
  have HR := Lib.hid (fun w => refValid_yes (key : Int) hk w)
  have H1 := Lib.hid (fun w => Key_yes x hx w)
  have HS := Lib.hid (fun w => refSecret_yes (x : Int) hx w)
  have bx := secretB_of hx
  have hva : validB ((powP 4 x : Nat) : Int) = true := key_valid x (by omega) (by show x < 1152921504606845789; omega)
  have HVA := Lib.hid (fun w => valid_yes ((powP 4 x : Nat) : Int) hva w)
  have HP := Lib.hid (fun w => refPower_any 4 x (by omega) (by omega) w)
  have h4 : ((4 : Nat) : Int) = 4 := rfl
  rw [h4] at HP
  have H3 := Lib.hid (fun w => Shared_yes x key hx hk w)
  have HP2 := Lib.hid (fun w => refPower_any key x (by have := unitB_nat (unitB_valid hk); omega) (by omega) w)
  have H2 := Lib.hid (fun w => Key_yes y hy w)
  have HSY := Lib.hid (fun w => refSecret_yes (y : Int) hy w)
  have bY := secretB_of hy
  have hvb : validB ((powP 4 y : Nat) : Int) = true := key_valid y (by omega) (by show y < 1152921504606845789; omega)
  have H4 := Lib.hid (fun w => Shared_yes x (powP 4 y) hx hvb w)
  have H5 := Lib.hid (fun w => Shared_yes y (powP 4 x) hy hva w)
  rw [pow_swap 4 y x] at H4
  generalize powP (powP 4 x) y = SH at *
  generalize powP 4 x = A at *
  generalize powP 4 y = B at *
  generalize powP key x = S at *
  clear hx hk hy bx bY hva hvb h4
  clear ht
  go_enter Tryd.func9, Tryd.ntmps9
  go_wp2_with fail
  refine (HAW.out).mono ?_
  rintro e w1 ⟨rfl, hb⟩
  have HB1 := Lib.hid hb
  clear hb
  go_wp2_with fail
  refine (HV.out _).mono ?_
  rintro e w2 ⟨rfl, hb⟩
  have HB2 := Lib.hid (HB1.out.trans (hb.mono HB1.out.size))
  clear hb
  go_wp2_with fail
  refine (HR.out _).mono ?_
  rintro e w3 ⟨rfl, rfl⟩
  go_wp2_with fail
  refine (H1.out _).mono ?_
  rintro e w4 ⟨rfl, hb⟩
  have HB4 := Lib.hid (HB2.out.trans (hb.mono HB2.out.size))
  clear hb
  go_wp2_with fail
  refine (H2.out _).mono ?_
  rintro e w5 ⟨rfl, hb⟩
  have HB5 := Lib.hid (HB4.out.trans (hb.mono HB4.out.size))
  clear hb
  go_wp2_with fail
  refine (H3.out _).mono ?_
  rintro e w6 ⟨rfl, hb⟩
  have HB6 := Lib.hid (HB5.out.trans (hb.mono HB5.out.size))
  clear hb
  go_wp2_with fail
  refine (HS.out _).mono ?_
  rintro e w7 ⟨rfl, rfl⟩
  go_wp2_with fail
  refine (HVA.out _).mono ?_
  rintro e w8 ⟨rfl, hb⟩
  have HB8 := Lib.hid (HB6.out.trans (hb.mono HB6.out.size))
  clear hb
  go_wp2_with fail
  refine (HP.out _).mono ?_
  rintro e w9 ⟨rfl, rfl⟩
  go_wp2_with fail
  refine (HR.out _).mono ?_
  rintro e w10 ⟨rfl, rfl⟩
  go_wp2_with fail
  refine (HP2.out _).mono ?_
  rintro e w11 ⟨rfl, rfl⟩
  go_wp2_with fail
  refine (HSY.out _).mono ?_
  rintro e w12 ⟨rfl, rfl⟩
  go_wp2_with fail
  refine (H4.out _).mono ?_
  rintro e w13 ⟨rfl, hb⟩
  have HB13 := Lib.hid (HB8.out.trans (hb.mono HB8.out.size))
  clear hb
  go_wp2_with fail
  refine (H5.out _).mono ?_
  rintro e w14 ⟨rfl, hb⟩
  have HB14 := Lib.hid (HB13.out.trans (hb.mono HB13.out.size))
  clear hb
  go_wp2_with fail
  go_ret
  exact ⟨rfl, HB14.out⟩

theorem walk (x y key : Int) (w : World) (ht : TabD w) :
    Calls Tryd.prog 9 #[.int .i64 x, .int .i64 y, .int .i64 key] w fun e w' => e = .returned (.bool true) ∧ Below w.heap.size w w' := by
  cases hx : secretB x <;> cases hk : validB key <;> cases hy : secretB y
  · exact walk000 x y hy key hx hk w ht
  · obtain ⟨y, rfl⟩ := Int.eq_ofNat_of_zero_le (show 0 ≤ y by have := secretB_of hy; omega)
    exact walk001 x y hy key hx hk w ht
  · exact walk010 x y hy key hx hk w ht
  · obtain ⟨y, rfl⟩ := Int.eq_ofNat_of_zero_le (show 0 ≤ y by have := secretB_of hy; omega)
    exact walk011 x y hy key hx hk w ht
  all_goals obtain ⟨x, rfl⟩ := Int.eq_ofNat_of_zero_le (show 0 ≤ x by have := secretB_of hx; omega)
  · exact walk100 x y hy key hx hk w ht
  · obtain ⟨y, rfl⟩ := Int.eq_ofNat_of_zero_le (show 0 ≤ y by have := secretB_of hy; omega)
    exact walk101 x y hy key hx hk w ht
  · obtain ⟨key, rfl⟩ := Int.eq_ofNat_of_zero_le (show 0 ≤ key by have := unitB_of (unitB_valid hk); omega)
    exact walk110 x y hy key hx hk w ht
  · obtain ⟨y, rfl⟩ := Int.eq_ofNat_of_zero_le (show 0 ≤ y by have := secretB_of hy; omega)
    obtain ⟨key, rfl⟩ := Int.eq_ofNat_of_zero_le (show 0 ≤ key by have := unitB_of (unitB_valid hk); omega)
    exact walk111 x y hy key hx hk w ht

set_option maxRecDepth 100000 in
theorem lifted (os : Os) (started : os.Started) (H : Type) (enc : TypeId × Value → H) :
    ReturnsInHanded {} Tryd.checked os 9 .any (fun w args => (Rows.digestKeysSpec.pre enc Tryd.prog Tryd.f9 [] false w args ∧ laidMetH Tryd.prog laid2 w) ∧ sizedMet enc Tryd.prog Tryd.f9 (OpenSpec.ofChange Rows.digestKeysSpec) false w args)
      (Rows.digestKeysSpec.post enc Tryd.prog Tryd.f9 false true false false) := by
  refine returnsInHanded_of_change_and (C := Tryd.checked) (X := fun w _ => laidMetH Tryd.prog laid2 w) (fun _ _ _ hh h => h.of_heap hh) own started (by kernel_rfl) Tryd.func9
    (ChangeSpec.witness_shaped (enc := enc) (C := Tryd.checked) (os := os) (X := fun w _ => laidMetH Tryd.prog laid2 w) false (World.doorLaid Tryd.prog 400 os) #[.int .i64 0, .int .i64 0, .int .i64 0] 8 rfl (World.shaped_of_RefB (by kernel_rfl) (by kernel_rfl)) (by kernel_rfl) (by kernel_rfl) (by kernel_rfl) (door_met os _)) ?_
  intro W base args ds gs before hval0 hW _ _ hL _
  have hval : ∀ (j : Nat) t v, Tryd.f9.params[j]? = some t → args[j]? = some v → Value.okWide Tryd.prog W .any base t v := hval0
  have hW' := hW
  obtain ⟨p, q, hA0, hV, rfl, hfz, hnd⟩ := hW
  have hA : DataW.TrodAll enc Tryd.prog W 0 (fun _ => true) true Tryd.f9.params.toList args.toList ds p := hA0
  rw [Tryd.params9] at hA hval
  obtain ⟨v0, vs0, d0, ds0, p0, q0, hargs, rfl, rfl, h0, r0⟩ := trodAll_cons hA
  obtain ⟨v1, vs1, d1, ds1, p1, q1, rfl, rfl, rfl, h1, r1⟩ := trodAll_cons r0
  obtain ⟨v2, vs2, d2, ds2, p2, q2, rfl, rfl, rfl, h2, r2⟩ := trodAll_cons r1
  obtain ⟨rfl, rfl, rfl⟩ := trodAll_nil r2
  obtain rfl : args = #[v0, v1, v2] := by cases args; simp_all
  obtain ⟨rfl, rfl⟩ := trodVars_none hV
  obtain ⟨a0, rfl, rfl, rfl, w0⟩ := open_int Tryd.underlying3 (hval 0 3 v0 rfl rfl) h0
  obtain ⟨a1, rfl, rfl, rfl, w1⟩ := open_int Tryd.underlying3 (hval 1 3 v1 rfl rfl) h1
  obtain ⟨a2, rfl, rfl, rfl, w2⟩ := open_int Tryd.underlying3 (hval 2 3 v2 rfl rfl) h2
  clear hA0 hval0
  have ht := of_laid hL
  refine (walk a0 a1 a2 W ht).mono fun e W' ⟨he, bel⟩ => ?_
  subst he
  exact ⟨_, rfl, _, _, _, [], _, [], hW', trodAll_mk1 (shut_bool Tryd.underlying4 _), (trodAll_cons_mk (shut_int Tryd.underlying3 w0) (trodAll_cons_mk (shut_int Tryd.underlying3 w1) (trodAll_cons_mk (shut_int Tryd.underlying3 w2) trodAll_mk0))), rfl, bel.frame _, fun h => by cases h⟩

theorem over : Rows.digestKeysRow.holds Tryd.pinned (OpenSpec.ofChange Rows.digestKeysSpec) :=
  OpenClaim.holds_of_wide 9 Tryd.f9 rfl rfl rfl rfl rfl rfl rfl ⟨rfl, rfl, rfl, rfl, rfl⟩ rfl rfl rfl rfl rfl (by kernel_rfl) Tryd.func9 (by kernel_rfl)
    (of_decide_eq_true (by kernel_rfl)) (by unfold Func.isWrapper; first | (rw [if_pos (by decide +kernel)]; kernel_rfl) | (rw [if_neg (by decide +kernel)]; exact ⟨rfl, rfl⟩))
    (fun os started H enc _ => lifted os started H enc)

theorem card_holds : Rows.DigestKeysCardSaid :=
  Claim7.holds_tied_plain_at .later [] [.data, .data] true (true, "8c260326cb8ce36d986a9977b984088357d89190d852a59f516cd170735cb484") false
    over (fun _ h => by cases h) (by kernel_rfl) (fun _ h => by cases h) digestKeys_row_tie rfl ⟨rfl, rfl⟩ (by kernel_rfl) rfl
    (fun f fn hf hfn => by
      obtain rfl : f = 9 := Option.some.inj ((show Tryd.prog.funcNamed "acheron/acheronlaw03.DigestKeys" = some 9 by kernel_rfl).symm.trans hf) |>.symm
      obtain rfl : fn = Tryd.f9 := (Option.some.inj (Tryd.func9.symm.trans hfn)).symm
      exact ⟨by kernel_rfl, fun j t ht => by
        rw [Tryd.params9] at ht
        have hm : t ∈ [3] := by have := Array.mem_of_getElem? ht; simp at this ⊢; omega
        have hall : ([3].all fun u => !Tryd.prog.wantsStandIn u) = true := by kernel_rfl
        exact (show Tryd.prog.wantsStandIn t = false by simpa using List.all_eq_true.1 hall t hm)⟩)
    (by kernel_rfl)
end Go.Proofs.YthhaofdnbemogaaDoor.digestKeys

