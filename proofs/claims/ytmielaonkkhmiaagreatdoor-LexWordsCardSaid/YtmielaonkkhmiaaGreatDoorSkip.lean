/-
  lex: scanner.skip where no comment stands, and where one stands.
-/
import Derived.Test.YtmielaonkkhmiaaGreatDoorSc
set_option linter.unusedVariables false
namespace Go.Proofs.YtmielaonkkhmiaaGreatDoor
open Go.RowKit

/-- The text ends at the place p, or another byte than '#' stands there. -/
def NoSharp (T : ByteArray) (p : Nat) : Prop := p = T.size ∨ ∃ h : p < T.size, (T[p]'h).toNat ≠ 35
theorem run_index_at (T : ByteArray) (p : Nat) (h : p < T.size) (w : World) :
    (Instr.index 9 (.string T) (.int .i64 (p : Int))).run Tryz.prog w = .ok (.int .u8 ((T[p]'h).toNat : Int)) w := by
  rw [run_index_string w 9 T .i64 p Tryz.underlying9, dif_pos ⟨by omega, by omega⟩]
  rfl
set_option maxRecDepth 100000 in
set_option maxHeartbeats 1000000 in
theorem skip_plain (b : Nat) (T : ByteArray) (a : Nat) (tk : Value) (S : ByteArray) (n : Nat) (w : World) (h : ScAt b T a tk w) (ha : a ≤ T.size) (hT : T.size < 1000000) (hS : T.extract a T.size = S) (hn : Runs S isBl n) (hns : NoSharp T (a + n)) :
    Calls Tryz.prog 46 #[.pointer (some ⟨b, 0, none⟩)] w fun e w' => e = .returned (.tuple #[]) ∧ ScAt b T ((a + n : Nat) : Int) tk w' ∧ Kp b w w' := by
  have HW := Lib.hid (while_bl b T a tk S n w h ha hT hS hn)
  have HNS := Lib.hid hns
  clear h hn hS hns
  obtain ⟨p, hp⟩ : ∃ p : Nat, a + n = p := ⟨_, rfl⟩
  rw [hp] at HW HNS ⊢
  clear hp
  go_enter Tryz.func46, Tryz.ntmps46
  go_wp2_with fail
  refine HW.out.mono ?_
  rintro e w1 ⟨rfl, hs, hk⟩
  have HS1 := Lib.hid hs
  have HK1 := Lib.hid hk
  have hc0 := hs.c0
  have hc1 := hs.c1
  clear hs hk
  have HE := Lib.hid (fun w h => atEnd_any b T p tk w h)
  go_wp2
  refine wp_loop_rounds 1 ?_
  rw [rounds_succ]
  go_wp2
  rcases HNS.out with hend | ⟨hlt, hne⟩
  · have he : ((p : Int) == (T.size : Int)) = true := by rw [hend]; simp
    rw [he] at HE
    clear he
    go_quiet ((go_at_call 47; exact Calls.quiet_of (HE.out _ (HS1.out.drewN _))))
    go_wp2
    go_end0
    exact ⟨rfl, HS1.out.drewN _, HK1.out.drewN _⟩
  · have he : ((p : Int) == (T.size : Int)) = false := by rw [beq_eq_false_iff_ne]; omega
    rw [he] at HE
    clear he
    have hix := fun w => run_index_at T p hlt w
    have hne2 : (((T[p]'hlt).toNat : Int) == 35) = false := by rw [beq_eq_false_iff_ne]; omega
    generalize ((T[p]'hlt).toNat : Int) = c at *
    go_quiet ((go_at_call 47; exact Calls.quiet_of (HE.out _ (HS1.out.drewN _))))
    go_wp2
    go_end0
    exact ⟨rfl, HS1.out.drewN _, HK1.out.drewN _⟩
set_option maxRecDepth 100000 in
set_option maxHeartbeats 1000000 in
theorem skip_sharp (b : Nat) (T : ByteArray) (a p q r : Nat) (tk : Value) (S S2 S3 : ByteArray) (n n2 n3 : Nat) (w : World) (h : ScAt b T a tk w) (ha : a ≤ T.size) (hT : T.size < 1000000) (hS : T.extract a T.size = S) (hn : Runs S isBl n) (hp : a + n = p)
    (hlt : p < T.size) (hs : (T[p]'hlt).toNat = 35) (hS2 : T.extract p T.size = S2) (hn2 : Runs S2 isIl n2) (hq : p + n2 = q) (hq2 : q ≤ T.size) (hS3 : T.extract q T.size = S3) (hn3 : Runs S3 isBl n3) (hr : q + n3 = r) (hns : NoSharp T r) :
    Calls Tryz.prog 46 #[.pointer (some ⟨b, 0, none⟩)] w fun e w' => e = .returned (.tuple #[]) ∧ ScAt b T (r : Int) tk w' ∧ Kp b w w' := by
  have HW := Lib.hid (while_bl b T a tk S n w h ha hT hS hn)
  have HW2 := Lib.hid (fun w h => while_il b T p tk S2 n2 w h (Nat.le_of_lt hlt) hT hS2 hn2)
  have HW3 := Lib.hid (fun w h => while_bl b T q tk S3 n3 w h hq2 hT hS3 hn3)
  rw [hp] at HW
  rw [hq] at HW2
  rw [hr] at HW3
  have HNS := Lib.hid hns
  have he : ((p : Int) == (T.size : Int)) = false := by rw [beq_eq_false_iff_ne]; omega
  have HE := Lib.hid (fun w h => atEnd_any b T p tk w h)
  rw [he] at HE
  have HE2 := Lib.hid (fun w h => atEnd_any b T r tk w h)
  have hix := fun w => run_index_at T p hlt w
  rw [hs] at hix
  clear h hn hS hns hS2 hn2 hS3 hn3 hp hq hr hs he
  go_enter Tryz.func46, Tryz.ntmps46
  go_wp2_with fail
  refine HW.out.mono ?_
  rintro e w1 ⟨rfl, hs, hk⟩
  have HS1 := Lib.hid hs
  have HK1 := Lib.hid hk
  have hc0 := hs.c0
  have hc1 := hs.c1
  clear hs hk
  go_wp2
  refine wp_loop_rounds 2 ?_
  rw [rounds_succ]
  go_wp2
  go_quiet ((go_at_call 47; exact Calls.quiet_of (HE.out _ (HS1.out.drewN _))))
  clear hc0 hc1 hix
  have HS1 := Lib.hid (HS1.out.drewN nq)
  have HK1 := Lib.hid (HK1.out.drewN nq)
  generalize w1.drewN nq = w2 at *
  go_wp2_with fail
  refine (HW2.out _ HS1.out).mono ?_
  rintro e w3 ⟨rfl, hs, hk⟩
  have HS3 := Lib.hid hs
  have HK3 := Lib.hid (HK1.out.trans hk)
  clear hs hk
  go_wp2_with fail
  refine (HW3.out _ HS3.out).mono ?_
  rintro e w4 ⟨rfl, hs, hk⟩
  have HS4 := Lib.hid hs
  have HK4 := Lib.hid (HK3.out.trans hk)
  have hc0 := hs.c0
  have hc1 := hs.c1
  clear hs hk
  go_wp2
  rw [rounds_succ]
  go_wp2
  rcases HNS.out with hend | ⟨hlt2, hne⟩
  · have he : ((r : Int) == (T.size : Int)) = true := by rw [hend]; simp
    rw [he] at HE2
    clear he
    go_quiet ((go_at_call 47; exact Calls.quiet_of (HE2.out _ (HS4.out.drewN _))))
    go_wp2
    go_end0
    exact ⟨rfl, HS4.out.drewN _, HK4.out.drewN _⟩
  · have he : ((r : Int) == (T.size : Int)) = false := by rw [beq_eq_false_iff_ne]; omega
    rw [he] at HE2
    clear he
    have hix := fun w => run_index_at T r hlt2 w
    have hne2 : (((T[r]'hlt2).toNat : Int) == 35) = false := by rw [beq_eq_false_iff_ne]; omega
    generalize ((T[r]'hlt2).toNat : Int) = c at *
    go_quiet ((go_at_call 47; exact Calls.quiet_of (HE2.out _ (HS4.out.drewN _))))
    go_wp2
    go_end0
    exact ⟨rfl, HS4.out.drewN _, HK4.out.drewN _⟩
end Go.Proofs.YtmielaonkkhmiaaGreatDoor
