/-
  The law file's awake: true in every world.
-/
import Derived.Test.YtjpnkffdpcfnjaaDoorText
import Derived.Test.YtjpnkffdpcfnjaaDoorPlace
set_option linter.unusedVariables false
namespace Go.Proofs.YtjpnkffdpcfnjaaDoor
open Go.RowKit

theorem chars_decs (s : ByteArray) : Chars (decs s) := decF_mem s _ _

/-- A struct of two cells in block b. -/
def Two (w : World) (b : Nat) (x y : Value) : Prop := b < w.heap.size ∧ w.cell? ⟨b, 0, none⟩ = some x ∧ w.cell? ⟨b, 1, none⟩ = some y

theorem Two.below {w w' : World} {b : Nat} {x y : Value} (h : Two w b x y) (hb : Below w.heap.size w w') : Two w' b x y :=
  ⟨Nat.lt_of_lt_of_le h.1 hb.size, (hb.cell (p := ⟨b, 0, none⟩) h.1).trans h.2.1, (hb.cell (p := ⟨b, 1, none⟩) h.1).trans h.2.2⟩

theorem two_alloc (w : World) (x y : Value) (T : TypeId) : Two (w.alloc (.cells #[x, y] T)) w.heap.size x y :=
  ⟨by simp, by rw [World.cell?_alloc_at _ _ _ _ rfl]; rfl, by rw [World.cell?_alloc_at _ _ _ _ rfl]; rfl⟩

theorem below_alloc {w0 w w' : World} {o : Obj} (h : Below w0.heap.size w0 w) (hb : Below (w.alloc o).heap.size (w.alloc o) w') : Below w0.heap.size w0 w' :=
  (h.alloc h.size o).trans (hb.mono (by have := h.size; simp; omega))

set_option maxHeartbeats 1000000 in
theorem awake_any (w : World) :
    Calls Tryd.prog 6 #[] w fun e w' => e = .returned (.bool true) ∧ Below w.heap.size w w' := by
  have hd : decs ⟨#[97, 255, 195, 169]⟩ = [97, 65533, 233] := by decide +kernel
  have hl3 : ([97, 65533, 233] : List Nat).length ≤ 1000000000 := by decide
  have hch : Chars [97, 65533, 233] := by rw [← hd]; exact chars_decs _
  have hOf := Of_ok ⟨#[97, 255, 195, 169]⟩ w (by decide) (by rw [hd]; decide)
  rw [hd] at hOf
  have hLen := len_any [97, 65533, 233] hl3
  have hWide := charW_any [97, 65533, 233]
  have hText := text_any [97, 65533, 233] hl3 hch
  have hAt := at_ok [97, 65533, 233] 1 (by decide) hl3 hch
  have hPl := place_ok ⟨#[97, 98, 10, 99, 100]⟩ (by decide) 4 (by decide)
  have hts : (⟨(textOf [97, 65533, 233]).toArray⟩ : ByteArray).size = 6 := by decide +kernel
  have hw : wideL [97, 65533, 233] = true := rfl
  have hln : lineN ⟨#[97, 98, 10, 99, 100]⟩ 4 = 2 := by decide +kernel
  have hcn : colN ⟨#[97, 98, 10, 99, 100]⟩ 4 = 2 := by decide +kernel
  rw [hln, hcn] at hPl
  unfold strV at hOf hLen hWide hText hAt
  rw [hw] at hOf hLen hWide hText hAt
  rw [show (([97, 65533, 233] : List Nat).length : Int) = 3 from rfl] at hLen
  rw [show ((([97, 65533, 233] : List Nat)[1]'(by decide) : Nat) : Int) = 65533 from rfl, show ((1 : Nat) : Int) = 1 from rfl] at hAt
  rw [show ((4 : Nat) : Int) = 4 from rfl, show ((2 : Nat) : Int) = 2 from rfl] at hPl
  generalize pk [97, 65533, 233] = d at hOf hLen hWide hText hAt
  generalize (⟨(textOf [97, 65533, 233]).toArray⟩ : ByteArray) = t at hText hts
  have HOF := Lib.hid hOf
  have HLEN := Lib.hid hLen
  have HW := Lib.hid hWide
  have HT := Lib.hid hText
  have HA := Lib.hid hAt
  have HP := Lib.hid hPl
  have hts' : (t.size : Int) = 6 := by rw [hts]; rfl
  clear hOf hLen hWide hText hAt hPl hd hw hln hcn hch hl3 hts
  have HS := Lib.hid hts'
  clear hts'
  go_enter Tryd.func6, Tryd.ntmps6
  go_wp2_with fail
  refine HOF.out.mono ?_
  rintro e w1 ⟨rfl, hb1⟩
  go_wp2_with fail
  refine (HLEN.out _).mono ?_
  rintro e w2 ⟨rfl, hb2⟩
  have T2 := (two_alloc w1 (.string d) (.bool true) 24).below hb2
  have B2 := below_alloc hb1 hb2
  have H2 := Lib.hid T2
  obtain ⟨_, c0, c1⟩ := T2
  clear hb2 hb1
  go_wp2_with fail
  refine (HW.out _).mono ?_
  rintro e w3 ⟨rfl, hb3⟩
  clear c0 c1
  have T3 := H2.out.below hb3
  have B3 := below_from B2 hb3 (Nat.le_refl _)
  have H3 := Lib.hid T3
  obtain ⟨_, c0, c1⟩ := T3
  clear hb3 B2 H2
  go_wp2_with fail
  refine (HT.out _).mono ?_
  rintro e w4 ⟨rfl, hb4⟩
  clear c0 c1
  have T4 := H3.out.below hb4
  have B4 := below_from B3 hb4 (Nat.le_refl _)
  obtain ⟨_, c0, c1⟩ := T4
  have h6 := HS.out
  clear hb4 B3 H3
  go_wp2_with fail
  refine (HA.out _).mono ?_
  rintro e w5 ⟨rfl, hb5⟩
  clear c0 c1
  have B5 := below_from B4 hb5 (Nat.le_refl _)
  clear hb5 B4 h6
  go_wp2_with fail
  refine (HP.out _).mono ?_
  rintro e w6 ⟨rfl, hb6⟩
  have B6 := below_from B5 hb6 (Nat.le_refl _)
  clear hb6 B5
  go_wp2
  go_ret
  exact ⟨rfl, B6⟩
end Go.Proofs.YtjpnkffdpcfnjaaDoor
