/-
  What the library's tables hold, as the row lays them.
-/
import Derived.Test.YtpgfogfejemojaaGreatDoorFx1
import GoSem.PinnedTables
set_option linter.unusedVariables false
namespace Go.Proofs.YtpgfogfejemojaaGreatDoor
open Go.RowKit

def hiT (j : Nat) : Nat := (Go.Pinned.pow10Rows[j]?.getD (0, 0)).1
def loT (j : Nat) : Nat := (Go.Pinned.pow10Rows[j]?.getD (0, 0)).2
def p10L : List Nat := [4607182418800017408, 4621819117588971520, 4636737291354636288, 4652007308841189376, 4666723172467343360, 4681608360884174848, 4696837146684686336, 4711630319722168320, 4726483295884279808, 4741671816366391296, 4756540486875873280, 4771362005757984768, 4786511204640096256, 4801453603149578240, 4816244402031689728, 4831355200913801216, 4846369599423283200, 4861130398305394688, 4876203697187506176, 4891288408196988160, 4906019910204099648, 4921056587992461136, 4936209963552724370]
def p10F (j : Nat) : Nat := p10L.getD j 0
structure TabN (w : World) : Prop where
  opt : w.cell? ⟨1, 0, none⟩ = some (.bool true)
  mb : w.cell? ⟨6, 0, none⟩ = some (.int .u64 52)
  pw : ∀ j : Nat, j < 20 → w.cell? ⟨4, j, none⟩ = some (.int .u64 ((10 ^ j : Nat) : Int))
  ti : Lib.TabIs Tryz.prog w "internal/strconv.uint64pow10" .u64 Lib.pow10Tab
  hi : ∀ j : Nat, j < 696 → w.cell? ⟨7, j * 2, none⟩ = some (.int .u64 (hiT j : Int))
  lo : ∀ j : Nat, j < 696 → w.cell? ⟨7, j * 2 + 1, none⟩ = some (.int .u64 (loT j : Int))
  fl : ∃ (a : Addr) (cap : Nat), w.cell? ⟨11, 0, none⟩ = some (.slice (some a) 23 cap) ∧ ∀ j : Nat, j < 23 → w.cell? (a.add j) = some (.float .f64 (p10F j))
  ml : ∃ m : Int, w.cell? ⟨16, 0, none⟩ = some (.int .i64 m)

theorem cell_keep {w w' : World} (hb : Below w.heap.size w w') {a : Addr} {v : Value} (h : w.cell? a = some v) : w'.cell? a = some v := by
  have hl := World.block_lt_of_cell? w a h
  rw [hb.cell (p := a) hl]; exact h
theorem tabIs_below {n : String} {k : IntKind} {zs : List Int} {w w' : World} (h : Lib.TabIs Tryz.prog w n k zs) (hb : Below w.heap.size w w') : Lib.TabIs Tryz.prog w' n k zs := by
  unfold Lib.TabIs World.var? at *
  cases hg : Tryz.prog.globalNamed n with
  | none => rw [hg] at h; cases h
  | some g =>
    rw [hg] at h
    simp only [Option.bind_some] at h ⊢
    rcases Nat.lt_or_ge g w.heap.size with hl | hl
    · rw [hb.block g hl]; exact h
    · rw [Array.getElem?_eq_none hl] at h; cases h
theorem TabN.below {w w' : World} (h : TabN w) (hb : Below w.heap.size w w') : TabN w' where
  opt := cell_keep hb h.opt
  mb := cell_keep hb h.mb
  pw := fun j hj => cell_keep hb (h.pw j hj)
  ti := tabIs_below h.ti hb
  hi := fun j hj => cell_keep hb (h.hi j hj)
  lo := fun j hj => cell_keep hb (h.lo j hj)
  fl := by obtain ⟨a, cap, h1, h2⟩ := h.fl; exact ⟨a, cap, cell_keep hb h1, fun j hj => cell_keep hb (h2 j hj)⟩
  ml := by obtain ⟨m, h1⟩ := h.ml; exact ⟨m, cell_keep hb h1⟩

theorem hiT_lt (j : Nat) (h : j < 696) : hiT j < 18446744073709551616 := by
  have all : ∀ k : Fin 696, hiT k.val < 18446744073709551616 := by decide +kernel
  exact all ⟨j, h⟩
theorem loT_lt (j : Nat) (h : j < 696) : loT j < 18446744073709551616 := by
  have all : ∀ k : Fin 696, loT k.val < 18446744073709551616 := by decide +kernel
  exact all ⟨j, h⟩

/-- A block of a scaler. -/
def ScAt (w : World) (g : Nat) (hi lo : Nat) (s : Int) : Prop := w.heap[g]? = some (.cells #[.int .u64 (hi : Int), .int .u64 (lo : Int), .int .i64 s] 162 (0, 0))
theorem ScAt.c0 {w : World} {g hi lo : Nat} {s : Int} (h : ScAt w g hi lo s) : w.cell? ⟨g, 0, none⟩ = some (.int .u64 (hi : Int)) := by rw [cell_of_row w g 0 _ _ _ h]; rfl
theorem ScAt.c1 {w : World} {g hi lo : Nat} {s : Int} (h : ScAt w g hi lo s) : w.cell? ⟨g, 1, none⟩ = some (.int .u64 (lo : Int)) := by rw [cell_of_row w g 1 _ _ _ h]; rfl
theorem ScAt.c2 {w : World} {g hi lo : Nat} {s : Int} (h : ScAt w g hi lo s) : w.cell? ⟨g, 2, none⟩ = some (.int .i64 s) := by rw [cell_of_row w g 2 _ _ _ h]; rfl
theorem ScAt.s0 {w : World} {g hi lo : Nat} {s : Int} (h : ScAt w g hi lo s) (v : Nat) : ScAt (w.setCell ⟨g, 0, none⟩ (.int .u64 (v : Int))) g v lo s := by
  unfold ScAt; rw [heap_setCell_same w g 0 _ _ _ h]; rfl
theorem ScAt.s1 {w : World} {g hi lo : Nat} {s : Int} (h : ScAt w g hi lo s) (v : Nat) : ScAt (w.setCell ⟨g, 1, none⟩ (.int .u64 (v : Int))) g hi v s := by
  unfold ScAt; rw [heap_setCell_same w g 1 _ _ _ h]; rfl
theorem ScAt.s2 {w : World} {g hi lo : Nat} {s : Int} (h : ScAt w g hi lo s) (v : Int) : ScAt (w.setCell ⟨g, 2, none⟩ (.int .i64 v)) g hi lo v := by
  unfold ScAt; rw [heap_setCell_same w g 2 _ _ _ h]; rfl

set_option maxRecDepth 100000 in
theorem prescale_any (g hi lo : Nat) (s e : Int) (p : Nat) (lp : Int) (hp : p < 696) (e0 : -10000 ≤ e) (e1 : e ≤ 10000) (l0 : -10000 ≤ lp) (l1 : lp ≤ 10000) (w : World) (ht : TabN w) (hs : ScAt w g hi lo s) (hg : 16 < g) :
    Calls Tryz.prog 162 #[.pointer (some ⟨g, 0, none⟩), .int .i64 e, .int .i64 ((p : Int) - 348), .int .i64 lp] w fun en w' => en = .returned (.tuple #[]) ∧ ScAt w' g (hiT p) (loT p) (-(e + lp + 3)) ∧ Below g w w' := by
  have q1 : ((p : Int) - 348 - (-348)).toNat = p := by omega
  have c0 := hs.c0
  have c1 := hs.c1
  have c2 := hs.c2
  have f0 := frozen_of_row w g 0 _ _ hs
  have f1 := frozen_of_row w g 1 _ _ hs
  have f2 := frozen_of_row w g 2 _ _ hs
  have t0 := ht.hi p hp
  have t1 := ht.lo p hp
  have n1 : ¬ (7 = g) := by omega
  have n2 : ¬ (g = 7) := by omega
  have HS := Lib.hid hs
  clear hs ht
  go_enter Tryz.func162, Tryz.ntmps162
  go_wp2
  go_end0
  exact ⟨rfl, ((HS.out.s0 _).s1 _).s2 _, (((Below.refl g w).setCell (p := ⟨g, 0, none⟩) (Nat.le_refl _) _).setCell (p := ⟨g, 1, none⟩) (Nat.le_refl _) _).setCell (p := ⟨g, 2, none⟩) (Nat.le_refl _) _⟩
end Go.Proofs.YtpgfogfejemojaaGreatDoor
