/-
  digest.Hash: Sum; digest.Sum.
-/
import Derived.Test.YthhaofdnbemogaaDoorByte
import Derived.Deep.RegionHeld3
import Derived.Deep.DeepCutAuto
set_option linter.unusedVariables false
namespace Go.Proofs.YthhaofdnbemogaaDoor
open Go.RowKit

def zerosN (n : Nat) : Nat := (119 - n % 64) % 64
/-- What stands behind a message of n bytes. -/
def padL (n : Nat) : List UInt8 := (128 :: List.replicate (zerosN n) 0) ++ beL 8 ((n : Int) * 8)

/-- The world is as it was below block h, which holds a hash. -/
structure Kept (h : Nat) (A : List Int) (r : ByteArray) (n : Int) (w w' : World) : Prop where
  below : Below h w w'
  hash : HashAt w' h A r n
theorem Kept.tab {h : Nat} {A : List Int} {r : ByteArray} {n : Int} {w w' : World} (k : Kept h A r n w w') (ht : TabD w) (hh : 1 < h) : TabD w' := ht.below k.below hh
theorem Kept.drew {h : Nat} {A : List Int} {r : ByteArray} {n : Int} {w w' : World} (k : Kept h A r n w w') : Kept h A r n w w'.drew := ⟨k.below.drew, k.hash⟩
theorem Kept.call {h : Nat} {a b c d e f g i : Int} {r : ByteArray} {n : Int} {w w' : World} (k : Kept h [a, b, c, d, e, f, g, i] r n w w') {F : FuncId} {args : Array Value} {v : Value} (hc : Calls Tryd.prog F args w' fun en w'' => en = .returned v ∧ Below w'.heap.size w' w'') :
    Calls Tryd.prog F args w' fun en w'' => en = .returned v ∧ Kept h [a, b, c, d, e, f, g, i] r n w w'' ∧ w''.cell? ⟨h, 0, none⟩ = some (.int .u32 a) ∧ w''.cell? ⟨h, 1, none⟩ = some (.int .u32 b) ∧ w''.cell? ⟨h, 2, none⟩ = some (.int .u32 c) ∧ w''.cell? ⟨h, 3, none⟩ = some (.int .u32 d) ∧ w''.cell? ⟨h, 4, none⟩ = some (.int .u32 e) ∧ w''.cell? ⟨h, 5, none⟩ = some (.int .u32 f) ∧ w''.cell? ⟨h, 6, none⟩ = some (.int .u32 g) ∧ w''.cell? ⟨h, 7, none⟩ = some (.int .u32 i) ∧ w''.cell? ⟨h, 8, none⟩ = some (.string r) ∧ w''.cell? ⟨h, 9, none⟩ = some (.int .i64 n) ∧ w''.frozen? ⟨h, 0, none⟩ = false ∧ w''.frozen? ⟨h, 1, none⟩ = false ∧ w''.frozen? ⟨h, 2, none⟩ = false ∧ w''.frozen? ⟨h, 3, none⟩ = false ∧ w''.frozen? ⟨h, 4, none⟩ = false ∧ w''.frozen? ⟨h, 5, none⟩ = false ∧ w''.frozen? ⟨h, 6, none⟩ = false ∧ w''.frozen? ⟨h, 7, none⟩ = false ∧ w''.frozen? ⟨h, 8, none⟩ = false ∧ w''.frozen? ⟨h, 9, none⟩ = false :=
  hc.mono fun en w'' ⟨he, hb⟩ => by
    have hh : HashAt w'' h [a, b, c, d, e, f, g, i] r n := by unfold HashAt; rw [hb.block h k.hash.lt]; exact k.hash
    exact ⟨he, ⟨k.below.trans (hb.mono (Nat.le_of_lt k.hash.lt)), hh⟩, hh.cell (j := 0) (by show _ < 8; omega), hh.cell (j := 1) (by show _ < 8; omega), hh.cell (j := 2) (by show _ < 8; omega), hh.cell (j := 3) (by show _ < 8; omega), hh.cell (j := 4) (by show _ < 8; omega), hh.cell (j := 5) (by show _ < 8; omega), hh.cell (j := 6) (by show _ < 8; omega), hh.cell (j := 7) (by show _ < 8; omega), hh.rest rfl, hh.size rfl, hh.frozen 0, hh.frozen 1, hh.frozen 2, hh.frozen 3, hh.frozen 4, hh.frozen 5, hh.frozen 6, hh.frozen 7, hh.frozen 8, hh.frozen 9⟩

theorem set0 {w : World} {h : Nat} {T : TypeId} {x0 x1 x2 x3 x4 x5 x6 x7 x8 x9 v : Value} (e : w.heap[h]? = some (.cells #[x0, x1, x2, x3, x4, x5, x6, x7, x8, x9] T (0, 0))) : (w.setCell ⟨h, 0, none⟩ v).heap[h]? = some (.cells #[v, x1, x2, x3, x4, x5, x6, x7, x8, x9] T (0, 0)) := by
  have := heap_setCell_same w h 0 _ _ v e
  simpa only [List.setIfInBounds_toArray, List.set_cons_zero, List.set_cons_succ] using this
theorem set1 {w : World} {h : Nat} {T : TypeId} {x0 x1 x2 x3 x4 x5 x6 x7 x8 x9 v : Value} (e : w.heap[h]? = some (.cells #[x0, x1, x2, x3, x4, x5, x6, x7, x8, x9] T (0, 0))) : (w.setCell ⟨h, 1, none⟩ v).heap[h]? = some (.cells #[x0, v, x2, x3, x4, x5, x6, x7, x8, x9] T (0, 0)) := by
  have := heap_setCell_same w h 1 _ _ v e
  simpa only [List.setIfInBounds_toArray, List.set_cons_zero, List.set_cons_succ] using this
theorem set2 {w : World} {h : Nat} {T : TypeId} {x0 x1 x2 x3 x4 x5 x6 x7 x8 x9 v : Value} (e : w.heap[h]? = some (.cells #[x0, x1, x2, x3, x4, x5, x6, x7, x8, x9] T (0, 0))) : (w.setCell ⟨h, 2, none⟩ v).heap[h]? = some (.cells #[x0, x1, v, x3, x4, x5, x6, x7, x8, x9] T (0, 0)) := by
  have := heap_setCell_same w h 2 _ _ v e
  simpa only [List.setIfInBounds_toArray, List.set_cons_zero, List.set_cons_succ] using this
theorem set3 {w : World} {h : Nat} {T : TypeId} {x0 x1 x2 x3 x4 x5 x6 x7 x8 x9 v : Value} (e : w.heap[h]? = some (.cells #[x0, x1, x2, x3, x4, x5, x6, x7, x8, x9] T (0, 0))) : (w.setCell ⟨h, 3, none⟩ v).heap[h]? = some (.cells #[x0, x1, x2, v, x4, x5, x6, x7, x8, x9] T (0, 0)) := by
  have := heap_setCell_same w h 3 _ _ v e
  simpa only [List.setIfInBounds_toArray, List.set_cons_zero, List.set_cons_succ] using this
theorem set4 {w : World} {h : Nat} {T : TypeId} {x0 x1 x2 x3 x4 x5 x6 x7 x8 x9 v : Value} (e : w.heap[h]? = some (.cells #[x0, x1, x2, x3, x4, x5, x6, x7, x8, x9] T (0, 0))) : (w.setCell ⟨h, 4, none⟩ v).heap[h]? = some (.cells #[x0, x1, x2, x3, v, x5, x6, x7, x8, x9] T (0, 0)) := by
  have := heap_setCell_same w h 4 _ _ v e
  simpa only [List.setIfInBounds_toArray, List.set_cons_zero, List.set_cons_succ] using this
theorem set5 {w : World} {h : Nat} {T : TypeId} {x0 x1 x2 x3 x4 x5 x6 x7 x8 x9 v : Value} (e : w.heap[h]? = some (.cells #[x0, x1, x2, x3, x4, x5, x6, x7, x8, x9] T (0, 0))) : (w.setCell ⟨h, 5, none⟩ v).heap[h]? = some (.cells #[x0, x1, x2, x3, x4, v, x6, x7, x8, x9] T (0, 0)) := by
  have := heap_setCell_same w h 5 _ _ v e
  simpa only [List.setIfInBounds_toArray, List.set_cons_zero, List.set_cons_succ] using this
theorem set6 {w : World} {h : Nat} {T : TypeId} {x0 x1 x2 x3 x4 x5 x6 x7 x8 x9 v : Value} (e : w.heap[h]? = some (.cells #[x0, x1, x2, x3, x4, x5, x6, x7, x8, x9] T (0, 0))) : (w.setCell ⟨h, 6, none⟩ v).heap[h]? = some (.cells #[x0, x1, x2, x3, x4, x5, v, x7, x8, x9] T (0, 0)) := by
  have := heap_setCell_same w h 6 _ _ v e
  simpa only [List.setIfInBounds_toArray, List.set_cons_zero, List.set_cons_succ] using this
theorem set7 {w : World} {h : Nat} {T : TypeId} {x0 x1 x2 x3 x4 x5 x6 x7 x8 x9 v : Value} (e : w.heap[h]? = some (.cells #[x0, x1, x2, x3, x4, x5, x6, x7, x8, x9] T (0, 0))) : (w.setCell ⟨h, 7, none⟩ v).heap[h]? = some (.cells #[x0, x1, x2, x3, x4, x5, x6, v, x8, x9] T (0, 0)) := by
  have := heap_setCell_same w h 7 _ _ v e
  simpa only [List.setIfInBounds_toArray, List.set_cons_zero, List.set_cons_succ] using this
theorem set8 {w : World} {h : Nat} {T : TypeId} {x0 x1 x2 x3 x4 x5 x6 x7 x8 x9 v : Value} (e : w.heap[h]? = some (.cells #[x0, x1, x2, x3, x4, x5, x6, x7, x8, x9] T (0, 0))) : (w.setCell ⟨h, 8, none⟩ v).heap[h]? = some (.cells #[x0, x1, x2, x3, x4, x5, x6, x7, v, x9] T (0, 0)) := by
  have := heap_setCell_same w h 8 _ _ v e
  simpa only [List.setIfInBounds_toArray, List.set_cons_zero, List.set_cons_succ] using this
theorem set9 {w : World} {h : Nat} {T : TypeId} {x0 x1 x2 x3 x4 x5 x6 x7 x8 x9 v : Value} (e : w.heap[h]? = some (.cells #[x0, x1, x2, x3, x4, x5, x6, x7, x8, x9] T (0, 0))) : (w.setCell ⟨h, 9, none⟩ v).heap[h]? = some (.cells #[x0, x1, x2, x3, x4, x5, x6, x7, x8, v] T (0, 0)) := by
  have := heap_setCell_same w h 9 _ _ v e
  simpa only [List.setIfInBounds_toArray, List.set_cons_zero, List.set_cons_succ] using this
/-- Ten stores make a hash. -/
theorem HashAt.ten {h : Nat} {w' : World} {cs : Array Value} (h1 : cs.size = 10) (h2 : w'.heap[h]? = some (.cells cs 27 (0, 0))) (a b c d e f g i n : Int) (r : ByteArray) :
    HashAt ((((((((((w'.setCell ⟨h, 0, none⟩ (.int .u32 a)).setCell ⟨h, 1, none⟩ (.int .u32 b)).setCell ⟨h, 2, none⟩ (.int .u32 c)).setCell ⟨h, 3, none⟩ (.int .u32 d)).setCell ⟨h, 4, none⟩ (.int .u32 e)).setCell ⟨h, 5, none⟩ (.int .u32 f)).setCell ⟨h, 6, none⟩ (.int .u32 g)).setCell ⟨h, 7, none⟩ (.int .u32 i)).setCell ⟨h, 8, none⟩ (.string r)).setCell ⟨h, 9, none⟩ (.int .i64 n)) h [a, b, c, d, e, f, g, i] r n := by
  unfold HashAt
  obtain ⟨l⟩ := cs
  match l, h1, h2 with
  | [x0, x1, x2, x3, x4, x5, x6, x7, x8, x9], _, h2 =>
    exact set9 (set8 (set7 (set6 (set5 (set4 (set3 (set2 (set1 (set0 h2)))))))))

theorem Kept.ten {h : Nat} {a b c d e f g i : Int} {r : ByteArray} {n : Int} {w w' : World} (k : Kept h [a, b, c, d, e, f, g, i] r n w w') (a' b' c' d' e' f' g' i' m : Int) (R : ByteArray) :
    HashAt ((((((((((w'.setCell ⟨h, 0, none⟩ (.int .u32 a')).setCell ⟨h, 1, none⟩ (.int .u32 b')).setCell ⟨h, 2, none⟩ (.int .u32 c')).setCell ⟨h, 3, none⟩ (.int .u32 d')).setCell ⟨h, 4, none⟩ (.int .u32 e')).setCell ⟨h, 5, none⟩ (.int .u32 f')).setCell ⟨h, 6, none⟩ (.int .u32 g')).setCell ⟨h, 7, none⟩ (.int .u32 i')).setCell ⟨h, 8, none⟩ (.string R)).setCell ⟨h, 9, none⟩ (.int .i64 m)) h [a', b', c', d', e', f', g', i'] R m ∧ Below h w ((((((((((w'.setCell ⟨h, 0, none⟩ (.int .u32 a')).setCell ⟨h, 1, none⟩ (.int .u32 b')).setCell ⟨h, 2, none⟩ (.int .u32 c')).setCell ⟨h, 3, none⟩ (.int .u32 d')).setCell ⟨h, 4, none⟩ (.int .u32 e')).setCell ⟨h, 5, none⟩ (.int .u32 f')).setCell ⟨h, 6, none⟩ (.int .u32 g')).setCell ⟨h, 7, none⟩ (.int .u32 i')).setCell ⟨h, 8, none⟩ (.string R)).setCell ⟨h, 9, none⟩ (.int .i64 m)) := by
  have hb : w'.heap[h]? = some (.cells (hashV [a, b, c, d, e, f, g, i] r n) 27 (0, 0)) := k.hash
  refine ⟨HashAt.ten (cs := hashV [a, b, c, d, e, f, g, i] r n) rfl hb a' b' c' d' e' f' g' i' m R, ?_⟩
  have l : ∀ j : Nat, h ≤ (⟨h, j, none⟩ : Addr).block := fun _ => Nat.le_refl _
  exact (((((((((k.below.setCell (l 0) _).setCell (l 1) _).setCell (l 2) _).setCell (l 3) _).setCell (l 4) _).setCell (l 5) _).setCell (l 6) _).setCell (l 7) _).setCell (l 8) _).setCell (l 9) _

theorem repeat0 (z : Nat) (hz : z ≤ 1000) (w : World) : Calls Tryd.prog 47 #[.string ⟨#[0]⟩, .int .i64 (z : Int)] w fun e w' => e = .returned (.string (strL (List.replicate z 0))) ∧ Below w.heap.size w w' := by
  have h : Lib.repeatL (⟨#[0]⟩ : ByteArray).data.toList z = List.replicate z (0 : UInt8) := by
    clear hz
    induction z with
    | zero => rfl
    | succ z ih => rw [Lib.repeatL, ih]; rfl
  have := Tryd.strings_Repeat ⟨#[0]⟩ z w (by omega) (by show 1 * z ≤ _; omega)
  rw [h] at this
  exact this

theorem news4 (W : World) (x : Int) (T : TypeId) : ∀ j u, (u8s (beL 4 x))[j]? = some u → (W.alloc (.cells #[.int .u8 (x / 16777216 % 256), .int .u8 (x / 65536 % 256), .int .u8 (x / 256 % 256), .int .u8 (x % 256)] T)).cell? ((⟨W.heap.size, 0, none⟩ : Addr).add j) = some u := by
  intro j u hu
  have e : u8s (beL 4 x) = [.int .u8 (x / 16777216 % 256), .int .u8 (x / 65536 % 256), .int .u8 (x / 256 % 256), .int .u8 (x % 256)] := by
    simp [u8s, beL, List.range, List.range.loop, byI_val]
  rw [e] at hu
  rw [addr_at, World.cell?_alloc_at _ _ _ _ rfl]
  simpa using hu
/-- The bytes of the first k words. -/
def outK (V : List Int) (k : Nat) : List UInt8 := ((V.take k).map (beL 4)).flatten
theorem outK_len (V : List Int) (k : Nat) (h : k ≤ V.length) : (outK V k).length = 4 * k := by
  have : ∀ L : List Int, ((L.map (beL 4)).flatten).length = 4 * L.length := by
    intro L
    induction L with
    | nil => rfl
    | cons x L ih => simp only [List.map_cons, List.flatten_cons, List.length_append, ih, beL_len, List.length_cons]; omega
  rw [outK, this, List.length_take, Nat.min_eq_left h]
theorem outK_step (V : List Int) (k : Nat) (h : k < V.length) : outK V (k + 1) = outK V k ++ beL 4 (wd V k) := by
  rw [outK, List.take_succ_eq_append_getElem h, List.map_append, List.flatten_append, outK]
  simp [wd, List.getD_eq_getElem?_getD, List.getElem?_eq_getElem h]

/-- The digest that a state gives. -/
def outL (A : List Int) : List UInt8 := outK (addL A sqL) 8

def OutRel (w : World) (V : List Int) (v i : Value) (wr : World) : Prop :=
  ∃ k : Nat, k ≤ 8 ∧ i = .int .i64 (k : Int) ∧ wr.ownsRow w.heap.size 5 1 v (4 * k) (u8s (outK V k)) ∧ Below w.heap.size w wr

set_option maxHeartbeats 4000000 in
set_option maxRecDepth 100000 in
theorem hsum_any (A : List Int) (r : ByteArray) (n : Nat) (hA : A.length = 8) (h1 : n ≤ 100000000000) (hr : r.size = n % 64) (w : World) (ht : TabD w) :
    Calls Tryd.prog 13 #[.agg (hashV A r (n : Int))] w fun e w' => e = .returned (.string (strL (outL (absorb A (r.data.toList ++ padL n))))) ∧ Below w.heap.size w w' := by
  have HA := Lib.hid hA
  have HT := Lib.hid ht
  have HR := Lib.hid hr
  obtain ⟨z, hz⟩ : ∃ z : Nat, (119 - (n : Int) % 64) % 64 = (z : Int) := ⟨zerosN n, by unfold zerosN; omega⟩
  have hz63 : z ≤ 63 := by omega
  have hw1 : IntKind.u64.wrap (n : Int) = (n : Int) := by rw [IntKind.wrap_u64]; omega
  have hw2 : IntKind.u64.wrap ((n : Int) * 8) = (n : Int) * 8 := by rw [IntKind.wrap_u64]; omega
  obtain ⟨p, hp⟩ : ∃ p, p = strL (List.replicate z 0) := ⟨_, rfl⟩
  obtain ⟨q, hq⟩ : ∃ q, q = strL (beL 8 ((n : Int) * 8)) := ⟨_, rfl⟩
  have hps : p.size = z := by rw [hp]; show (List.replicate z (0 : UInt8)).toArray.size = z; simp
  have hqs : q.size = 8 := by rw [hq]; show (beL 8 _).toArray.size = 8; simp [beL_len]
  have HREP := Lib.hid (fun w => repeat0 z (by omega) w)
  have HWD := Lib.hid (fun w => word_any ((n : Int) * 8) (by omega) (by omega) w)
  rw [← hp] at HREP
  rw [← hq] at HWD
  obtain ⟨m, hm⟩ : ∃ m : Nat, (n : Int) + (1 + (p.size : Int) + (q.size : Int)) = (m : Int) := ⟨n + (1 + p.size + q.size), by omega⟩
  have HMM := Lib.hid hm
  clear hm
  have hb1 : p.size ≤ 63 := by omega
  have hb2 : q.size ≤ 8 := by omega
  have HPS := Lib.hid hps
  have HQS := Lib.hid hqs
  have HP := Lib.hid hp
  have HQ := Lib.hid hq
  obtain ⟨Q, hQ⟩ : ∃ Q, Q = (⟨#[128]⟩ : ByteArray) ++ p ++ q := ⟨_, rfl⟩
  have hQl : Q.data.toList = padL n := by
    have hzz : z = zerosN n := by unfold zerosN; omega
    rw [hQ, hp, hq, hzz]
    simp [strL, padL]
  have hQs : Q.size ≤ 1000 := by rw [hQ]; simp; show 1 + _ + _ ≤ _; omega
  obtain ⟨A', hA'⟩ : ∃ A', A' = absorb A (r.data.toList ++ Q.data.toList) := ⟨_, rfl⟩
  obtain ⟨R', hR'⟩ : ∃ R', R' = strL (restL (r.data.toList ++ Q.data.toList)) := ⟨_, rfl⟩
  have HAD := Lib.hid (fun (w : World) (ht : TabD w) => add_any A r (n : Int) Q hA (by omega) (by omega) (by omega) (by omega) w ht)
  rw [← hA', ← hR', hQ] at HAD
  have hAl : A'.length = 8 := by rw [hA']; exact absK_len hA _ _
  have HAL := Lib.hid hAl
  have HA' := Lib.hid hA'
  have HR' := Lib.hid hR'
  have HQ' := Lib.hid hQ
  have HQL := Lib.hid hQl
  clear hAl hA' hR' hQ hQl hQs
  obtain ⟨a', b', c', d', e', f', g', i', hAe'⟩ := eight HAL.out
  have HAE' := Lib.hid hAe'
  rw [hAe'] at HAD
  have HLIT' : ∀ (X : ByteArray) (m : Int), (.agg (hashV [a', b', c', d', e', f', g', i'] X m) : Value) = .agg #[.int .u32 a', .int .u32 b', .int .u32 c', .int .u32 d', .int .u32 e', .int .u32 f', .int .u32 g', .int .u32 i', .string X, .int .i64 m] := fun _ _ => rfl
  rw [HLIT'] at HAD
  obtain ⟨a, b, c, d, e, f, g, i, hAe⟩ := eight hA
  have HAE := Lib.hid hAe
  rw [hAe] at HAD
  rw [hAe]
  have hK0 : Kept w.heap.size [a, b, c, d, e, f, g, i] r (n : Int) w (w.alloc (.cells (hashV [a, b, c, d, e, f, g, i] r (n : Int)) 27)) := ⟨(Below.refl _ _).alloc (Nat.le_refl _) _, heap_alloc_new w _⟩
  have HK0 := Lib.hid hK0
  have HLIT : ∀ (X : ByteArray) (m : Int), (.agg (hashV [a, b, c, d, e, f, g, i] X m) : Value) = .agg #[.int .u32 a, .int .u32 b, .int .u32 c, .int .u32 d, .int .u32 e, .int .u32 f, .int .u32 g, .int .u32 i, .string X, .int .i64 m] := fun _ _ => rfl
  rw [HLIT] at HAD
  rw [HLIT]
  clear hAe hAe' HLIT HLIT' hK0
  clear hA ht hr hp hq hps hqs
  go_enter Tryd.func13, Tryd.ntmps13
  go_upto_region 2 with (fail)
  have HM := HMM
  rw [hz]
  go_cut [] (fun wr => HashAt wr w.heap.size [a', b', c', d', e', f', g', i'] R' (m : Int) ∧ Below w.heap.size w wr)
  case first =>
    go_region_with (first
      | (go_at_call 47; ((with_reducible refine (Kept.call (h := w.heap.size) (r := r) (n := (n : Int)) (w := w) (a := a) (b := b) (c := c) (d := d) (e := e) (f := f) (g := g) (i := i) ?_ (HREP.out _)).mono ?_); (first | assumption | (refine Kept.drew ?_; assumption) | exact HK0.out | exact HK0.out.drew); rintro en w3 ⟨rfl, hk3, c0, c1, c2, c3, c4, c5, c6, c7, c8, c9, f0, f1, f2, f3, f4, f5, f6, f7, f8, f9⟩))
      | (go_at_call 48; ((with_reducible refine (Kept.call (h := w.heap.size) (r := r) (n := (n : Int)) (w := w) (a := a) (b := b) (c := c) (d := d) (e := e) (f := f) (g := g) (i := i) ?_ (HWD.out _)).mono ?_); (first | assumption | (refine Kept.drew ?_; assumption) | exact HK0.out | exact HK0.out.drew); rintro en w3 ⟨rfl, hk3, c0, c1, c2, c3, c4, c5, c6, c7, c8, c9, f0, f1, f2, f3, f4, f5, f6, f7, f8, f9⟩))
      | (go_at_call 12; ((with_reducible refine (Kept.call (h := w.heap.size) (r := r) (n := (n : Int)) (w := w) (a := a) (b := b) (c := c) (d := d) (e := e) (f := f) (g := g) (i := i) ?_ (HAD.out _ ?_)).mono ?_); (first | assumption | (refine Kept.drew ?_; assumption) | exact HK0.out | exact HK0.out.drew); (refine Kept.tab (h := w.heap.size) (A := [a, b, c, d, e, f, g, i]) (r := r) (n := (n : Int)) (w := w) ?_ HT.out HT.out.pos; (first | assumption | (refine Kept.drew ?_; assumption) | exact HK0.out | exact HK0.out.drew)); rintro en w3 ⟨rfl, hk3, c0, c1, c2, c3, c4, c5, c6, c7, c8, c9, f0, f1, f2, f3, f4, f5, f6, f7, f8, f9⟩)))
    all_goals
      go_wp2_with fail
      go_meet
      rw [← HM.out]
      exact Kept.ten hk3 _ _ _ _ _ _ _ _ _ _
  case rest =>
    obtain ⟨hh, hbel⟩ := hcut
    have HST := Lib.hid (state_any [a', b', c', d', e', f', g', i'] R' (m : Int) rfl _ (HT.out.below hbel HT.out.pos))
    have HH := Lib.hid hh
    have HB := Lib.hid hbel
    clear hh hbel
    go_wp2_with (refine wpList_load_row rfl 27 _ rfl w.heap.size rfl 27 _ (0, 0) _ HH.out Tryd.underlying27 rfl ?z1 ?_; (case z1 => kernel_rfl))
    refine HST.out.mono ?_
    rintro en w4 ⟨rfl, hb4⟩
    obtain ⟨V, hV⟩ : ∃ V, V = addL [a', b', c', d', e', f', g', i'] sqL := ⟨_, rfl⟩
    rw [← hV]
    have hVl : V.length = 8 := by rw [hV]; exact addL_len rfl rfl
    have HV := Lib.hid hV
    have HVL := Lib.hid hVl
    have HB4 := Lib.hid (HB.out.trans (hb4.mono HB.out.size))
    obtain ⟨i0, hi, hz0, hz1, hz2⟩ := info_parts infoU8
    clear hV hVl hb4 hz hw1 hw2
    go_wp2_with fail
    go_loopw [4, 6, 25] (fun v _ i wr => OutRel w V v i wr) (fun _ _ i _ => 8 - (intOf i).toNat)
    case atStart => exact ⟨0, by omega, rfl, World.ownsRow_nil _ _ _ _, HB4.out⟩
    case round =>
      obtain ⟨k, hk, rfl, hown, hbel⟩ := hrel
      by_cases hlt : k < 8
      · have hltI : (k : Int) < 8 := by omega
        have hix := fun w => index8 V HVL.out k hlt w
        have hxl : (u8s (outK V k)).length = 4 * k := by rw [u8s_len, outK_len V k (by rw [HVL.out]; omega)]
        have hba := hbel.size
        have hen : Hid (u8s (outK V (k + 1)) = u8s (outK V k) ++ u8s (beL 4 (wd V k))) := by
          show _ = _
          rw [outK_step V k (by rw [HVL.out]; omega), u8s_append]
        go_wp2_with (at_builtin; refine wpList_append_own _ rfl _ _ 47 rfl w.heap.size 5 i0 (.int .u8 0) 1 1 Tryd.underlying47 hi hz0 hz1 hz2 rfl (by decide) _ _ _ rfl (hown.alloc _) ⟨wr.heap.size, 0, none⟩ 4 4 (u8s (beL 4 (wd V k))) rfl (by rw [u8s_len, beL_len]) ?c1 ?c2 ?c3 ?c4 ?c5 ?_)
        case c1 => exact news4 _ _ _
        case c2 => exact u8s_one _
        case c3 => unfold maxLen; omega
        case c4 => omega
        case c5 => simp; omega
        intro v' w2 hown' hgrow _
        have HO := Lib.hid hown'
        have HB := Lib.hid (((hbel.alloc hba _).grown hgrow (by simp; omega) (fun g hg => (hown.lt g hg).1)))
        clear hown' hgrow hown hbel hxl
        go_wp2
        go_roundw
        case rel => exact ⟨k + 1, by omega, by go_num, by rw [hen.out]; exact HO.out, HB.out⟩
        case measure => simp [intOf]; omega
      · obtain rfl : k = 8 := by omega
        have hcv := own_conv hown
        clear hown
        go_wp2
        go_ret
        refine ⟨?_, hbel⟩
        rw [← HQL.out, ← HAE.out, ← HA'.out, HAE'.out]
        unfold outL
        rw [← HV.out]
        rfl
end Go.Proofs.YthhaofdnbemogaaDoor
