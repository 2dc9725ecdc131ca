/-
  SHA-256 as plain functions on whole numbers: no program is named here.
-/
import Derived.WalkKit
set_option linter.unusedVariables false
namespace Go.Proofs.YthhaofdnbemogaaDoor
open Go.RowKit

def rotR (n : Nat) (x : Int) : Int := bits .or .u32 (x * 2 ^ (32 - n) % 4294967296) (x / 2 ^ n)
def xor32 (a b : Int) : Int := bits .xor .u32 a b
def s0W (x : Int) : Int := bits .xor .u32 (bits .xor .u32 (rotR 7 x) (rotR 18 x)) (x / 8)
def s1W (x : Int) : Int := bits .xor .u32 (bits .xor .u32 (rotR 17 x) (rotR 19 x)) (x / 1024)

def sqL : List Int := [1779033703, 3144134277, 1013904242, 2773480762, 1359893119, 2600822924, 528734635, 1541459225]
def cuL : List Int := [
    0x428A2F98, 0x71374491, 0xB5C0FBCF, 0xE9B5DBA5, 0x3956C25B, 0x59F111F1, 0x923F82A4, 0xAB1C5ED5,
    0xD807AA98, 0x12835B01, 0x243185BE, 0x550C7DC3, 0x72BE5D74, 0x80DEB1FE, 0x9BDC06A7, 0xC19BF174,
    0xE49B69C1, 0xEFBE4786, 0x0FC19DC6, 0x240CA1CC, 0x2DE92C6F, 0x4A7484AA, 0x5CB0A9DC, 0x76F988DA,
    0x983E5152, 0xA831C66D, 0xB00327C8, 0xBF597FC7, 0xC6E00BF3, 0xD5A79147, 0x06CA6351, 0x14292967,
    0x27B70A85, 0x2E1B2138, 0x4D2C6DFC, 0x53380D13, 0x650A7354, 0x766A0ABB, 0x81C2C92E, 0x92722C85,
    0xA2BFE8A1, 0xA81A664B, 0xC24B8B70, 0xC76C51A3, 0xD192E819, 0xD6990624, 0xF40E3585, 0x106AA070,
    0x19A4C116, 0x1E376C08, 0x2748774C, 0x34B0BCB5, 0x391C0CB3, 0x4ED8AA4A, 0x5B9CCA4F, 0x682E6FF3,
    0x748F82EE, 0x78A5636F, 0x84C87814, 0x8CC70208, 0x90BEFFFA, 0xA4506CEB, 0xBEF9A3F7, 0xC67178F2]

/-- A word of a list, a byte of a text. -/
def wd (L : List Int) (j : Nat) : Int := L.getD j 0
def byt (bs : List UInt8) (j : Nat) : Int := ((bs.getD j 0).toNat : Int)
/-- The words of a block, one byte after the other. -/
def schA (bs : List UInt8) : Nat → List Int
  | 0 => List.replicate 64 0
  | k + 1 => (schA bs k).set (k / 4) (bits .or .u32 (wd (schA bs k) (k / 4) * 256 % 4294967296) (byt bs k))
theorem schA_len (bs : List UInt8) (k : Nat) : (schA bs k).length = 64 := by
  induction k with
  | zero => simp [schA]
  | succ k ih => simp [schA, ih]
/-- The further words. -/
def nextW (L : List Int) (t : Nat) : Int := (s1W (wd L (t - 2)) + wd L (t - 7) + s0W (wd L (t - 15)) + wd L (t - 16)) % 4294967296
def schB (L : List Int) : Nat → List Int
  | 0 => L
  | k + 1 => (schB L k).set (16 + k) (nextW (schB L k) (16 + k))
theorem schB_len (L : List Int) (k : Nat) : (schB L k).length = L.length := by
  induction k with
  | zero => simp [schB]
  | succ k ih => simp [schB, ih]
def sched (bs : List UInt8) : List Int := schB (schA bs 64) 48
theorem sched_len (bs : List UInt8) : (sched bs).length = 64 := by unfold sched; rw [schB_len, schA_len]

structure Oct where
  a : Int
  b : Int
  c : Int
  d : Int
  e : Int
  f : Int
  g : Int
  h : Int

def chW (e f g : Int) : Int := bits .or .u32 (bits .and .u32 e f) (bits .and .u32 (bits .xor .u32 IntKind.u32.max e) g)
def mjW (a b c : Int) : Int := bits .or .u32 (bits .or .u32 (bits .and .u32 a b) (bits .and .u32 a c)) (bits .and .u32 b c)
def S1W (e : Int) : Int := bits .xor .u32 (bits .xor .u32 (rotR 6 e) (rotR 11 e)) (rotR 25 e)
def S0W (a : Int) : Int := bits .xor .u32 (bits .xor .u32 (rotR 2 a) (rotR 13 a)) (rotR 22 a)
def t1W (o : Oct) (k w : Int) : Int := (o.h + S1W o.e + chW o.e o.f o.g + k + w) % 4294967296
def t2W (o : Oct) : Int := (S0W o.a + mjW o.a o.b o.c) % 4294967296
def rnd (o : Oct) (k w : Int) : Oct :=
  ⟨(t1W o k w + t2W o) % 4294967296, o.a, o.b, o.c, (o.d + t1W o k w) % 4294967296, o.e, o.f, o.g⟩
def rnds (o : Oct) (W : List Int) : Nat → Oct
  | 0 => o
  | k + 1 => rnd (rnds o W k) (wd cuL k) (wd W k)
def octL (o : Oct) : List Int := [o.a, o.b, o.c, o.d, o.e, o.f, o.g, o.h]
def octOf (L : List Int) : Oct := ⟨wd L 0, wd L 1, wd L 2, wd L 3, wd L 4, wd L 5, wd L 6, wd L 7⟩
def addL (a b : List Int) : List Int := List.zipWith (fun x y => (x + y) % 4294967296) a b
/-- What a block adds. -/
def mixL (added : List Int) (bs : List UInt8) : List Int := addL added (octL (rnds (octOf (addL added sqL)) (sched bs) 64))


theorem t_abc : addL (mixL (List.replicate 8 0) ([97, 98, 99, 128] ++ List.replicate 59 0 ++ [24])) sqL = [0xba7816bf, 0x8f01cfea, 0x414140de, 0x5dae2223, 0xb00361a3, 0x96177a9c, 0xb410ff61, 0xf20015ad] := by decide +kernel
end Go.Proofs.YthhaofdnbemogaaDoor
