/-
  acheronref05.IsKeyword and IsSign at any string.
-/
import Derived.Test.YtmielaonkkhmiaaGreatDoorLxA
set_option linter.unusedVariables false
namespace Go.Proofs.YtmielaonkkhmiaaGreatDoor
open Go.RowKit

def keysLL : List (List UInt8) := [[97, 100, 116], [97, 108, 116], [97, 114, 114, 97, 121], [98, 105, 103], [98, 114, 101, 97, 107], [98, 121, 116, 101], [99, 97, 115, 101], [99, 104, 97, 110], [99, 111, 110], [99, 111, 110, 116, 105, 110, 117, 101], [100, 111], [101, 108, 115, 101], [101, 120, 99, 101, 112, 116, 105, 111, 110], [101, 120, 105, 116], [102, 110], [102, 111, 114], [104, 100], [105, 102], [105, 109, 112, 108, 101, 109, 101, 110, 116], [105, 110, 116], [105, 111, 116, 97], [108, 101, 110], [108, 105, 115, 116], [108, 111, 97, 100], [109, 111, 100, 117, 108, 101], [110, 105, 108], [111, 102], [111, 114], [112, 105, 99, 107], [114, 97, 105, 115, 101], [114, 101, 97, 108], [114, 101, 102], [114, 101, 116, 117, 114, 110], [115, 101, 108, 102], [115, 112, 97, 119, 110], [115, 116, 114, 105, 110, 103], [116, 97, 103, 111, 102], [116, 108], [116, 111], [116, 121, 112, 101], [119, 104, 105, 108, 101]]
theorem isKey_lits (s : ByteArray) : isKey s = keysLL.any (fun l => s.toList == l) := by
  have h : keysLL = keysL.map (fun k => k.data.toList) := rfl
  rw [h, List.any_map]
  unfold isKey
  congr 1
  funext k
  show (s == k) = (s.toList == k.data.toList)
  rw [beq_toListBytes, ByteArray.toList_eq k]
def signsLL : List (List UInt8) := [[60, 60, 61], [62, 62, 61], [60, 45, 61], [61, 61], [33, 61], [60, 61], [62, 61], [60, 60], [62, 62], [38, 38], [124, 124], [43, 43], [45, 45], [43, 61], [45, 61], [42, 61], [47, 61], [37, 61], [38, 61], [124, 61], [94, 61], [58, 61], [60, 45], [45, 62], [61, 62], [58, 58], [43], [45], [42], [47], [37], [38], [124], [94], [126], [33], [61], [60], [62], [46], [44], [59], [58], [40], [41], [91], [93], [123], [125]]
theorem isSgn_lits (s : ByteArray) : isSgn s = signsLL.any (fun l => s.toList == l) := by
  have h : signsLL = signsL.map (fun k => k.data.toList) := rfl
  rw [h, List.any_map]
  unfold isSgn
  congr 1
  funext k
  show (s == k) = (s.toList == k.data.toList)
  rw [beq_toListBytes, ByteArray.toList_eq k]
set_option maxRecDepth 100000 in
set_option maxHeartbeats 8000000 in
theorem refIsKeyword_any (s : ByteArray) (w : World) : Calls Tryz.prog 14 #[.string s] w fun e w' => e = .returned (.bool (isKey s)) ∧ w = w' := by
  have HK := Lib.hid (isKey_lits s)
  generalize isKey s = R at *
  go_enter Tryz.func14, Tryz.ntmps14
  go_wp2
  all_goals first
    | (exfalso; simp_all; done)
    | (go_ret; exact ⟨ret_bool (by rw [HK.out]; unfold keysLL; simp [*]), rfl⟩)
set_option maxRecDepth 100000 in
set_option maxHeartbeats 8000000 in
theorem refIsSign_any (s : ByteArray) (w : World) : Calls Tryz.prog 16 #[.string s] w fun e w' => e = .returned (.bool (isSgn s)) ∧ w = w' := by
  have HK := Lib.hid (isSgn_lits s)
  generalize isSgn s = R at *
  go_enter Tryz.func16, Tryz.ntmps16
  go_wp2
  all_goals first
    | (exfalso; simp_all; done)
    | (go_ret; exact ⟨ret_bool (by rw [HK.out]; unfold signsLL; simp [*]), rfl⟩)
end Go.Proofs.YtmielaonkkhmiaaGreatDoor
