import Derived.Test.YtjpnkffdpcfnjaaDoorFirst
set_option linter.unusedVariables false
namespace Go.Proofs.YtjpnkffdpcfnjaaDoor
open Go.RowKit

set_option maxRecDepth 100000 in
set_option maxHeartbeats 1000000 in
theorem first_one (s : ByteArray) (hs : 0 < s.size) (hl : s.size ≤ 1000000000) (h : byteAt s 0 < 128) (w : World) :
    Calls Tryd.prog 33 #[.string s] w (FirstPost s w) := by
  have hd := dec_one s h
  have hb := byteAt_lt s 0
  have e0 := byteAt_eq s 0 hs
  rw [← e0] at hd
  have g2 : (s[0].toNat : Int) < 128 := by omega
  have hok : okc (s[0].toNat : Int) = true := by rw [e0]; exact (okc_iff _).2 (by omega)
  have hc : s[0].toNat < 1114112 := by omega
  have heq : (enc s[0].toNat == (s.extract 0 1).toList) = true := by
    refine list_eq_of (extract_eq s 1 _ hs ?_ fun j hj => ?_)
    · unfold enc; rw [if_pos (by omega)]; rfl
    · obtain rfl : j = 0 := by omega
      have e : enc s[0].toNat = [UInt8.ofNat s[0].toNat] := by unfold enc; rw [if_pos (by omega)]
      simp only [e]
      simp
      omega
  have HD := Lib.hid hd
  clear hb e0 h hd
  go_enter Tryd.func33, Tryd.ntmps33
  go_wp2
  refine wp_loop_rounds 1 ?_
  rw [rounds_succ]
  go_wp2
  go_region_with (first | (go_at_call 15; refine (is_any _ _).mono ?_; rintro e w' ⟨rfl, rfl⟩) | (go_at_call 19; refine (encode_any s[0].toNat hc _).mono ?_; rintro e w1 ⟨rfl, hb1⟩))
  go_wp2
  go_ret2
  exact firstPost_of HD.out rfl (below_of_drew hb1)

end Go.Proofs.YtjpnkffdpcfnjaaDoor
