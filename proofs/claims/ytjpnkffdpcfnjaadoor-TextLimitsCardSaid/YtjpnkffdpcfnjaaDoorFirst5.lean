/-
  The reference's First at every text that is not empty, and its Decode.
-/
import Derived.Test.YtjpnkffdpcfnjaaDoorFirst1
import Derived.Test.YtjpnkffdpcfnjaaDoorFirst2
import Derived.Test.YtjpnkffdpcfnjaaDoorFirst3
import Derived.Test.YtjpnkffdpcfnjaaDoorFirst4
set_option linter.unusedVariables false
namespace Go.Proofs.YtjpnkffdpcfnjaaDoor
open Go.RowKit

theorem first_any (s : ByteArray) (hs : 0 < s.size) (hl : s.size ≤ 1000000000) (w : World) :
    Calls Tryd.prog 33 #[.string s] w (FirstPost s w) := by
  by_cases h1 : byteAt s 0 < 128
  · exact first_one s hs hl h1 w
  by_cases h2 : byteAt s 0 < 192
  · exact first_bad s hs hl (.inl ⟨by omega, h2⟩) w
  by_cases h3 : byteAt s 0 < 224
  · by_cases hn : s.size < 2
    · exact first_two_short s hs hn (by omega) h3 w
    · exact first_two s hl (by omega) (by omega) h3 w
  by_cases h4 : byteAt s 0 < 240
  · by_cases hn : s.size < 3
    · exact first_three_short s hs hn (by omega) h4 w
    · exact first_three s hl (by omega) (by omega) h4 w
  by_cases h5 : byteAt s 0 < 248
  · by_cases hn : s.size < 4
    · exact first_four_short s hs hn (by omega) h5 w
    · exact first_four s hl (by omega) (by omega) h5 w
  · exact first_bad s hs hl (.inr (by omega)) w
end Go.Proofs.YtjpnkffdpcfnjaaDoor
