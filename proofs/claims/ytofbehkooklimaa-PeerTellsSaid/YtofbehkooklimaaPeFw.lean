/-
  Layer 29: the walk of PeerTells. Condition: what an int is.
-/
import Derived.Test.YtofbehkooklimaaPeF0
import Derived.Test.YtofbehkooklimaaPeF1
import Derived.Test.YtofbehkooklimaaPeF2
import Derived.Test.YtofbehkooklimaaPeF3
import Derived.Test.YtofbehkooklimaaPeF4
import Derived.Test.YtofbehkooklimaaPeF5
import Derived.Test.YtofbehkooklimaaPeF6
namespace Go.Proofs.Ytofbehkooklimaa
open Go.RowKit

theorem tells_walk (n d t r : Int) (w : World) :
    Calls Try.prog 9 #[.agg #[.int .i64 n, .int .i64 d, .int .i64 t, .int .i64 r]] w fun e w' => e = .returned (.bool true) ∧ Kp Nb w w' := by
  cases hf : pfitsB n with
  | false => exact tells_w0 n d t r hf w
  | true =>
    by_cases h1 : d < 0 ∨ n ≤ d
    · by_cases h0 : d < 0
      · exact tells_w1 n d t r hf h0 w
      · exact tells_w6 n d t r hf (by omega) w
    · by_cases h2 : t < 0
      · exact tells_w2 n d t r hf (by omega) w
      · by_cases h3 : n ≤ t ∨ t = d
        · by_cases h4 : t = d
          · exact tells_w3 n d t r hf (by omega) w
          · exact tells_w5 n d t r hf (by omega) w
        · exact tells_w4 n d t r hf (by omega) w

end Go.Proofs.Ytofbehkooklimaa
