/-
  Layer 10: walks of the reference's Check, Of, Right, and of both Pures. Conditions: cells are what their kinds hold. (Printed by gen_tells10.py.)
-/
import Derived.Test.YtpgiinogfmhfiaaCelIk
namespace Go.Proofs.Ytpgiinogfmhfiaa
open Go.RowKit




/-- What Pure answers. -/
def pureC (x : Cel) : Int := if (x.1 = 1 ∨ x.1 = -1) ∧ x.2.2 = chk x.2.1 then x.1 else 0



end Go.Proofs.Ytpgiinogfmhfiaa
