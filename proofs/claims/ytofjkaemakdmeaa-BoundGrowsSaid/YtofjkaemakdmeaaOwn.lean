/-
  Closed facts of the translation that every row's proof asks. No condition.
-/
import Derived.Test.YtofjkaemakdmeaaProg
import Derived.ProofKit
import Derived.OpenShut
import Derived.SizedLaws
namespace Go.Proofs.Ytofjkaemakdmeaa
theorem own : ownKnob Try.prog.godebug = none := by kernel_rfl
theorem laidOut : laidOutB Try.prog = true := by kernel_rfl
end Go.Proofs.Ytofjkaemakdmeaa
