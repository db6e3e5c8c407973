/-
  Layer 10: walks of Of, Pure, Right. Conditions: a mark has sixteen bytes. (Printed by gen_cel2.py.)
-/
import Derived.Test.YtpgiinogfmhfiaaCelC
import Derived.IntWalk
namespace Go.Proofs.Ytpgiinogfmhfiaa
open Go.RowKit





end Go.Proofs.Ytpgiinogfmhfiaa
