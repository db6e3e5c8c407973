/-
  Walks of layer 1: one byte taken in. Conditions: fewer than 2^62 bytes so far.
-/
import Derived.Test.YtbbfibgijackhaaDoorSipA
import Derived.RegionTactic
import Derived.ChangeAlike
namespace Go.Proofs.YtbbfibgijackhaaDoor
open Go.RowKit




end Go.Proofs.YtbbfibgijackhaaDoor
