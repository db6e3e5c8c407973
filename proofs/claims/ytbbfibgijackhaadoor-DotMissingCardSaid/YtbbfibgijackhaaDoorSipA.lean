/-
  Walks of layer 1's rounds: what the call does to the six cells of a sum. No condition.
-/
import Derived.Test.YtbbfibgijackhaaDoorSipPlain
import Derived.Test.YtbbfibgijackhaaDoorChecked
import Derived.WalkSpells
import Derived.WalkLawsBesides
import Derived.Deep.QuietTactic
import Derived.BigQuiet
namespace Go.Proofs.YtbbfibgijackhaaDoor
open Go.RowKit

theorem ret_u64 {a b : Int} (h : a = b) : Ending.returned (.int .u64 a) = Ending.returned (.int .u64 b) := by rw [h]




end Go.Proofs.YtbbfibgijackhaaDoor
