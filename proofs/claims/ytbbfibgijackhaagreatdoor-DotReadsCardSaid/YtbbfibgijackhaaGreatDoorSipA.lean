/-
  Walks of layer 1's rounds: what the call does to the six cells of a sum. No condition.
-/
import Derived.Test.YtbbfibgijackhaaGreatDoorSipPlain
import Derived.Test.YtbbfibgijackhaaGreatDoorChecked
import Derived.WalkSpells
import Derived.WalkLawsBesides
import Derived.Deep.QuietTactic
import Derived.BigQuiet
namespace Go.Proofs.YtbbfibgijackhaaGreatDoor
open Go.RowKit

theorem ret_u64 {a b : Int} (h : a = b) : Ending.returned (.int .u64 a) = Ending.returned (.int .u64 b) := by rw [h]




end Go.Proofs.YtbbfibgijackhaaGreatDoor
