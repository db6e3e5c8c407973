/-
  Walks of layer 1: one byte taken in. Conditions: fewer than 2^62 bytes so far.
-/
import Derived.Test.YtbbfibgijackhaaGreatDoorSipA
import Derived.RegionTactic
import Derived.ChangeAlike
namespace Go.Proofs.YtbbfibgijackhaaGreatDoor
open Go.RowKit




end Go.Proofs.YtbbfibgijackhaaGreatDoor
