/-
  The walk of layer 1's Mark. Conditions: fewer than 2^62 bytes.
-/
import Derived.Test.YtbbfibgijackhaaGreatDoorSipD
namespace Go.Proofs.YtbbfibgijackhaaGreatDoor
open Go.RowKit

theorem PsSl.kept {w w' : World} {v : Value} {ps : List (List Int)} (h : PsSl w v ps) (k : Kp Nb w w') : PsSl w' v ps := by
  rcases h with h | ⟨blk, off, cap, hv, hc, hm, hp⟩
  · exact .inl h
  · refine .inr ⟨blk, off, cap, hv, hc, hm, fun i hi => ?_⟩
    obtain ⟨u, hu, hb⟩ := hp i hi
    exact ⟨u, k.cell hu (fun h => h), hb.kept k (fun _ h => h)⟩




end Go.Proofs.YtbbfibgijackhaaGreatDoor
