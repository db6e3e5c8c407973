/-
  New pens. No condition.
-/
import Derived.Test.YtbbfibgijackhaaGreatDoorPenD
namespace Go.Proofs.YtbbfibgijackhaaGreatDoor
open Go.RowKit

theorem pen_new (w : World) : PenAt (w.alloc (.cells #[.slice none 0 0] 43)) w.heap.size (.slice none 0 0) [] :=
  ⟨Blk.new w 43 [.slice none 0 0], World.ownsRow_nil _ _ _ _, by simp [Value.ownBlock], fun i => by simp⟩
theorem penTo_own {a b : World} {B : Nat} {v v' : Value} (h : PenTo a b B v v') (hv : v.ownBlock = none) : ∀ g, v'.ownBlock = some g → a.heap.size ≤ g := by
  rcases h.at' with e | e
  · intro g hg; rw [e, hv] at hg; cases hg
  · exact e

end Go.Proofs.YtbbfibgijackhaaGreatDoor
