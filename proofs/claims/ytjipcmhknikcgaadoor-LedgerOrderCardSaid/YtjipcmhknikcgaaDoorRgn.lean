/-
  A region of a function, by its number: so that it can be met in a theorem of its own. Nothing of the program is named here. No condition.
-/
import Derived.Test.YtjipcmhknikcgaaDoorGhostL
import Derived.Test.YtjipcmhknikcgaaDoorVars
namespace Go.Proofs.YtjipcmhknikcgaaDoor
open Go.RowKit

def rgnOf (n : Nat) : Code → Option Code
  | .region m ops d => if m = n then some (.region m ops d) else none
  | .seq a b => match rgnOf n a with | some c => some c | none => rgnOf n b
  | .cond _ a b => match rgnOf n a with | some c => some c | none => rgnOf n b
  | .block _ b => rgnOf n b
  | .loop b => rgnOf n b
  | .rangeFunc _ _ a b => match rgnOf n a with | some c => some c | none => rgnOf n b
  | .scope b => rgnOf n b
  | _ => none
def rgn (n : Nat) (f : Func) : Code := match f.body with | some c => (rgnOf n c).getD .skip | none => .skip
def blkOf (n : Nat) : Code → Option Code
  | .seq a b => match blkOf n a with | some c => some c | none => blkOf n b
  | .cond _ a b => match blkOf n a with | some c => some c | none => blkOf n b
  | .block m b => if m = n then some (.block m b) else blkOf n b
  | .loop b => blkOf n b
  | .rangeFunc _ _ a b => match blkOf n a with | some c => some c | none => blkOf n b
  | .scope b => blkOf n b
  | _ => none
def blk (n : Nat) (f : Func) : Code := match f.body with | some c => (blkOf n c).getD .skip | none => .skip

end Go.Proofs.YtjipcmhknikcgaaDoor
