/-
  Layer 10: slices of cells, made and summed. No condition.
-/
import Derived.Test.YtpgiinogfmhfiaaCelIk
namespace Go.Proofs.Ytpgiinogfmhfiaa
open Go.RowKit

abbrev CSl (w : World) (v : Value) (l : List Cel) : Prop := RowsSl cl c0 18 w v l
theorem celOk_of {l : List Cel} (ho : ∀ q ∈ l, CelOk q) (i : Nat) : CelOk (celAt l i) := by
  unfold celAt
  cases hi : l[i]? with
  | none => exact c0_ok
  | some m => exact ho m (List.mem_of_getElem? hi)

end Go.Proofs.Ytpgiinogfmhfiaa
