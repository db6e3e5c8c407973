/-
  Layer 11: sketches in memory; walks of Fits, slices.Clone of cells, Size, Clone. Conditions: cells are what their kinds hold; a size that may be.
-/
import Derived.Test.YtpgiinogfmhfiaaCelJk
import Derived.Test.YtpgiinogfmhfiaaCelL
import Derived.Test.YtpgiinogfmhfiaaFlat
import Derived.Maps.AppendAt
import Derived.Lib.SliceRun
import Derived.Lib.Walk
import Derived.OwnWalk
namespace Go.Proofs.Ytpgiinogfmhfiaa
open Go.RowKit

abbrev rws (cs : List Cel) : List Value := flatR cl cs
def AllOk (cs : List Cel) : Prop := ∀ q ∈ cs, CelOk q
theorem AllOk.len {cs : List Cel} (h : AllOk cs) : ∀ q ∈ cs, (cl q).length = 18 := fun q hq => cl_length (h q hq)
theorem AllOk.at {cs : List Cel} (h : AllOk cs) (i : Nat) : CelOk (celAt cs i) := celOk_of h i
theorem AllOk.set {cs : List Cel} (h : AllOk cs) (i : Nat) {x : Cel} (hx : CelOk x) : AllOk (cs.set i x) := fun q hq => by
  rcases List.mem_or_eq_of_mem_set hq with h1 | h1
  · exact h q h1
  · rw [h1]; exact hx

def fitB (n : Int) : Bool := decide (3 ≤ n ∧ n ≤ 1536 ∧ n % 3 = 0)

theorem rws_one {cs : List Cel} : ∀ u ∈ rws cs, u.oneCell' = true := fun u hu => by
  obtain ⟨q, _, hq⟩ := List.mem_flatMap.1 hu
  exact cellL_one _ _ _ u hq
theorem rws_cell {w : World} {blk off : Nat} {cs : List Cel} (ho : AllOk cs) (h : ∀ i, i < cs.length → w.rangeAt blk (off + i * 18) (cl (cs[i]?.getD c0))) (j : Nat) (u : Value) (hj : (rws cs)[j]? = some u) : w.cell? ⟨blk, off + j, none⟩ = some u := by
  have hl := flatR_length cs ho.len
  have hlt : j < cs.length * 18 := by
    have := (List.getElem?_eq_some_iff.1 hj).1
    rw [hl] at this
    exact this
  have e : j = j / 18 * 18 + j % 18 := by omega
  have hi : j / 18 < cs.length := by omega
  have h2 := h (j / 18) hi (j % 18) u (by
    rw [← flatR_get (f := cl) (z := c0) (c := 18) cs (j / 18) (j % 18) ho.len hi (by omega), ← e]; exact hj)
  rw [show off + j = off + j / 18 * 18 + j % 18 from by omega]
  exact h2

end Go.Proofs.Ytpgiinogfmhfiaa
