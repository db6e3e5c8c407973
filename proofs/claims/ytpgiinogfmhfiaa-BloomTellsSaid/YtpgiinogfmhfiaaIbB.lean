/-
  Layer 11: walks of Size, Clone, Empty, Cell, From. Conditions: cells are what their kinds hold.
-/
import Derived.Test.YtpgiinogfmhfiaaIbA
namespace Go.Proofs.Ytpgiinogfmhfiaa
open Go.RowKit



def emptyB (cs : List Cel) : Bool := cs.all fun x => decide (x = c0)
def EmpR (cs : List Cel) (w : World) (i : Value) (wr : World) : Prop := ∃ k : Nat, k ≤ cs.length ∧ i = .int .i64 k ∧ Hid (emptyB (cs.take k) = true) ∧ Hid (w = wr)
theorem emptyB_snoc (cs : List Cel) (k : Nat) (h : k < cs.length) : emptyB (cs.take (k + 1)) = (emptyB (cs.take k) && decide (celAt cs k = c0)) := by
  unfold emptyB celAt
  rw [List.take_succ_eq_append_getElem h, List.all_append, List.getElem?_eq_getElem h]
  simp
theorem emptyB_take {cs : List Cel} {k : Nat} (h : emptyB (cs.take k) = false) : emptyB cs = false := by
  cases hc : emptyB cs with
  | false => rfl
  | true =>
    have : emptyB (cs.take k) = true := by
      unfold emptyB at hc ⊢
      rw [List.all_eq_true] at hc ⊢
      exact fun x hx => hc x (List.mem_of_mem_take hx)
    rw [h] at this
    cases this

end Go.Proofs.Ytpgiinogfmhfiaa
