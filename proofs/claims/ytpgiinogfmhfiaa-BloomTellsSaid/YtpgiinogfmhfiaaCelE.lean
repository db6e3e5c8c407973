/-
  Layer 10: walks of Right and Sum. Conditions: a mark has sixteen bytes; lists as long as an int tells.
-/
import Derived.Test.YtpgiinogfmhfiaaCelD
namespace Go.Proofs.Ytpgiinogfmhfiaa
open Go.RowKit

def crightB (c : Int) : Bool := decide (-1048576 ≤ c ∧ c ≤ 1048576)

/-- A list of cells, as (count, mark, check). -/
abbrev Cel := Int × List Int × Int
def celAt (cs : List Cel) (i : Nat) : Cel := cs[i]?.getD (0, List.replicate 16 0, 0)
def addC (x y : Cel) : Cel := (IntKind.i64.wrap (x.1 + y.1), layL x.2.1 y.2.1, bits .xor .u64 x.2.2 y.2.2)
def sumC (cs : List Cel) : Cel := cs.foldl addC (0, List.replicate 16 0, 0)
theorem sumC_snoc (cs : List Cel) (k : Nat) (h : k < cs.length) : sumC (cs.take (k + 1)) = addC (sumC (cs.take k)) (celAt cs k) := by
  unfold sumC celAt
  rw [List.take_succ_eq_append_getElem h, List.foldl_append, List.getElem?_eq_getElem h]
  rfl
theorem foldC_len (cs : List Cel) : ∀ x : Cel, x.2.1.length = 16 → (cs.foldl addC x).2.1.length = 16 := by
  induction cs with
  | nil => intro x h; exact h
  | cons y l ih => intro x _; exact ih _ (layK_length _ _ 16)
theorem sumC_len (cs : List Cel) : (sumC cs).2.1.length = 16 := foldC_len cs _ (by simp)
/-- A slice of cells. -/
def CelSl (w : World) (v : Value) (cs : List Cel) : Prop :=
  (∀ i, (celAt cs i).2.1.length = 16) ∧ (((∃ a cap, v = .slice a 0 cap) ∧ cs = []) ∨ ∃ blk off cap, v = .slice (some ⟨blk, off, none⟩) cs.length cap ∧ cs.length ≤ cap ∧ cap ≤ maxLen ∧
    ∀ i, i < cs.length → w.rangeAt blk (off + i * 18) (cellL (celAt cs i).1 (celAt cs i).2.1 (celAt cs i).2.2))
theorem range_kept {w w' : World} {B o : Nat} {vs : List Value} (h : w.rangeAt B o vs) (k : Kp Nb w w') : w'.rangeAt B o vs := fun j v hv => k.cell (h j v hv) (fun h => h)
theorem CelSl.kept {w w' : World} {v : Value} {cs : List Cel} (h : CelSl w v cs) (k : Kp Nb w w') : CelSl w' v cs := by
  refine ⟨h.1, ?_⟩
  rcases h.2 with h | ⟨blk, off, cap, rfl, hc, hm, hr⟩
  · exact .inl h
  · exact .inr ⟨blk, off, cap, rfl, hc, hm, fun i hi => range_kept (hr i hi) k⟩
theorem CelSl.shape {w : World} {v : Value} {cs : List Cel} (h : CelSl w v cs) : ∃ y d, v = .slice y cs.length d := by
  rcases h.2 with ⟨⟨a, c, rfl⟩, rfl⟩ | ⟨blk, off, cap, rfl, _⟩
  · exact ⟨a, c, rfl⟩
  · exact ⟨_, _, rfl⟩


end Go.Proofs.Ytpgiinogfmhfiaa
