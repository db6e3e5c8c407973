/-
  Layer 3: what less comes to, plainly.
-/
import Derived.Test.YtbbfibgijackhaaGreatDoorDtG
namespace Go.Proofs.YtbbfibgijackhaaGreatDoor
open Go.RowKit

/-- Does a run end ahead of another one's begin? -/
def endsB (h r : RunQ) : Bool := decide (h.1 < r.1) || (decide (h.1 = r.1) && decide (h.2.2 < r.2.1))
def dropH (r : RunQ) (hs : List RunQ) : List RunQ := hs.dropWhile fun h => endsB h r
def lessI : List RunQ → RunQ → List RunQ → List RunQ
  | [], r, rest => rest ++ [r]
  | h :: hs, r, rest => if h.1 ≠ r.1 ∨ r.2.2 < h.2.1 then rest ++ [r]
    else if r.2.2 ≤ h.2.2 then (if r.2.1 < h.2.1 then rest ++ [(r.1, r.2.1, h.2.1 - 1)] else rest)
    else lessI hs (r.1, h.2.2 + 1, r.2.2) (if r.2.1 < h.2.1 then rest ++ [(r.1, r.2.1, h.2.1 - 1)] else rest)
def lessN : List RunQ → List RunQ → List RunQ → List RunQ
  | [], _, rest => rest
  | r :: rs, hs, rest => lessN rs (dropH r hs) (lessI (dropH r hs) r rest)
def lessC (al hv : List RunQ) : List RunQ := lessN al hv []
theorem lessI_len : ∀ (hs : List RunQ) (r : RunQ) (rest : List RunQ), (lessI hs r rest).length ≤ rest.length + hs.length + 1
  | [], r, rest => by unfold lessI; simp
  | h :: hs, r, rest => by
    unfold lessI
    have ih := lessI_len hs (r.1, h.2.2 + 1, r.2.2) (if r.2.1 < h.2.1 then rest ++ [(r.1, r.2.1, h.2.1 - 1)] else rest)
    rw [List.length_cons]
    split
    · rw [List.length_append, List.length_singleton]; omega
    · split
      · split
        · rw [List.length_append, List.length_singleton]; omega
        · omega
      · refine Nat.le_trans ih ?_
        split
        · rw [List.length_append, List.length_singleton]; omega
        · omega
theorem dropH_le (r : RunQ) (hs : List RunQ) : (dropH r hs).length ≤ hs.length := (List.dropWhile_suffix _).length_le
theorem dropH_mem {r q : RunQ} {hs : List RunQ} (h : q ∈ dropH r hs) : q ∈ hs := (List.dropWhile_suffix _).subset h
theorem lessI_good : ∀ (hs : List RunQ) (r : RunQ) (rest : List RunQ), (∀ q ∈ hs, goodR q = true) → (0 ≤ r.1 ∧ r.1 ≤ 7 ∧ 1 ≤ r.2.1 ∧ r.2.1 ≤ 1099511627777 ∧ 1 ≤ r.2.2 ∧ r.2.2 ≤ 1099511627776) → (∀ q ∈ rest, RunOk q) → ∀ q ∈ lessI hs r rest, RunOk q
  | [], r, rest, _, hr, hrest => fun q hq => by
    unfold lessI at hq
    rcases List.mem_append.1 hq with hq | hq
    · exact hrest q hq
    · rw [List.mem_singleton.1 hq]; unfold RunOk I64; omega
  | h :: hs, r, rest, hh, hr, hrest => fun q hq => by
    have hg := goodR_of.1 (hh h (by simp))
    have hrest' : ∀ q ∈ (if r.2.1 < h.2.1 then rest ++ [(r.1, r.2.1, h.2.1 - 1)] else rest), RunOk q := by
      intro q hq
      split at hq
      · rcases List.mem_append.1 hq with hq | hq
        · exact hrest q hq
        · rw [List.mem_singleton.1 hq]; unfold RunOk I64; dsimp only; omega
      · exact hrest q hq
    unfold lessI at hq
    split at hq
    · rcases List.mem_append.1 hq with hq | hq
      · exact hrest q hq
      · rw [List.mem_singleton.1 hq]; unfold RunOk I64; omega
    · split at hq
      · exact hrest' q hq
      · exact lessI_good hs _ _ (fun q hq => hh q (by simp [hq])) (by dsimp only; omega) hrest' q hq
theorem right_good {c : List RunQ} (h : rightC c = true) : ∀ q ∈ c, goodR q = true := fun q hq => by
  obtain ⟨i, hi, rfl⟩ := List.mem_iff_getElem.1 hq
  have := (rightC_of.1 h i hi).1
  unfold runAt at this
  rwa [List.getElem?_eq_getElem hi] at this

end Go.Proofs.YtbbfibgijackhaaGreatDoor
