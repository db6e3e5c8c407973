/-
  Layer 9: plain: what the marks beside one another are, and whose. Conditions: marks of 16 bytes.
-/
import Derived.Test.YtijlmfmpfjjlpaaMbE
import Derived.Test.YtijlmfmpfjjlpaaMbB
import Derived.Test.YtijlmfmpfjjlpaaMaZ
import Derived.Test.YtijlmfmpfjjlpaaIntRow
namespace Go.Proofs.Ytijlmfmpfjjlpaa
open Go.RowKit Go.Shelf

def sidesL (xs ys : List (List Int)) : List (List Int × Int) := mergeM (okAB (rightB xs && rightB ys) xs) (okAB (rightB xs && rightB ys) ys)
theorem sides_inM (xs ys : List (List Int)) : ∀ p ∈ sidesL xs ys, InM xs ys p := by
  intro p hp
  unfold sidesL at hp
  cases hr : rightB xs && rightB ys with
  | false => rw [hr] at hp; unfold okAB at hp; simp [mergeM, mergeN] at hp
  | true =>
    rw [hr] at hp
    rw [Bool.and_eq_true] at hr
    exact ((merge_spec (xs.length + ys.length) xs ys (pair_rise (rise_of hr.1)) (pair_rise (rise_of hr.2)) (Nat.le_refl _)).1 p).1 hp
theorem sides_marks (xs ys : List (List Int)) : thoseT true true true xs ys = (sidesL xs ys).map (·.1) := by
  have h := sides_inM xs ys
  unfold thoseT
  cases hr : rightB xs && rightB ys with
  | false => unfold sidesL; rw [hr]; unfold okAB; simp [mergeM, mergeN]
  | true =>
    have e : sidesL xs ys = mergeM xs ys := by unfold sidesL; rw [hr]; rfl
    rw [if_pos rfl, ← e, List.filter_eq_self.2 fun p hp => ?_]
    unfold pkF
    rcases h p hp with h | h | h <;> simp [h.1]
theorem sides_f1 (L : List (List Int × Int)) (ks : List Nat) : ks.flatMap (f1M L) = flatR markL (ks.map fun x => (atP L x).1) := by
  unfold flatR
  rw [List.flatMap_map]
theorem sides_f2 (L : List (List Int × Int)) (ks : List Nat) : ks.flatMap (f2M L) = (ks.map fun x => (atP L x).2).map (Value.int .i64) := by
  rw [List.map_map]
  induction ks with
  | nil => rfl
  | cons a ks ih => rw [List.flatMap_cons, List.map_cons, ← ih]; rfl
theorem sides_take (L : List (List Int × Int)) (k : Nat) : (((List.range L.length).take k).map fun x => (atP L x).1) = (L.map (·.1)).take k := by
  rw [List.map_take]
  congr 1
  have h := congrArg (List.map (·.1)) (map_atP L)
  rwa [List.map_map] at h
theorem sides_at (L : List (List Int × Int)) (k i : Nat) (hi : i < ((List.range L.length).take k).length) : (((List.range L.length).take k).map fun x => (atP L x).2)[i]?.getD 0 = (atP L i).2 ∧ i < L.length ∧ markAt ((L.map (·.1)).take k) i = (atP L i).1 := by
  have hl : i < k ∧ i < L.length := by rw [List.length_take, List.length_range] at hi; omega
  refine ⟨?_, hl.2, ?_⟩
  · rw [List.getElem?_map, List.getElem?_take_of_lt hl.1, List.getElem?_range hl.2]; rfl
  · unfold markAt atP
    rw [List.getElem?_take_of_lt hl.1, List.getElem?_map, List.getElem?_eq_getElem hl.2]
    rfl
theorem sides_whose (xs ys : List (List Int)) (i : Nat) (hi : i < (sidesL xs ys).length) : (atP (sidesL xs ys) i).2 = (if mhasB xs (atP (sidesL xs ys) i).1 then 1 else 0) + (if mhasB ys (atP (sidesL xs ys) i).1 then 2 else 0) := by
  have hp : atP (sidesL xs ys) i ∈ sidesL xs ys := by
    unfold atP
    rw [List.getElem?_eq_getElem hi]
    exact List.getElem_mem hi
  unfold mhasB
  rcases sides_inM xs ys _ hp with ⟨e, h1, h2⟩ | ⟨e, h1, h2⟩ | ⟨e, h1, h2⟩
  · rw [e, decide_eq_true h1, decide_eq_false h2]; rfl
  · rw [e, decide_eq_true h1, decide_eq_false h2]; rfl
  · rw [e, decide_eq_true h1, decide_eq_true h2]; rfl

end Go.Proofs.Ytijlmfmpfjjlpaa
