/-
  Layer 9: plain: what MarksWhole asks of two sets. Condition: marks of 16 bytes.
-/
import Derived.Test.YtijlmfmpfjjlpaaMaR
namespace Go.Proofs.Ytijlmfmpfjjlpaa
open Go.RowKit

theorem eq_of_mem {a b : List (List Int)} (ha : rightB a = true) (hb : rightB b = true) (h : ∀ m, m ∈ a ↔ m ∈ b) : a = b := rise_unique (rise_of ha) (rise_of hb) h
section
variable {x y : List (List Int)}
theorem minus_is (hx : rightB x = true) (hy : rightB y = true) : thoseT true false false y x = thoseT false true false x y := eq_of_mem (those_rise _ _ _ _ _) (those_rise _ _ _ _ _) fun m => by
  rw [those_mem hy hx, those_mem hx hy]; simp
theorem apart_is (hx : rightB x = true) (hy : rightB y = true) : thoseT true true true (thoseT true false false x y) (thoseT true false false y x) = thoseT true true false x y :=
  eq_of_mem (those_rise _ _ _ _ _) (those_rise _ _ _ _ _) fun m => by
    rw [those_mem (those_rise _ _ _ _ _) (those_rise _ _ _ _ _), those_mem hx hy, those_mem hx hy, those_mem hy hx]
    by_cases h1 : m ∈ x <;> by_cases h2 : m ∈ y <;> simp [h1, h2]
theorem whole_union (hx : rightB x = true) (hy : rightB y = true) : thoseT true true true x y = thoseT true true true (thoseT true true false x y) (thoseT false false true x y) :=
  eq_of_mem (those_rise _ _ _ _ _) (those_rise _ _ _ _ _) fun m => by
    rw [those_mem (those_rise _ _ _ _ _) (those_rise _ _ _ _ _), those_mem hx hy, those_mem hx hy, those_mem hx hy]
    by_cases h1 : m ∈ x <;> by_cases h2 : m ∈ y <;> simp [h1, h2]
theorem whole_meet (hx : rightB x = true) (hy : rightB y = true) : thoseT false false true (thoseT true true false x y) (thoseT false false true x y) = [] :=
  List.eq_nil_iff_forall_not_mem.2 fun m hm => by
    rw [those_mem (those_rise _ _ _ _ _) (those_rise _ _ _ _ _), those_mem hx hy, those_mem hx hy] at hm
    by_cases h1 : m ∈ x <;> by_cases h2 : m ∈ y <;> simp [h1, h2] at hm
theorem whole_both (hx : rightB x = true) (hy : rightB y = true) : thoseT true false false x (thoseT true false false x y) = thoseT false false true x y :=
  eq_of_mem (those_rise _ _ _ _ _) (those_rise _ _ _ _ _) fun m => by
    rw [those_mem hx (those_rise _ _ _ _ _), those_mem hx hy, those_mem hx hy]
    by_cases h1 : m ∈ x <;> by_cases h2 : m ∈ y <;> simp [h1, h2]
theorem pk_count (L : List (List Int × Int)) (h : ∀ p ∈ L, p.2 = 1 ∨ p.2 = 2 ∨ p.2 = 3) :
    (L.filter (pkF true false false)).length + (L.filter (pkF false true false)).length + (L.filter (pkF false false true)).length = (L.filter (pkF true true true)).length := by
  induction L with
  | nil => rfl
  | cons p L ih =>
    have ih := ih (fun q hq => h q (by simp [hq]))
    obtain ⟨m, c⟩ := p
    have hc := h (m, c) (by simp)
    dsimp only at hc
    rcases hc with rfl | rfl | rfl
    all_goals
      simp only [List.filter_cons, pkF] at ih ⊢
      simp
      omega
theorem whole_len (hx : rightB x = true) (hy : rightB y = true) (ox : ∀ m ∈ x, MarkOk m) (oy : ∀ m ∈ y, MarkOk m) :
    (thoseT true false false x y).length + (thoseT true false false y x).length + (thoseT false false true x y).length = (thoseT true true true x y).length := by
  rw [minus_is hx hy]
  unfold thoseT
  rw [hx, hy, Bool.and_self]
  simp only [if_pos, List.length_map]
  exact pk_count _ (fun p hp => (mergeN_ok _ x y ox oy p hp).2)
theorem whole_fold (hx : rightB x = true) (hy : rightB y = true) (ox : ∀ m ∈ x, MarkOk m) (oy : ∀ m ∈ y, MarkOk m) : foldM (thoseT true true false x y) = foldM [foldM x, foldM y] := by
  have e : thoseT true true false x y = apart (mergeN (x.length + y.length) x y) := by
    unfold thoseT
    rw [hx, hy]
    rfl
  rw [e, fold_merge _ x y ox oy (Nat.le_refl _), fold_two (foldM_ok x)]
end

end Go.Proofs.Ytijlmfmpfjjlpaa
