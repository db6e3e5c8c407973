/-
  Layer 9: plain: what two rising lists beside one another come to. No condition.
-/
import Derived.Test.YtijlmfmpfjjlpaaMaO
namespace Go.Proofs.Ytijlmfmpfjjlpaa
open Go.RowKit

def Lt (x y : List Int) : Prop := lexI x y = true
theorem Lt.tr {x y z : List Int} (h : Lt x y) (k : Lt y z) : Lt x z := lexI_trans _ _ _ h k
theorem Lt.ne {x y : List Int} (h : Lt x y) : x ≠ y := fun e => by rw [e] at h; have : lexI y y = true := h; rw [lexI_irr] at this; cases this
/-- The pair p belongs beside xs and ys. -/
def InM (xs ys : List (List Int)) (p : List Int × Int) : Prop := (p.2 = 1 ∧ p.1 ∈ xs ∧ p.1 ∉ ys) ∨ (p.2 = 2 ∧ p.1 ∈ ys ∧ p.1 ∉ xs) ∨ (p.2 = 3 ∧ p.1 ∈ xs ∧ p.1 ∈ ys)
theorem inM_mem {xs ys : List (List Int)} {p : List Int × Int} (h : InM xs ys p) : p.1 ∈ xs ∨ p.1 ∈ ys := by
  rcases h with h | h | h
  · exact .inl h.2.1
  · exact .inr h.2.1
  · exact .inl h.2.1
theorem inM_a {a : List Int} {xs ys : List (List Int)} (hx : ∀ x ∈ xs, Lt a x) (hy : ∀ y ∈ ys, Lt a y) (p : List Int × Int) : InM (a :: xs) ys p ↔ p = (a, 1) ∨ InM xs ys p := by
  obtain ⟨m, c⟩ := p
  have ny : a ∉ ys := fun h => (hy a h).ne rfl
  have nx : a ∉ xs := fun h => (hx a h).ne rfl
  unfold InM
  dsimp only
  by_cases e : m = a
  · subst e
    simp [nx, ny]
  · simp [e]
theorem inM_b {b : List Int} {xs ys : List (List Int)} (hx : ∀ x ∈ xs, Lt b x) (hy : ∀ y ∈ ys, Lt b y) (p : List Int × Int) : InM xs (b :: ys) p ↔ p = (b, 2) ∨ InM xs ys p := by
  obtain ⟨m, c⟩ := p
  have ny : b ∉ ys := fun h => (hy b h).ne rfl
  have nx : b ∉ xs := fun h => (hx b h).ne rfl
  unfold InM
  dsimp only
  by_cases e : m = b
  · subst e
    simp [nx, ny]
  · simp [e]
theorem inM_c {a : List Int} {xs ys : List (List Int)} (hx : ∀ x ∈ xs, Lt a x) (hy : ∀ y ∈ ys, Lt a y) (p : List Int × Int) : InM (a :: xs) (a :: ys) p ↔ p = (a, 3) ∨ InM xs ys p := by
  obtain ⟨m, c⟩ := p
  have ny : a ∉ ys := fun h => (hy a h).ne rfl
  have nx : a ∉ xs := fun h => (hx a h).ne rfl
  unfold InM
  dsimp only
  by_cases e : m = a
  · subst e
    simp [nx, ny]
  · simp [e]
theorem merge_spec (f : Nat) : ∀ (xs ys : List (List Int)), xs.Pairwise Lt → ys.Pairwise Lt → xs.length + ys.length ≤ f → (∀ p, p ∈ mergeN f xs ys ↔ InM xs ys p) ∧ (mergeN f xs ys).Pairwise fun p q => Lt p.1 q.1 := by
  induction f with
  | zero =>
    intro xs ys _ _ h
    obtain rfl : xs = [] := List.length_eq_zero_iff.1 (by omega)
    obtain rfl : ys = [] := List.length_eq_zero_iff.1 (by omega)
    exact ⟨fun p => by simp [mergeN, InM], List.Pairwise.nil⟩
  | succ f ih =>
    intro xs ys hx hy h
    cases xs with
    | nil =>
      cases ys with
      | nil => exact ⟨fun p => by simp [mergeN, InM], List.Pairwise.nil⟩
      | cons b ys =>
        have hy' := List.pairwise_cons.1 hy
        obtain ⟨i1, i2⟩ := ih [] ys List.Pairwise.nil hy'.2 (by simp at h ⊢; omega)
        have e : mergeN (f + 1) [] (b :: ys) = (b, 2) :: mergeN f [] ys := by rw [mergeN, if_neg (by simp)]; rfl
        rw [e]
        refine ⟨fun p => ?_, List.pairwise_cons.2 ⟨fun p hp => ?_, i2⟩⟩
        · rw [List.mem_cons, i1, inM_b (fun x hx => by cases hx) hy'.1]
        · rcases inM_mem ((i1 p).1 hp) with h | h
          · cases h
          · exact hy'.1 _ h
    | cons a xs =>
      have hx' := List.pairwise_cons.1 hx
      cases ys with
      | nil =>
        obtain ⟨i1, i2⟩ := ih xs [] hx'.2 List.Pairwise.nil (by simp at h ⊢; omega)
        have e : mergeN (f + 1) (a :: xs) [] = (a, 1) :: mergeN f xs [] := by rw [mergeN, if_neg (by simp)]; rfl
        rw [e]
        refine ⟨fun p => ?_, List.pairwise_cons.2 ⟨fun p hp => ?_, i2⟩⟩
        · rw [List.mem_cons, i1, inM_a hx'.1 (fun x hx => by cases hx)]
        · rcases inM_mem ((i1 p).1 hp) with h | h
          · exact hx'.1 _ h
          · cases h
      | cons b ys =>
        have hy' := List.pairwise_cons.1 hy
        cases h1 : lexI a b with
        | true =>
          obtain ⟨i1, i2⟩ := ih xs (b :: ys) hx'.2 hy (by simp at h ⊢; omega)
          have e : mergeN (f + 1) (a :: xs) (b :: ys) = (a, 1) :: mergeN f xs (b :: ys) := by
            rw [mergeN, if_neg (by simp), leastM_cons, h1]
            rfl
          have hab : ∀ y ∈ b :: ys, Lt a y := fun y hy => by
            rcases List.mem_cons.1 hy with rfl | hy
            · exact h1
            · exact Lt.tr h1 (hy'.1 y hy)
          rw [e]
          refine ⟨fun p => ?_, List.pairwise_cons.2 ⟨fun p hp => ?_, i2⟩⟩
          · rw [List.mem_cons, i1, inM_a hx'.1 hab]
          · rcases inM_mem ((i1 p).1 hp) with h | h
            · exact hx'.1 _ h
            · exact hab _ h
        | false =>
          cases h2 : lexI b a with
          | true =>
            obtain ⟨i1, i2⟩ := ih (a :: xs) ys hx hy'.2 (by simp at h ⊢; omega)
            have e : mergeN (f + 1) (a :: xs) (b :: ys) = (b, 2) :: mergeN f (a :: xs) ys := by
              rw [mergeN, if_neg (by simp), leastM_cons, h1, h2]
              rfl
            have hba : ∀ x ∈ a :: xs, Lt b x := fun x hx => by
              rcases List.mem_cons.1 hx with rfl | hx
              · exact h2
              · exact Lt.tr h2 (hx'.1 x hx)
            rw [e]
            refine ⟨fun p => ?_, List.pairwise_cons.2 ⟨fun p hp => ?_, i2⟩⟩
            · rw [List.mem_cons, i1, inM_b hba hy'.1]
            · rcases inM_mem ((i1 p).1 hp) with h | h
              · exact hba _ h
              · exact hy'.1 _ h
          | false =>
            have hab := lexI_tri a b h1 h2
            subst hab
            obtain ⟨i1, i2⟩ := ih xs ys hx'.2 hy'.2 (by simp at h ⊢; omega)
            have e : mergeN (f + 1) (a :: xs) (a :: ys) = (a, 3) :: mergeN f xs ys := by
              rw [mergeN, if_neg (by simp), leastM_cons, h1]
              rfl
            rw [e]
            refine ⟨fun p => ?_, List.pairwise_cons.2 ⟨fun p hp => ?_, i2⟩⟩
            · rw [List.mem_cons, i1, inM_c hx'.1 hy'.1]
            · rcases inM_mem ((i1 p).1 hp) with h | h
              · exact hx'.1 _ h
              · exact hy'.1 _ h
/-- The members of what those picks, and that it rises. -/
theorem those_mem {fA fB fC : Bool} {xs ys : List (List Int)} (hx : rightB xs = true) (hy : rightB ys = true) (m : List Int) :
    m ∈ thoseT fA fB fC xs ys ↔ (fA = true ∧ m ∈ xs ∧ m ∉ ys) ∨ (fB = true ∧ m ∈ ys ∧ m ∉ xs) ∨ (fC = true ∧ m ∈ xs ∧ m ∈ ys) := by
  have h := (merge_spec (xs.length + ys.length) xs ys (pair_rise (rise_of hx)) (pair_rise (rise_of hy)) (Nat.le_refl _)).1
  unfold thoseT
  rw [hx, hy, Bool.and_self, if_pos rfl, List.mem_map]
  constructor
  · rintro ⟨p, hp, rfl⟩
    obtain ⟨hp, hk⟩ := List.mem_filter.1 hp
    have hi := (h p).1 hp
    unfold pkF at hk
    rcases hi with ⟨e, h1, h2⟩ | ⟨e, h1, h2⟩ | ⟨e, h1, h2⟩
    · rw [e] at hk; exact .inl ⟨by simpa using hk, h1, h2⟩
    · rw [e] at hk; exact .inr (.inl ⟨by simpa using hk, h1, h2⟩)
    · rw [e] at hk; exact .inr (.inr ⟨by simpa using hk, h1, h2⟩)
  · rintro (⟨e, h1, h2⟩ | ⟨e, h1, h2⟩ | ⟨e, h1, h2⟩)
    · exact ⟨(m, 1), List.mem_filter.2 ⟨(h _).2 (.inl ⟨rfl, h1, h2⟩), by unfold pkF; simp [e]⟩, rfl⟩
    · exact ⟨(m, 2), List.mem_filter.2 ⟨(h _).2 (.inr (.inl ⟨rfl, h1, h2⟩)), by unfold pkF; simp [e]⟩, rfl⟩
    · exact ⟨(m, 3), List.mem_filter.2 ⟨(h _).2 (.inr (.inr ⟨rfl, h1, h2⟩)), by unfold pkF; simp [e]⟩, rfl⟩
theorem those_rise (fA fB fC : Bool) (xs ys : List (List Int)) : rightB (thoseT fA fB fC xs ys) = true := by
  unfold thoseT
  split
  · rename_i h
    rw [Bool.and_eq_true] at h
    have hp := (merge_spec (xs.length + ys.length) xs ys (pair_rise (rise_of h.1)) (pair_rise (rise_of h.2)) (Nat.le_refl _)).2
    refine right_rise (rise_pair ?_)
    rw [List.pairwise_map]
    exact hp.filter _
  · rfl

end Go.Proofs.Ytijlmfmpfjjlpaa
