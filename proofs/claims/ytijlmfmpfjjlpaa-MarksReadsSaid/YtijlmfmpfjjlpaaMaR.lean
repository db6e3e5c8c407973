/-
  Layer 9: plain: folds. Condition: marks of 16 bytes.
-/
import Derived.Test.YtijlmfmpfjjlpaaMaQ
namespace Go.Proofs.Ytijlmfmpfjjlpaa
open Go.RowKit

theorem foldAt_rng (ms : List (List Int)) (i : Nat) (hi : i < 16) : 0 ≤ foldAt ms i ∧ foldAt ms i < 256 := by
  have h := (foldM_ok ms).at i
  unfold foldM at h
  rw [List.getElem?_map, List.getElem?_range hi] at h
  exact h
theorem foldAt_from (i : Nat) (hi : i < 16) : ∀ (ms : List (List Int)), (∀ m ∈ ms, MarkOk m) → ∀ x : Int, 0 ≤ x → x < 256 → ms.foldl (fun x m => bits .xor .u8 x (m[i]?.getD 0)) x = bits .xor .u8 x (foldAt ms i)
  | [], _, x, h0, h1 => (x8_zero x h0 h1).symm
  | m :: ms, h, x, h0, h1 => by
    have hm := (h m (by simp)).at i
    have ih := foldAt_from i hi ms (fun q hq => h q (by simp [hq]))
    have hr := foldAt_rng ms i hi
    have e1 := ih (bits .xor .u8 x (m[i]?.getD 0)) (x8_rng _ _).1 (x8_rng _ _).2
    have e2 := ih (bits .xor .u8 0 (m[i]?.getD 0)) (x8_rng _ _).1 (x8_rng _ _).2
    have e3 : foldAt (m :: ms) i = bits .xor .u8 (m[i]?.getD 0) (foldAt ms i) := by
      show ms.foldl _ (bits .xor .u8 0 (m[i]?.getD 0)) = _
      rw [e2, x8_comm 0 _ (by decide) (by decide) hm.1 hm.2, x8_zero _ hm.1 hm.2]
    rw [e3, List.foldl_cons, e1, x8_assoc x _ _ h0 h1 hm.1 hm.2 hr.1 hr.2]
theorem foldM_cons {m : List Int} {ms : List (List Int)} (h : ∀ q ∈ m :: ms, MarkOk q) : foldM (m :: ms) = layL m (foldM ms) := by
  refine mark_ext (foldM_len _) (layL_length _ _) fun i hi => ?_
  rw [layL_get _ _ i hi]
  have hm := (h m (by simp)).at i
  have e := foldAt_from i hi ms (fun q hq => h q (by simp [hq])) (bits .xor .u8 0 (m[i]?.getD 0)) (x8_rng _ _).1 (x8_rng _ _).2
  have e1 : (foldM (m :: ms))[i]?.getD 0 = foldAt (m :: ms) i := by unfold foldM; rw [List.getElem?_map, List.getElem?_range hi]; rfl
  have e2 : (foldM ms)[i]?.getD 0 = foldAt ms i := by unfold foldM; rw [List.getElem?_map, List.getElem?_range hi]; rfl
  rw [e1, e2]
  show ms.foldl _ (bits .xor .u8 0 (m[i]?.getD 0)) = _
  rw [e, x8_comm 0 _ (by decide) (by decide) hm.1 hm.2, x8_zero _ hm.1 hm.2]
abbrev apart (L : List (List Int × Int)) : List (List Int) := (L.filter (pkF true true false)).map (·.1)
theorem apart_ok {L : List (List Int × Int)} (h : ∀ p ∈ L, MarkOk p.1) : ∀ m ∈ apart L, MarkOk m := fun m hm => by
  obtain ⟨p, hp, rfl⟩ := List.mem_map.1 hm
  exact h p (List.mem_filter.1 hp).1
theorem lay_zero' {a : List Int} (h : MarkOk a) : layL (List.replicate 16 0) a = a := by rw [lay_comm zero_ok h]; exact lay_zero h
theorem fold_merge (f : Nat) : ∀ (xs ys : List (List Int)), (∀ m ∈ xs, MarkOk m) → (∀ m ∈ ys, MarkOk m) → xs.length + ys.length ≤ f → foldM (apart (mergeN f xs ys)) = layL (foldM xs) (foldM ys) := by
  induction f with
  | zero =>
    intro xs ys _ _ h
    obtain rfl : xs = [] := List.length_eq_zero_iff.1 (by omega)
    obtain rfl : ys = [] := List.length_eq_zero_iff.1 (by omega)
    rw [foldM_nil]
    exact (lay_zero zero_ok).symm.trans rfl
  | succ f ih =>
    intro xs ys hx hy h
    have one : ∀ (m : List Int) (rest : List (List Int × Int)), MarkOk m → (∀ p ∈ rest, MarkOk p.1) → ∀ c : Int, (c = 1 ∨ c = 2) → foldM (apart ((m, c) :: rest)) = layL m (foldM (apart rest)) := fun m rest hm hr c hc => by
      have e : apart ((m, c) :: rest) = m :: apart rest := by rcases hc with rfl | rfl <;> rfl
      rw [e]
      exact foldM_cons (fun q hq => (List.mem_cons.1 hq).elim (fun e => by rw [e]; exact hm) (fun hq => apart_ok hr q hq))
    have okr : ∀ (us vs : List (List Int)), (∀ m ∈ us, MarkOk m) → (∀ m ∈ vs, MarkOk m) → ∀ p ∈ mergeN f us vs, MarkOk p.1 := fun us vs h1 h2 p hp => (mergeN_ok f us vs h1 h2 p hp).1
    cases xs with
    | nil =>
      cases ys with
      | nil =>
        rw [foldM_nil]
        exact (lay_zero zero_ok).symm.trans rfl
      | cons b ys =>
        have hy' : ∀ m ∈ ys, MarkOk m := fun m hm => hy m (by simp [hm])
        have e : mergeN (f + 1) [] (b :: ys) = (b, 2) :: mergeN f [] ys := by rw [mergeN, if_neg (by simp)]; rfl
        rw [e, one b _ (hy b (by simp)) (okr [] ys hx hy') 2 (.inr rfl), ih [] ys hx hy' (by simp at h ⊢; omega), foldM_cons hy, foldM_nil, lay_zero' (foldM_ok ys), lay_zero' (layL_ok _ _)]
    | cons a xs =>
      have hx' : ∀ m ∈ xs, MarkOk m := fun m hm => hx m (by simp [hm])
      have ha := hx a (by simp)
      cases ys with
      | nil =>
        have e : mergeN (f + 1) (a :: xs) [] = (a, 1) :: mergeN f xs [] := by rw [mergeN, if_neg (by simp)]; rfl
        rw [e, one a _ ha (okr xs [] hx' hy) 1 (.inl rfl), ih xs [] hx' hy (by simp at h ⊢; omega), foldM_cons hx, foldM_nil, lay_zero (foldM_ok xs), lay_zero (layL_ok _ _)]
      | cons b ys =>
        have hy' : ∀ m ∈ ys, MarkOk m := fun m hm => hy m (by simp [hm])
        have hb := hy b (by simp)
        cases h1 : lexI a b with
        | true =>
          have e : mergeN (f + 1) (a :: xs) (b :: ys) = (a, 1) :: mergeN f xs (b :: ys) := by
            rw [mergeN, if_neg (by simp), leastM_cons, h1]
            rfl
          rw [e, one a _ ha (okr xs (b :: ys) hx' hy) 1 (.inl rfl), ih xs (b :: ys) hx' hy (by simp at h ⊢; omega), foldM_cons hx, lay_assoc ha (foldM_ok xs) (foldM_ok _)]
        | false =>
          cases h2 : lexI b a with
          | true =>
            have e : mergeN (f + 1) (a :: xs) (b :: ys) = (b, 2) :: mergeN f (a :: xs) ys := by
              rw [mergeN, if_neg (by simp), leastM_cons, h1, h2]
              rfl
            rw [e, one b _ hb (okr (a :: xs) ys hx hy') 2 (.inr rfl), ih (a :: xs) ys hx hy' (by simp at h ⊢; omega), foldM_cons hy, ← lay_assoc hb (foldM_ok _) (foldM_ok ys), lay_comm hb (foldM_ok _), lay_assoc (foldM_ok _) hb (foldM_ok ys)]
          | false =>
            have hab := lexI_tri a b h1 h2
            subst hab
            have e : mergeN (f + 1) (a :: xs) (a :: ys) = (a, 3) :: mergeN f xs ys := by
              rw [mergeN, if_neg (by simp), leastM_cons, h1]
              rfl
            have e2 : apart ((a, 3) :: mergeN f xs ys) = apart (mergeN f xs ys) := rfl
            rw [e, e2, ih xs ys hx' hy' (by simp at h ⊢; omega), foldM_cons hx, foldM_cons hy, lay_assoc ha (foldM_ok xs) (layL_ok _ _), ← lay_assoc (foldM_ok xs) ha (foldM_ok ys), lay_comm (foldM_ok xs) ha, lay_assoc ha (foldM_ok xs) (foldM_ok ys), ← lay_assoc ha ha (layL_ok _ _), lay_self ha, lay_zero' (layL_ok _ _)]

end Go.Proofs.Ytijlmfmpfjjlpaa
