/-
  Lists of cells that are parts, each as long as the others: one behind another in a block. Nothing of the program is named here. No condition.
-/
import Derived.Test.YtbbfibgijackhaaGreatDoorRowCut
namespace Go.Proofs.YtbbfibgijackhaaGreatDoor
open Go.RowKit

section
variable {α : Type} {f : α → List Value} {z : α} {c : Nat} {qs : List α}
def flatR (f : α → List Value) (qs : List α) : List Value := qs.flatMap f
theorem flatR_cons (q : α) (qs : List α) : flatR f (q :: qs) = f q ++ flatR f qs := rfl
theorem flatR_append (qs rs : List α) : flatR f (qs ++ rs) = flatR f qs ++ flatR f rs := by unfold flatR; rw [List.flatMap_append]
theorem flatR_length : ∀ (qs : List α), (∀ q ∈ qs, (f q).length = c) → (flatR f qs).length = qs.length * c
  | [], _ => by simp [flatR]
  | q :: r, h => by
    rw [flatR_cons, List.length_append, h q (by simp), flatR_length r (fun x hx => h x (by simp [hx])), List.length_cons, Nat.succ_mul]
    omega
theorem flatR_get : ∀ (qs : List α) (i j : Nat), (∀ q ∈ qs, (f q).length = c) → i < qs.length → j < c → (flatR f qs)[i * c + j]? = (f (qs[i]?.getD z))[j]?
  | [], i, _, _, hi, _ => by simp at hi
  | q :: r, 0, j, h, _, hj => by
    rw [flatR_cons, Nat.zero_mul, Nat.zero_add, List.getElem?_append_left (by rw [h q (by simp)]; exact hj)]
    rfl
  | q :: r, i + 1, j, h, hi, hj => by
    rw [flatR_cons, List.getElem?_append_right (by rw [h q (by simp), Nat.succ_mul]; omega), h q (by simp), show (i + 1) * c + j - c = i * c + j from by rw [Nat.succ_mul]; omega]
    rw [flatR_get r i j (fun x hx => h x (by simp [hx])) (by simpa using hi) hj]
    rfl
theorem flatR_set : ∀ (qs : List α) (i : Nat) (x : α), (∀ q ∈ qs, (f q).length = c) → (f x).length = c → i < qs.length → (flatR f qs).take (i * c) ++ f x ++ (flatR f qs).drop (i * c + c) = flatR f (qs.set i x)
  | [], i, _, _, _, hi => by simp at hi
  | q :: r, 0, x, h, hx, _ => by
    rw [flatR_cons, Nat.zero_mul, List.take_zero, List.nil_append, Nat.zero_add, List.drop_left' (h q (by simp))]
    rfl
  | q :: r, i + 1, x, h, hx, hi => by
    have hq := h q (by simp)
    have ih := flatR_set r i x (fun y hy => h y (by simp [hy])) hx (by simpa using hi)
    rw [List.set_cons_succ, flatR_cons, flatR_cons, ← ih, List.take_append, List.take_of_length_le (by rw [hq, Nat.succ_mul]; omega), List.drop_append, List.drop_of_length_le (by rw [hq, Nat.succ_mul]; omega), hq, List.nil_append, show (i + 1) * c - c = i * c from by rw [Nat.succ_mul]; omega, show (i + 1) * c + c - c = i * c + c from by rw [Nat.succ_mul]; omega]
    simp [List.append_assoc]
/-- A row of parts in a block, and what lies behind it. -/
theorem flat_range {w : World} {B T : Nat} {rest : List Value} (h : Blk w B T (flatR f qs ++ rest)) (hl : ∀ q ∈ qs, (f q).length = c) (i : Nat) (hi : i < qs.length) (hf : (f (qs[i]?.getD z)).length = c) : w.rangeAt B (i * c) (f (qs[i]?.getD z)) :=
  h.range (i * c) _ (fun j hj => by
    have hj' : j < c := by rw [← hf]; exact hj
    have hlt : i * c + j < (flatR f qs).length := by
      rw [flatR_length qs hl]
      have h1 : (i + 1) * c ≤ qs.length * c := Nat.mul_le_mul_right c hi
      rw [Nat.succ_mul] at h1
      omega
    rw [List.getElem?_append_left hlt]
    exact flatR_get qs i j hl hi hj')
theorem flat_put {w : World} {B T : Nat} {rest : List Value} (h : Blk w B T (flatR f qs ++ rest)) (hl : ∀ q ∈ qs, (f q).length = c) (i : Nat) (x : α) (hi : i < qs.length) (hx : (f x).length = c) : Blk (w.setCells B (i * c) (f x)) B T (flatR f (qs.set i x) ++ rest) := by
  have hfl := flatR_length qs hl
  have h1 : (i + 1) * c ≤ qs.length * c := Nat.mul_le_mul_right c hi
  rw [Nat.succ_mul] at h1
  have h2 := Blk.setCells (f x) (i * c) w _ h (by rw [List.length_append, hfl, hx]; omega)
  rw [← flatR_set qs i x hl hx hi]
  have e : (flatR f qs ++ rest).take (i * c) ++ f x ++ (flatR f qs ++ rest).drop (i * c + (f x).length) = ((flatR f qs).take (i * c) ++ f x ++ (flatR f qs).drop (i * c + c)) ++ rest := by
    rw [List.take_append_of_le_length (by omega), List.drop_append_of_le_length (by omega), hx]
    simp [List.append_assoc]
  rw [e] at h2
  exact h2
theorem flat_there {w : World} {B T : Nat} {rest : List Value} (h : Blk w B T (flatR f qs ++ rest)) (hl : ∀ q ∈ qs, (f q).length = c) (i : Nat) (hi : i < qs.length) : w.there B (i * c) c := by
  have hfl := flatR_length qs hl
  have h1 : (i + 1) * c ≤ qs.length * c := Nat.mul_le_mul_right c hi
  rw [Nat.succ_mul] at h1
  exact h.there _ _ (by rw [List.length_append, hfl]; omega)
/-- Its own row (World.ownsRow), as a block. -/
theorem own_blk {w : World} {base e n : Nat} {v : Value} {xs : List Value} (h : w.ownsRow base e c v n xs) (hn : 0 < n) : ∃ g cap rest, v = .slice (some ⟨g, 0, none⟩) n cap ∧ base ≤ g ∧ Blk w g e (xs ++ rest) ∧ n ≤ cap ∧ cap ≤ maxLen := by
  rcases h.2 with ⟨_, h0⟩ | ⟨g, cap, cur, rfl, hb, hg, hc, hm, hs, ht⟩
  · omega
  · refine ⟨g, cap, cur.toList.drop (n * c), rfl, hb, ?_, hc, hm⟩
    unfold Blk
    rw [hg, ← ht, List.take_append_drop]
end

end Go.Proofs.YtbbfibgijackhaaGreatDoor
