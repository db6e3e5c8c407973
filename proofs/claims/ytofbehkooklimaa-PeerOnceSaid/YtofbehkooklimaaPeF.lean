/-
  Layer 29: the walk of PeerTells. Condition: what an int is.
-/
import Derived.Test.YtofbehkooklimaaPeE
namespace Go.Proofs.Ytofbehkooklimaa
open Go.RowKit

def pclampZ (m : Int) : Int := max 0 (min m 100)
theorem pAs_length (n m : Int) : (pAs n m).length = min m.toNat (pairsN n) := by unfold pAs pairsL; rw [List.length_map, List.length_take, pairsTo_length]
theorem pBs_length (n m : Int) : (pBs n m).length = min m.toNat (pairsN n) := by unfold pBs pairsL; rw [List.length_map, List.length_take, pairsTo_length]
theorem pAs_get (n m : Int) (j : Nat) (h : j < min m.toNat (pairsN n)) : (pAs n m)[j]?.getD 0 = (pairAt n j).1 := by
  unfold pAs pairsL
  rw [List.getElem?_map, List.getElem?_take_of_lt (by omega), pairsTo_get _ _ _ (by omega)]
  rfl
theorem pBs_get (n m : Int) (j : Nat) (h : j < min m.toNat (pairsN n)) : (pBs n m)[j]?.getD 0 = (pairAt n j).2 := by
  unfold pBs pairsL
  rw [List.getElem?_map, List.getElem?_take_of_lt (by omega), pairsTo_get _ _ _ (by omega)]
  rfl
theorem pround_len (n m : Int) (L : Nat) (hL : L = min m.toNat (pairsN n)) (w : World) :
    Calls Try.prog 36 #[.int .i64 n, .int .i64 m] w fun r w' => (∃ x1 c1 x2 c2, r = .returned (.tuple #[.slice x1 L c1, .slice x2 L c2]) ∧ Hid (∀ j, j < L → ∃ b1 b2, x1 = Option.some ⟨b1, 0, none⟩ ∧ x2 = Option.some ⟨b2, 0, none⟩ ∧ w'.cell? ⟨b1, j, none⟩ = Option.some (.int .i64 (pairAt n j).1) ∧ w'.cell? ⟨b2, j, none⟩ = Option.some (.int .i64 (pairAt n j).2))) ∧ Kp Nb w w' := by
  refine (pround_any n m w).mono ?_
  rintro r w' ⟨⟨v1, v2, rfl, r1, r2⟩, k⟩
  obtain ⟨x1, c1, rfl⟩ := r1.shape
  obtain ⟨x2, c2, rfl⟩ := r2.shape
  rw [pAs_length, pBs_length, ← hL]
  refine ⟨⟨x1, c1, x2, c2, rfl, fun j hj => ?_⟩, k⟩
  obtain ⟨b1, d1, e1, q1⟩ := r1.pos (by rw [pAs_length]; omega)
  obtain ⟨b2, d2, e2, q2⟩ := r2.pos (by rw [pBs_length]; omega)
  have h1 := q1 j (by rw [pAs_length]; omega)
  have h2 := q2 j (by rw [pBs_length]; omega)
  rw [pAs_get n m j (by omega)] at h1
  rw [pBs_get n m j (by omega)] at h2
  injection e1 with e1
  injection e2 with e2
  exact ⟨b1, b2, e1, e2, h1, h2⟩
/-- The reference's rows, with their length as a letter. -/
theorem rpairs_len (N P : Nat) (h2 : 2 ≤ N) (h8 : N ≤ 8) (hP : P = (N - 1) * N) (w : World) :
    Calls Try.prog 41 #[.int .i64 N] w fun r w' => (∃ b1 c1 b2 c2, r = .returned (.tuple #[.slice (some ⟨b1, 0, none⟩) P c1, .slice (some ⟨b2, 0, none⟩) P c2]) ∧ Hid (∀ j, j < P → w'.cell? ⟨b1, j, none⟩ = Option.some (.int .i64 (pairAt N j).1) ∧ w'.cell? ⟨b2, j, none⟩ = Option.some (.int .i64 (pairAt N j).2))) ∧ Kp Nb w w' := by
  refine (rpairs_walk N w h2 h8).mono ?_
  rintro r w' ⟨va, vb, rfl, h⟩
  have hp : 0 < P := by rw [hP]; exact Nat.mul_pos (by omega) (by omega)
  rw [← hP] at h
  obtain ⟨b1, d1, e1, q1⟩ := (IntRow.of h.a).pos (by rw [fstL_length]; exact hp)
  obtain ⟨b2, d2, e2, q2⟩ := (IntRow.of h.b).pos (by rw [sndL_length]; exact hp)
  rw [fstL_length] at e1 q1
  rw [sndL_length] at e2 q2
  subst e1 e2
  refine ⟨⟨b1, d1, b2, d2, rfl, fun j hj => ?_⟩, h.kp⟩
  have h1 := q1 j hj
  have h2 := q2 j hj
  rw [show (fstL N P)[j]?.getD 0 = (pairAt N j).1 from by unfold fstL; rw [List.getElem?_map, pairsTo_get _ _ _ hj]; rfl] at h1
  rw [show (sndL N P)[j]?.getD 0 = (pairAt N j).2 from by unfold sndL; rw [List.getElem?_map, pairsTo_get _ _ _ hj]; rfl] at h2
  exact ⟨h1, h2⟩

theorem peerB_in {n d t : Int} (h : isB n d = true) (ht : 0 ≤ t) : peerB n d t = true := by unfold peerB; rw [h, decide_eq_true ht]; rfl
theorem peerB_out {n d t : Int} (h : isB n d = false) : peerB n d t = false := by unfold peerB; rw [h]; rfl
theorem peerB_neg {n d t : Int} (ht : ¬ 0 ≤ t) : peerB n d t = false := by unfold peerB; rw [decide_eq_false ht, Bool.and_false]
theorem peerV_no {n d t : Int} (h : peerB n d t = false) : peerV n d t = 0 := by unfold peerV; rw [h]; rfl
theorem turnV_no {n d t : Int} (h : turnB n d t = false) : turnV n d t = 0 := by unfold turnV; rw [h]; rfl

theorem peerV_mod (N D : Nat) (t : Int) (h2 : 2 ≤ N) (h8 : N ≤ 8) (hd : D < N) (ht : 0 ≤ t) : peerV N D t = peerV N D (t % ((N : Int) - 1)) := by
  have m1 := Int.emod_nonneg t (show (N : Int) - 1 ≠ 0 by omega)
  have b1 : peerB N D t = true := peerB_in (isB_t (by omega)) ht
  have b2 : peerB N D (t % ((N : Int) - 1)) = true := peerB_in (isB_t (by omega)) m1
  unfold peerV
  rw [if_pos b1, if_pos b2]
  unfold peerZ
  rw [Int.emod_emod]
theorem turnV_lt (N D T : Nat) (h2 : 2 ≤ N) (h8 : N ≤ 8) (hd : D < N) (ht : T < N) (hne : D ≠ T) : turnV N D T = if D < T then ((T - D - 1 : Nat) : Int) else ((T + N - D - 1 : Nat) : Int) := by
  have hb : turnB N D T = true := by unfold turnB; rw [isB_t (by omega), isB_t (by omega), decide_eq_false (by omega)]; rfl
  unfold turnV
  rw [if_pos hb]
  unfold turnZ
  rw [Int.add_emod_right]
  split
  · rw [show ((T : Int) - D - 1) = ((T - D - 1 : Nat) : Int) by omega]
    exact Int.emod_eq_of_lt (by omega) (by omega)
  · rw [show ((T : Int) - D - 1) = ((T + N - D - 1 : Nat) : Int) - N by omega, Int.sub_emod_right]
    exact Int.emod_eq_of_lt (by omega) (by omega)
/-- Turns and peers undo one another. -/
theorem turn_peer (N D T : Nat) (h2 : 2 ≤ N) (h8 : N ≤ 8) (hd : D < N) (ht : T < N) (hne : D ≠ T) : ∃ Z : Nat, turnV N D T = (Z : Int) ∧ Z < N - 1 ∧ peerV N D Z = (T : Int) := by
  have h := turnV_lt N D T h2 h8 hd ht hne
  split at h
  · refine ⟨_, h, by omega, ?_⟩
    rw [peerV_at N D _ h2 h8 hd (by omega)]
    split <;> omega
  · refine ⟨_, h, by omega, ?_⟩
    rw [peerV_at N D _ h2 h8 hd (by omega)]
    split <;> omega
def inB (n d : Int) : Bool := decide (0 ≤ d ∧ d < n)

end Go.Proofs.Ytofbehkooklimaa
