/-
  Slices whose parts are lists of cells (RowsSl): kept, cut. Nothing of the program is named here. No condition.
-/
import Derived.Test.YtbbfibgijackhaaGreatDoorRow
namespace Go.Proofs.YtbbfibgijackhaaGreatDoor
open Go.RowKit

/-- A slice whose parts are lists of cells f q. -/
def RowsSl {α : Type} (f : α → List Value) (z : α) (c : Nat) (w : World) (v : Value) (qs : List α) : Prop :=
  ((∃ a cap, v = .slice a 0 cap) ∧ qs = []) ∨ ∃ blk off cap, v = .slice (some ⟨blk, off, none⟩) qs.length cap ∧ qs.length ≤ cap ∧ cap ≤ maxLen ∧ ∀ i, i < qs.length → w.rangeAt blk (off + i * c) (f (qs[i]?.getD z))
section
variable {α : Type} {f : α → List Value} {z : α} {c : Nat} {w : World} {v : Value} {qs : List α}
theorem RowsSl.shape (h : RowsSl f z c w v qs) : ∃ y d, v = .slice y qs.length d := by
  rcases h with ⟨⟨a, c, rfl⟩, rfl⟩ | ⟨blk, off, cap, rfl, _⟩
  · exact ⟨a, c, rfl⟩
  · exact ⟨_, _, rfl⟩
theorem RowsSl.kept {w' : World} (h : RowsSl f z c w v qs) (k : Kp Nb w w') : RowsSl f z c w' v qs := by
  rcases h with h | ⟨blk, off, cap, rfl, hc, hm, hr⟩
  · exact .inl h
  · exact .inr ⟨blk, off, cap, rfl, hc, hm, fun i hi j v hv => k.cell (hr i hi j v hv) (fun h => h)⟩
variable {P : Program} {t e : TypeId}
theorem elem_of (ht : P.underlying t = some (.slice e)) : P.elem t = e := by simp [Program.elem, ht]
theorem elem_under (ht : P.underlying t = some (.slice e)) : P.underlying t = some (.slice (P.elem t)) := by rw [elem_of ht]; exact ht
theorem size_of {n : Nat} (hs : (P.info? e).map (·.size) = some n) (w : World) : (sizeOf e).run P w = .ok n w := by
  obtain ⟨i, hi, hz⟩ : ∃ i, P.info? e = some i ∧ i.size = n := by simpa using hs
  simp [Go.sizeOf, typeInfo, hi, hz]
theorem add_mid (blk off n : Nat) : Addr.add ⟨blk, off, none⟩ n = ⟨blk, off + n, none⟩ := by unfold Addr.add; split <;> simp_all
/-- v[n:]. -/
theorem RowsSl.cutL (ht : P.underlying t = some (.slice e)) (hs : (P.info? e).map (·.size) = some c) (h : RowsSl f z c w v qs) (n : Nat) (hn : n ≤ qs.length) :
    ∃ x d, (∀ W, (Instr.slice t v (some (.int .i64 (n : Int))) none none).run P W = .ok (.slice x (qs.length - n) d) W) ∧ RowsSl f z c w (.slice x (qs.length - n) d) (qs.drop n) := by
  obtain ⟨⟨a, d, rfl⟩, rfl⟩ | ⟨blk, off, cap, rfl, hc, hm, hb⟩ := h
  · have h0 : n = 0 := by simpa using hn
    subst h0
    refine ⟨if d = 0 then a else a.map (·.add (0 * c)), d - 0, fun W => ?_, .inl ⟨⟨_, _, rfl⟩, rfl⟩⟩
    rw [run_slice_l W _ _ _ _ (elem_under ht) .i64 _ (by omega) (by omega), elem_of ht, size_of hs]
    rfl
  · refine ⟨if cap = n then some ⟨blk, off, none⟩ else some ⟨blk, off + n * c, none⟩, cap - n, fun W => ?_, ?_⟩
    · rw [run_slice_l W _ _ _ _ (elem_under ht) .i64 _ (by omega) (by omega), elem_of ht, size_of hs]
      show Result.ok (sliced _ _ _ _ _) W = _
      unfold sliced
      rw [Int.toNat_natCast]
      congr 2
      show (if cap = n then some (⟨blk, off, none⟩ : Addr) else some (Addr.add ⟨blk, off, none⟩ (n * c))) = _
      rw [add_mid]
    · have hl : (qs.drop n).length = qs.length - n := List.length_drop
      by_cases hcap : cap = n
      · refine .inl ⟨⟨if cap = n then some ⟨blk, off, none⟩ else some ⟨blk, off + n * c, none⟩, cap - n, ?_⟩, List.drop_eq_nil_of_le (by omega)⟩
        rw [show qs.length - n = 0 from by omega]
      · refine .inr ⟨blk, off + n * c, cap - n, ?_, by omega, by omega, fun i hi => ?_⟩
        · rw [if_neg hcap, hl]
        · rw [List.getElem?_drop, show off + n * c + i * c = off + (n + i) * c from by rw [Nat.add_mul]; omega]
          exact hb (n + i) (by omega)
/-- v[:n]. -/
theorem RowsSl.cutH (ht : P.underlying t = some (.slice e)) (hs : (P.info? e).map (·.size) = some c) (h : RowsSl f z c w v qs) (n : Nat) (hn : n ≤ qs.length) :
    ∃ x d, (∀ W, (Instr.slice t v none (some (.int .i64 (n : Int))) none).run P W = .ok (.slice x n d) W) ∧ RowsSl f z c w (.slice x n d) (qs.take n) := by
  obtain ⟨⟨a, d, rfl⟩, rfl⟩ | ⟨blk, off, cap, rfl, hc, hm, hb⟩ := h
  · have h0 : n = 0 := by simpa using hn
    subst h0
    refine ⟨if d = 0 then a else a.map (·.add (0 * c)), d - 0, fun W => ?_, .inl ⟨⟨_, _, rfl⟩, rfl⟩⟩
    rw [run_slice_h W _ _ _ _ (elem_under ht) .i64 _ (by omega) (by omega), elem_of ht, size_of hs]
    rfl
  · refine ⟨some ⟨blk, off, none⟩, cap, fun W => ?_, ?_⟩
    · rw [run_slice_h W _ _ _ _ (elem_under ht) .i64 _ (by omega) (by omega), elem_of ht, size_of hs]
      show Result.ok (sliced _ _ _ _ _) W = _
      unfold sliced
      congr 2
      split <;> simp [Addr.add]
    · have hl : (qs.take n).length = n := by rw [List.length_take]; omega
      refine .inr ⟨blk, off, cap, ?_, by omega, hm, fun i hi => ?_⟩
      · rw [hl]
      · rw [hl] at hi
        rw [List.getElem?_take_of_lt hi]
        exact hb i (by omega)
/-- A slice that lies in a block known whole. -/
theorem RowsSl.of_blk {B T n : Nat} {vs : List Value} (h : Blk w B T vs) (hn : qs.length = n) (hm : n ≤ maxLen) (hv : ∀ i, i < n → ∀ j, j < (f (qs[i]?.getD z)).length → vs[i * c + j]? = (f (qs[i]?.getD z))[j]?) : RowsSl f z c w (.slice (some ⟨B, 0, none⟩) n n) qs := by
  refine .inr ⟨B, 0, n, by rw [hn], by omega, hm, fun i hi => ?_⟩
  intro j v hj
  rw [Nat.zero_add, h.cell, hv i (by omega) j (List.getElem?_eq_some_iff.1 hj).1]
  exact hj
/-- A part written over in a block known whole. -/
theorem part_set {vs u : List Value} {o : Nat} (hl : o + u.length ≤ vs.length) (j : Nat) : (vs.take o ++ u ++ vs.drop (o + u.length))[j]? = if o ≤ j ∧ j < o + u.length then u[j - o]? else vs[j]? := by
  rcases Nat.lt_or_ge j o with h | h
  · rw [if_neg (by omega), List.append_assoc, List.getElem?_append_left (by rw [List.length_take]; omega), List.getElem?_take_of_lt h]
  · rcases Nat.lt_or_ge j (o + u.length) with h2 | h2
    · rw [if_pos ⟨h, h2⟩, List.append_assoc, List.getElem?_append_right (by rw [List.length_take]; omega), List.length_take, Nat.min_eq_left (by omega), List.getElem?_append_left (by omega)]
    · rw [if_neg (by omega), List.getElem?_append_right (by rw [List.length_append, List.length_take]; omega), List.getElem?_drop, List.length_append, List.length_take, Nat.min_eq_left (by omega)]
      congr 1
      omega
theorem part_len {vs u : List Value} {o : Nat} (hl : o + u.length ≤ vs.length) : (vs.take o ++ u ++ vs.drop (o + u.length)).length = vs.length := by
  rw [List.length_append, List.length_append, List.length_take, List.length_drop]; omega
end

end Go.Proofs.YtbbfibgijackhaaGreatDoor
