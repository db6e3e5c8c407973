/-
  Walks of layer 1: Sum, New, Seed, Hash. Conditions: fewer than 2^62 bytes.
-/
import Derived.Test.YtbbfibgijackhaaGreatDoorSipC
import Derived.StillTailTactics
namespace Go.Proofs.YtbbfibgijackhaaGreatDoor
open Go.RowKit




/-- What Hash is handed: a list of lists of bytes. -/
def PsSl (w : World) (v : Value) (ps : List (List Int)) : Prop :=
  ((∃ a cap, v = .slice a 0 cap) ∧ ps = []) ∨ ∃ blk off cap, v = .slice (some ⟨blk, off, none⟩) ps.length cap ∧ ps.length ≤ cap ∧ cap ≤ maxLen ∧ ∀ i, i < ps.length → ∃ u, w.cell? ⟨blk, off + i, none⟩ = some u ∧ BySl Nb w u (ps[i]?.getD [])

theorem BySl.fresh {w w' : World} {v : Value} {zs : List Int} (h : BySl Nb w v zs) (B : Nat) (hB : w.heap.size ≤ B) (S : Nat → Prop) (k : Kp S w w') (hS : ∀ i, i < w.heap.size → ¬ S i) : BySl (Jb B) w' v zs := by
  obtain ⟨hz, h⟩ := h
  refine ⟨hz, ?_⟩
  rcases h with h | ⟨blk, off, cap, hv, hc, hm, hb, hn⟩
  · exact .inl h
  · refine .inr ⟨blk, off, cap, hv, hc, hm, fun i hi => k.cell (hb i hi) (hS _ (World.block_lt_of_cell? _ _ (hb i hi))), fun h0 h1 => ?_⟩
    have := World.block_lt_of_cell? _ _ (hb 0 h0)
    unfold Jb at h1
    simp only at this
    omega





end Go.Proofs.YtbbfibgijackhaaGreatDoor
