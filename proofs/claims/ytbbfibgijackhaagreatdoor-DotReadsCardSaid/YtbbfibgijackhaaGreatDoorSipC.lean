/-
  The walk of layer 1's Write over bytes that are there. Conditions: fewer than 2^62 bytes in all; the bytes lie in another block than the sum.
-/
import Derived.Test.YtbbfibgijackhaaGreatDoorSipB
namespace Go.Proofs.YtbbfibgijackhaaGreatDoor
open Go.RowKit



/-- A slice of bytes as a value: nil, or its cells in a block that S doesn't hold of. -/
def BySl (S : Nat → Prop) (w : World) (v : Value) (zs : List Int) : Prop :=
  IsBytes zs ∧ (((∃ a cap, v = .slice a 0 cap) ∧ zs = []) ∨ ∃ blk off cap, v = .slice (some ⟨blk, off, none⟩) zs.length cap ∧ zs.length ≤ cap ∧ cap ≤ maxLen ∧ ByAt w blk off zs ∧ (0 < zs.length → ¬ S blk))

theorem BySl.kept {S S' : Nat → Prop} {w w' : World} {v : Value} {zs : List Int} (h : BySl S w v zs) (k : Kp S' w w') (hs : ∀ i, S' i → S i) : BySl S w' v zs := by
  obtain ⟨hz, h⟩ := h
  refine ⟨hz, ?_⟩
  rcases h with h | ⟨blk, off, cap, hv, hc, hm, hb, hn⟩
  · exact .inl h
  · exact .inr ⟨blk, off, cap, hv, hc, hm, fun i hi => k.cell (hb i hi) (fun h' => hn (by omega) (hs _ h')), hn⟩
theorem BySl.mono {S S' : Nat → Prop} {w : World} {v : Value} {zs : List Int} (h : BySl S w v zs) (hs : ∀ i, S' i → S i) : BySl S' w v zs := by
  obtain ⟨hz, h⟩ := h
  refine ⟨hz, ?_⟩
  rcases h with h | ⟨blk, off, cap, hv, hc, hm, hb, hn⟩
  · exact .inl h
  · exact .inr ⟨blk, off, cap, hv, hc, hm, hb, fun h1 h2 => hn h1 (hs _ h2)⟩



end Go.Proofs.YtbbfibgijackhaaGreatDoor
