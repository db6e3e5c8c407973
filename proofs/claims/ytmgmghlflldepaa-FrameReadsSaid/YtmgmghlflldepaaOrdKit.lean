/-
  Small facts for walks with eyes and pens. No condition.
-/
import Derived.Test.YtmgmghlflldepaaPenM
import Derived.Test.YtmgmghlflldepaaRefH
import Derived.Deep.RegionHeld3
namespace Go.Proofs.Ytmgmghlflldepaa
open Go.RowKit

theorem by_far {S S' : Nat → Prop} {w w' : World} {v : Value} {zs : List Int} (h : BySl Nb w v zs) (k : Kp S w w') (hS : ∀ i, i < w.heap.size → ¬ S i) (hS' : ∀ i, i < w.heap.size → ¬ S' i) : BySl S' w' v zs := by
  obtain ⟨hz, ⟨⟨a, c, rfl⟩, rfl⟩ | ⟨blk, off, cap, rfl, hc, hm, hb, -⟩⟩ := h
  · exact ⟨hz, .inl ⟨⟨_, _, rfl⟩, rfl⟩⟩
  · have k' : Kp Nb w w' := k.mono (fun i hi h => hS i hi h)
    refine ⟨hz, .inr ⟨blk, off, cap, rfl, hc, hm, fun i hi => k'.cell (hb i hi) (fun h => h), fun hp => ?_⟩⟩
    have := World.block_lt_of_cell? w _ (hb 0 hp)
    exact hS' _ this

theorem st_take (zs : List Int) (n : Nat) : (st zs).extract 0 n = st (zs.take n) := by
  apply ByteArray.ext
  simp [st, ByteArray.data_extract]

theorem held_mono {P : Program} {md : Region.Mode} {ops : Array Oper} {Q : Exit → Act → World → Prop} {S S' : World → Prop} (h : ∀ w, S' w → S w) :
    ∀ (fuel : Nat) (listed : Array Bool) (a : Act) (w : World), wpAnyH P md ops Q S' fuel listed a w → wpAnyH P md ops Q S fuel listed a w
  | 0, _, _, _, k => k
  | fuel + 1, _, _, _, k => ⟨k.1, fun i hi => wpOp_mono (fun a' w' k' => ⟨h w' k'.1, held_mono h fuel _ a' w' k'.2⟩) (k.2 i hi)⟩

theorem pb_none {B B' : Nat} (h : B' ≠ B) : ¬ Pb B (.slice Option.none 0 0) B' := fun hp => by
  rcases hp with hp | hp
  · exact h hp
  · cases hp

end Go.Proofs.Ytmgmghlflldepaa
