/-
  Small facts that every proof of a row wants. No condition.
  Arguments opened, part by part: an array of ints; a slice of parts without addresses. Nothing of the program is named here. No condition.
-/
import Derived.Test.YtbbfibgijackhaaGreatDoorKp
import Derived.Test.YtbbfibgijackhaaGreatDoorProg
import Derived.ProofKit
import Derived.OpenShut
import Derived.SizedLaws
import Derived.Deep.Matrix
import Derived.Test.YtbbfibgijackhaaGreatDoorRowCut
import Derived.Deep.Strs
namespace Go.Proofs.YtbbfibgijackhaaGreatDoor
open Go.ChangeShapes Go.WideShapes Go.ChangeAt Go.RowKit

theorem own : ownKnob Tryz.prog.godebug = none := by kernel_rfl
theorem laidOut : laidOutB Tryz.prog = true := by kernel_rfl
theorem add_none (b off i : Nat) : Addr.add ⟨b, off, none⟩ i = ⟨b, off + i, none⟩ := by
  unfold Addr.add
  split <;> simp_all

end Go.Proofs.YtbbfibgijackhaaGreatDoor

namespace Go.Proofs.YtbbfibgijackhaaGreatDoor
open Go.ChangeShapes Go.WideShapes Go.ChangeAt Go.RowKit

section
variable {P : Program} {H : Type} {enc : TypeId × Value → H} {W : World} {fuel : Nat} {t e : TypeId} {cs : List Value} {x : DataW H × List MemPlace}
theorem chunk_one {α : Type} {l : List α} {i : Nat} {y : α} (h : (l.drop i).take 1 = [y]) : l[i]? = some y := by
  have h1 : ((l.drop i).take 1)[0]? = some y := by rw [h]; rfl
  rw [List.getElem?_take_of_lt (by decide), List.getElem?_drop, Nat.add_zero] at h1
  exact h1
theorem open_array {k : IntKind} {n : Nat} (ht : P.underlying t = some (.array n e)) (he : P.underlying e = some (.int k)) (hc : P.cellsOf e = 1) (hn : P.cellsOf t = n)
    (h : DataW.trod enc P W 0 (fun _ => true) true fuel t cs = some x) : ∃ zs : List Int, cs = zs.map (Value.int k) ∧ zs.length = n ∧ ∀ z ∈ zs, (Lit.int k z).wf = true := by
  obtain ⟨xs, m, _, _, hl, hx, hel⟩ := DataW.trod_array ht h
  rw [hn] at hl
  have each : ∀ i, i < n → ∃ z : Int, cs[i]? = some (.int k z) ∧ (Lit.int k z).wf = true := by
    intro i hi
    have h1 := hel i hi
    rw [hc, Nat.mul_one, List.getElem?_eq_getElem (by omega)] at h1
    obtain ⟨z, hz, _, hw⟩ := DataW.trod_int he h1
    exact ⟨z, chunk_one hz, hw⟩
  obtain ⟨q, hq⟩ := Deep.choose_lt each
  refine ⟨(List.range n).map q, ?_, by simp, ?_⟩
  · apply List.ext_getElem?
    intro i
    rcases Nat.lt_or_ge i n with hi | hi
    · rw [(hq i hi).1]; simp [hi]
    · rw [List.getElem?_eq_none (by omega), List.getElem?_eq_none (by simpa using hi)]
  · intro z hz
    obtain ⟨i, hi, rfl⟩ := List.mem_map.1 hz
    exact (hq i (List.mem_range.1 hi)).2
theorem open_rows {α : Type} (f : α → List Value) (z : α) (Q : α → Prop) (c : Nat) (hce : P.cellsOf e = c) (hc : 0 < c) (ho : ∀ fuel cs x, DataW.trod enc P W 0 (fun _ => true) true fuel e cs = some x → ∃ q, Q q ∧ cs = f q)
    (ht : P.underlying t = some (.slice e)) {v : Value} (hf : DataW.trod enc P W 0 (fun _ => true) true fuel t [v] = some x) : ∃ qs : List α, (∀ q ∈ qs, Q q) ∧ RowsSl f z c W v qs := by
  rcases Deep.open_slice ht hf with ⟨hcs, _⟩ | ⟨a, len, cap, m, n, D, Pl, hcs, _, hl, hm, hmm, _, hel⟩
  · simp at hcs
    subst hcs
    exact ⟨[], by simp, .inl ⟨⟨_, _, rfl⟩, rfl⟩⟩
  · simp at hcs
    subst hcs
    have hmc : m = cap := by simpa using hmm
    subst hmc
    by_cases hn : len = 0
    · subst hn
      exact ⟨[], by simp, .inl ⟨⟨_, _, rfl⟩, rfl⟩⟩
    · have each : ∀ i, i < m → ∃ q : α, Q q ∧ (f q).length = c ∧ ∀ j, j < c → W.cell? (a.add (i * c + j)) = (f q)[j]? := by
        intro i hi
        obtain ⟨cs', h1, h2⟩ := hel i hi
        rw [hce] at h1
        obtain ⟨_, hlen, hcell⟩ := World.cells?_some h1
        obtain ⟨q, hQ, rfl⟩ := ho _ _ _ h2
        refine ⟨q, hQ, hlen, fun j hj => ?_⟩
        have := hcell j hj
        rw [Deep.add_add] at this
        exact this
      haveI : Inhabited α := ⟨z⟩
      obtain ⟨q, hq⟩ := Deep.choose_lt each
      obtain ⟨blk, off, spot⟩ := a
      have hspot : spot = none := by
        have h0 := hq 0 (by omega)
        have h1 := h0.2.2 0 hc
        rw [List.getElem?_eq_getElem (by rw [h0.2.1]; exact hc)] at h1
        have := World.cell?_spot h1
        simpa [Addr.add] using this
      subst hspot
      have hget : ∀ i, i < len → ((List.range len).map q)[i]?.getD z = q i := fun i hi => by simp [hi]
      refine ⟨(List.range len).map q, ?_, .inr ⟨blk, off, m, by simp, by simpa using hl, hm, fun i hi => ?_⟩⟩
      · intro y hy
        obtain ⟨i, hi, rfl⟩ := List.mem_map.1 hy
        exact (hq i (by have := List.mem_range.1 hi; omega)).1
      · have hi' : i < len := by simpa using hi
        rw [hget i hi']
        intro j v hv
        have hq' := hq i (by omega)
        have hj : j < c := by have := (List.getElem?_eq_some_iff.1 hv).1; rw [hq'.2.1] at this; exact this
        have := hq'.2.2 j hj
        rw [add_none, hv] at this
        rw [Nat.add_assoc]
        exact this
end

end Go.Proofs.YtbbfibgijackhaaGreatDoor
