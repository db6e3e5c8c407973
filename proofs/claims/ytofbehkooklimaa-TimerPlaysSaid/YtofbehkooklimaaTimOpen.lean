/-
  A list of two ints and a bool each as an argument. No condition.
-/
import Derived.Test.YtofbehkooklimaaRanges
import Derived.Test.YtofbehkooklimaaTimP
import Derived.Deep.Strs
namespace Go.Proofs.Ytofbehkooklimaa
open Go.ChangeShapes Go.WideShapes Go.ChangeAt Go.RowKit

theorem cells_top : Try.prog.cellsOf 46 = 3 := by kernel_rfl

set_option maxRecDepth 100000 in
theorem open_tops {H : Type} {enc : TypeId × Value → H} {W : World} {v : Value} {d : DataW H} {p : List MemPlace}
    (h : DataW.Trod enc Try.prog W 0 (fun _ => true) true 33 v d p) (hv : ∃ a len cap, v = .slice a len cap) : ∃ os, TopIn W v os := by
  obtain ⟨x, len, cap, rfl⟩ := hv
  obtain ⟨fuel, hf⟩ := h
  rcases Deep.open_slice Try.underlying33 hf with ⟨hcs, _⟩ | ⟨a, l, c, m, n, D, Pl, hcs, _, hl, hm, hmm, _, hel⟩
  · simp [Value.cells] at hcs
    obtain ⟨rfl, rfl, rfl⟩ := hcs
    exact ⟨[], .inl ⟨⟨_, _, rfl⟩, rfl⟩⟩
  · simp [Value.cells] at hcs
    obtain ⟨rfl, rfl, rfl⟩ := hcs
    have hmc : m = cap := by simpa using hmm
    subst hmc
    by_cases hn : len = 0
    · subst hn
      exact ⟨[], .inl ⟨⟨_, _, rfl⟩, rfl⟩⟩
    · have each : ∀ i, i < m → ∃ q : Int × Int × Bool, W.cell? (a.add (i * 3)) = some (.int .i64 q.1) ∧ W.cell? (a.add (i * 3 + 1)) = some (.int .i64 q.2.1) ∧ W.cell? (a.add (i * 3 + 2)) = some (.bool q.2.2) := by
        intro i hi
        obtain ⟨cs', h1, h2⟩ := hel i hi
        rw [cells_top] at h1
        obtain ⟨_, hlen, hcell⟩ := World.cells?_some h1
        obtain ⟨y0, y1, y2, k, _, _, g0, g1, g2⟩ := Deep.trod_struct3 Try.underlying46 h2
        match cs', hlen with
        | [v0, v1, v2], _ =>
          have e3 : Try.prog.cellsOf 3 = 1 := by kernel_rfl
          have e4 : Try.prog.cellsOf 4 = 1 := by kernel_rfl
          simp [e3, e4] at g0 g1 g2
          obtain ⟨b0, hb0, _⟩ := DataW.trod_int Try.underlying3 g0
          obtain ⟨b1, hb1, _⟩ := DataW.trod_int Try.underlying3 g1
          obtain ⟨b2, hb2, _⟩ := DataW.trod_bool Try.underlying4 g2
          simp only [List.cons.injEq, and_true] at hb0 hb1 hb2
          subst hb0 hb1 hb2
          have c0 := hcell 0 (by omega)
          have c1 := hcell 1 (by omega)
          have c2 := hcell 2 (by omega)
          rw [Deep.add_add] at c0 c1 c2
          exact ⟨(b0, b1, b2), by simpa using c0, by simpa using c1, by simpa using c2⟩
      obtain ⟨q, hq⟩ := Deep.choose_lt each
      obtain ⟨blk, off, spot⟩ := a
      have hspot : spot = none := by
        have := World.cell?_spot (hq 0 (by omega)).1
        simpa [Addr.add] using this
      subst hspot
      have hget : ∀ i, i < len → ((List.range len).map q)[i]?.getD (0, 0, false) = q i := fun i hi => by simp [hi]
      refine ⟨(List.range len).map q, .inr ⟨blk, off, m, by simp, by simpa using hl, hm, fun i hi => ?_⟩⟩
      have hi' : i < len := by simpa using hi
      have := hq i (by omega)
      rw [addr_none, addr_none, addr_none] at this
      rw [hget i hi']
      exact this

end Go.Proofs.Ytofbehkooklimaa
