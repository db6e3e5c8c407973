/-
  Arguments opened: a list of bytes; a list of three numbers each. No condition.
-/
import Derived.Test.YtfbpaakgifnmaaaOpenIn
import Derived.Test.YtfbpaakgifnmaaaLawStops
import Derived.Deep.Strs
namespace Go.Proofs.Ytfbpaakgifnmaaa
open Go.ChangeShapes Go.WideShapes Go.ChangeAt Go.RowKit

theorem open_bytes {H : Type} {enc : TypeId × Value → H} {W : World} {v : Value} {d : DataW H} {p : List MemPlace}
    (h : DataW.Trod enc Try.prog W 0 (fun _ => true) true 42 v d p) (hv : ∃ a len cap, v = .slice a len cap) : ∃ zs, BySl Nb W v zs := by
  obtain ⟨x, len, cap, rfl⟩ := hv
  obtain ⟨fuel, hf⟩ := h
  rcases open_ints Try.underlying42 Try.underlying5 cells_byte hf with ⟨hcs, _⟩ | ⟨y, l, c, zs, hcs, _, hl, hm, hz, _, hcell, hwz⟩
  · simp [Value.cells] at hcs
    obtain ⟨rfl, rfl, rfl⟩ := hcs
    exact ⟨[], fun i => by simp, .inl ⟨⟨_, _, rfl⟩, rfl⟩⟩
  · simp [Value.cells] at hcs
    obtain ⟨rfl, rfl, rfl⟩ := hcs
    have hz' : zs.length = cap := by simpa using hz
    by_cases hn : len = 0
    · subst hn
      exact ⟨[], fun i => by simp, .inl ⟨⟨_, _, rfl⟩, rfl⟩⟩
    · obtain ⟨blk, off, spot⟩ := y
      have hspot : spot = none := by
        have := World.cell?_spot (hcell 0 (by omega))
        simpa [Addr.add] using this
      subst hspot
      have elen : (zs.take len).length = len := by simp; omega
      refine ⟨zs.take len, fun i => ?_, .inr ⟨blk, off, cap, by rw [elen], by omega, hm, fun i hi => ?_, fun _ h => h⟩⟩
      · have hr := range_u8 (zs := zs.take len) (fun n hn => hwz n (List.mem_of_mem_take hn)) i
        omega
      · rw [elen] at hi
        have := hcell i (by omega)
        rw [add_none] at this
        rw [List.getElem?_take_of_lt hi]
        simpa [List.getD] using this

theorem cells_in : Try.prog.cellsOf 73 = 3 := by kernel_rfl

set_option maxRecDepth 100000 in
theorem open_ins {H : Type} {enc : TypeId × Value → H} {W : World} {v : Value} {d : DataW H} {p : List MemPlace}
    (h : DataW.Trod enc Try.prog W 0 (fun _ => true) true 66 v d p) (hv : ∃ a len cap, v = .slice a len cap) :
    ∃ os, InSl W v os ∧ ∀ i : Nat, -9223372036854775808 ≤ (os[i]?.getD (0, 0, 0)).2.1 ∧ (os[i]?.getD (0, 0, 0)).2.1 < 9223372036854775808 := by
  obtain ⟨x, len, cap, rfl⟩ := hv
  obtain ⟨fuel, hf⟩ := h
  rcases Deep.open_slice Try.underlying66 hf with ⟨hcs, _⟩ | ⟨a, l, c, m, n, D, Pl, hcs, _, hl, hm, hmm, _, hel⟩
  · simp [Value.cells] at hcs
    obtain ⟨rfl, rfl, rfl⟩ := hcs
    exact ⟨[], .inl ⟨⟨_, _, rfl⟩, rfl⟩, fun i => by simp⟩
  · simp [Value.cells] at hcs
    obtain ⟨rfl, rfl, rfl⟩ := hcs
    have hmc : m = cap := by simpa using hmm
    subst hmc
    by_cases hn : len = 0
    · subst hn
      exact ⟨[], .inl ⟨⟨_, _, rfl⟩, rfl⟩, fun i => by simp⟩
    · have each : ∀ i, i < m → ∃ q : Int × Int × Int, W.cell? (a.add (i * 3)) = some (.int .i64 q.1) ∧ W.cell? (a.add (i * 3 + 1)) = some (.int .i64 q.2.1) ∧ W.cell? (a.add (i * 3 + 2)) = some (.int .u64 q.2.2) ∧ -9223372036854775808 ≤ q.2.1 ∧ q.2.1 < 9223372036854775808 := by
        intro i hi
        obtain ⟨cs', h1, h2⟩ := hel i hi
        rw [cells_in] at h1
        obtain ⟨_, hlen, hcell⟩ := World.cells?_some h1
        obtain ⟨y0, y1, y2, k, _, _, g0, g1, g2⟩ := Deep.trod_struct3 Try.underlying73 h2
        match cs', hlen with
        | [v0, v1, v2], _ =>
          have e3 : Try.prog.cellsOf 3 = 1 := by kernel_rfl
          have e22 : Try.prog.cellsOf 22 = 1 := by kernel_rfl
          simp [e3, e22] at g0 g1 g2
          obtain ⟨b0, hb0, _⟩ := DataW.trod_int Try.underlying3 g0
          obtain ⟨b1, hb1, hw1⟩ := DataW.trod_int Try.underlying3 g1
          obtain ⟨b2, hb2, _⟩ := DataW.trod_int Try.underlying22 g2
          simp only [List.cons.injEq, and_true] at hb0 hb1 hb2
          subst hb0 hb1 hb2
          have c0 := hcell 0 (by omega)
          have c1 := hcell 1 (by omega)
          have c2 := hcell 2 (by omega)
          rw [Deep.add_add] at c0 c1 c2
          have hw := hw1.2
          simp [Lit.wf] at hw
          have hmin : IntKind.i64.min = -9223372036854775808 := by decide
          rw [hmin] at hw
          exact ⟨(b0, b1, b2), by simpa using c0, by simpa using c1, by simpa using c2, hw.1, by show b1 < _; omega⟩
      obtain ⟨q, hq⟩ := Deep.choose_lt each
      obtain ⟨blk, off, spot⟩ := a
      have hspot : spot = none := by
        have := World.cell?_spot (hq 0 (by omega)).1
        simpa [Addr.add] using this
      subst hspot
      have hget : ∀ i, i < len → ((List.range len).map q)[i]?.getD (0, 0, 0) = q i := fun i hi => by simp [hi]
      refine ⟨(List.range len).map q, .inr ⟨blk, off, m, by simp, by simpa using hl, hm, fun i hi => ?_⟩, fun i => ?_⟩
      · have hi' : i < len := by simpa using hi
        have := hq i (by omega)
        rw [add_none, add_none, add_none] at this
        rw [hget i hi']
        exact ⟨this.1, this.2.1, this.2.2.1⟩
      · by_cases hi : i < len
        · rw [hget i hi]
          exact (hq i (by omega)).2.2.2
        · rw [List.getElem?_eq_none (by simp; omega)]
          decide

end Go.Proofs.Ytfbpaakgifnmaaa
