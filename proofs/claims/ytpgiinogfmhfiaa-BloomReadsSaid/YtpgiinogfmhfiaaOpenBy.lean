/-
  An argument opened: a list of bytes. No condition.
-/
import Derived.Test.YtpgiinogfmhfiaaOpenIn
import Derived.Deep.Strs
namespace Go.Proofs.Ytpgiinogfmhfiaa
open Go.ChangeShapes Go.WideShapes Go.ChangeAt Go.RowKit

theorem open_bytes {H : Type} {enc : TypeId × Value → H} {W : World} {v : Value} {d : DataW H} {p : List MemPlace}
    (h : DataW.Trod enc Try.prog W 0 (fun _ => true) true 25 v d p) (hv : ∃ a len cap, v = .slice a len cap) : ∃ zs, BySl Nb W v zs := by
  obtain ⟨x, len, cap, rfl⟩ := hv
  obtain ⟨fuel, hf⟩ := h
  rcases open_ints Try.underlying25 Try.underlying5 cells_byte hf with ⟨hcs, _⟩ | ⟨y, l, c, zs, hcs, _, hl, hm, hz, _, hcell, hwz⟩
  · simp [Value.cells] at hcs
    obtain ⟨rfl, rfl, rfl⟩ := hcs
    exact ⟨[], fun i => by simp, .inl ⟨⟨_, _, rfl⟩, rfl⟩⟩
  · simp [Value.cells] at hcs
    obtain ⟨rfl, rfl, rfl⟩ := hcs
    have hz' : zs.length = cap := by simpa using hz
    by_cases hn : len = 0
    · subst hn
      exact ⟨[], fun i => by simp, .inl ⟨⟨_, _, rfl⟩, rfl⟩⟩
    · obtain ⟨blk, off, spot⟩ := y
      have hspot : spot = none := by
        have := World.cell?_spot (hcell 0 (by omega))
        simpa [Addr.add] using this
      subst hspot
      have elen : (zs.take len).length = len := by simp; omega
      refine ⟨zs.take len, fun i => ?_, .inr ⟨blk, off, cap, by rw [elen], by omega, hm, fun i hi => ?_, fun _ h => h⟩⟩
      · have hr := range_u8 (zs := zs.take len) (fun n hn => hwz n (List.mem_of_mem_take hn)) i
        omega
      · rw [elen] at hi
        have := hcell i (by omega)
        rw [add_none] at this
        rw [List.getElem?_take_of_lt hi]
        simpa [List.getD] using this

end Go.Proofs.Ytpgiinogfmhfiaa
