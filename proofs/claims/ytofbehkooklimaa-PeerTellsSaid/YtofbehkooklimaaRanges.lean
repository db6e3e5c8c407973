/-
  What an argument of type uint8 is, and a list of ints as an argument. No condition.
-/
import Derived.Test.YtofbehkooklimaaOwn
import Derived.Test.YtofbehkooklimaaIntRow
namespace Go.Proofs.Ytofbehkooklimaa
open Go.ChangeShapes Go.WideShapes Go.ChangeAt Go.RowKit

theorem u8_range {H : Type} {enc : TypeId × Value → H} {W : World} {n : Int} {d : DataW H} {p : List MemPlace} (h : DataW.Trod enc Try.prog W 0 (fun _ => true) true 5 (.int .u8 n) d p) : 0 ≤ n ∧ n < 256 := by
  obtain ⟨fuel, hf⟩ := h
  obtain ⟨a, ea, _, wa⟩ := DataW.trod_int Try.underlying5 hf
  simp [Value.cells] at ea
  subst ea
  simp [Lit.wf] at wa
  have h1 : IntKind.u8.min = 0 := by decide
  have h2 : IntKind.u8.max = 255 := by decide
  omega

theorem cells_intA : Try.prog.cellsOf 3 = 1 := by kernel_rfl
/-- A list of ints that came in. -/
def IntIn (w : World) (v : Value) (zs : List Int) : Prop :=
  (zs = [] ∧ ∃ a c, v = .slice a 0 c) ∨ ∃ blk off cap, v = .slice (some ⟨blk, off, none⟩) zs.length cap ∧ zs.length ≤ cap ∧ cap ≤ maxLen ∧ ∀ i, i < zs.length → w.cell? ⟨blk, off + i, none⟩ = some (.int .i64 (zs[i]?.getD 0))
theorem IntIn.shape {w : World} {v : Value} {zs : List Int} (h : IntIn w v zs) : ∃ a c, v = .slice a zs.length c := by
  rcases h with ⟨rfl, a, c, rfl⟩ | ⟨blk, off, cap, rfl, _⟩
  · exact ⟨a, c, rfl⟩
  · exact ⟨_, _, rfl⟩
theorem addr_none (b off i : Nat) : Addr.add ⟨b, off, none⟩ i = ⟨b, off + i, none⟩ := by
  unfold Addr.add
  split <;> simp_all
theorem open_ints_in {H : Type} {enc : TypeId × Value → H} {W : World} {v : Value} {d : DataW H} {p : List MemPlace}
    (h : DataW.Trod enc Try.prog W 0 (fun _ => true) true 23 v d p) (hv : ∃ a len cap, v = .slice a len cap) : ∃ zs, IntIn W v zs := by
  obtain ⟨x, len, cap, rfl⟩ := hv
  obtain ⟨fuel, hf⟩ := h
  rcases open_ints Try.underlying23 Try.underlying3 cells_intA hf with ⟨hcs, _⟩ | ⟨y, l, c, zs, hcs, _, hl, hm, hz, _, hcell, hwz⟩
  · simp [Value.cells] at hcs
    obtain ⟨rfl, rfl, rfl⟩ := hcs
    exact ⟨[], .inl ⟨rfl, _, _, rfl⟩⟩
  · simp [Value.cells] at hcs
    obtain ⟨rfl, rfl, rfl⟩ := hcs
    have hz' : zs.length = cap := by simpa using hz
    by_cases hn : len = 0
    · subst hn
      exact ⟨[], .inl ⟨rfl, _, _, rfl⟩⟩
    · obtain ⟨blk, off, spot⟩ := y
      have hspot : spot = none := by
        have := World.cell?_spot (hcell 0 (by omega))
        simpa [Addr.add] using this
      subst hspot
      have elen : (zs.take len).length = len := by simp; omega
      refine ⟨zs.take len, .inr ⟨blk, off, cap, by rw [elen], by omega, hm, fun i hi => ?_⟩⟩
      rw [elen] at hi
      have := hcell i (by omega)
      rw [addr_none] at this
      rw [List.getElem?_take_of_lt hi]
      simpa [List.getD] using this

end Go.Proofs.Ytofbehkooklimaa
