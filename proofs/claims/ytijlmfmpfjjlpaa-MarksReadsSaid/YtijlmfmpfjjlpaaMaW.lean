/-
  A list of marks as an argument: what it holds, and that its own block lies in memory. No condition.
-/
import Derived.Test.YtijlmfmpfjjlpaaMaV
import Derived.Test.YtijlmfmpfjjlpaaMaT
namespace Go.Proofs.Ytijlmfmpfjjlpaa
open Go.ChangeShapes Go.WideShapes Go.ChangeAt Go.RowKit

set_option maxRecDepth 100000 in
theorem own_in {W : World} {base : Nat} {v : Value} (hv : Value.okWide Try.prog W .any base 22 v) : ∀ g, v.ownBlock = some g → g < W.heap.size := by
  obtain ⟨y0, len0, cap0, rfl⟩ := okWide_slice Try.underlying22 hv
  intro g hg
  cases y0 with
  | none => simp [Value.ownBlock] at hg
  | some a =>
    have e : a.block = g := by simpa [Value.ownBlock] using hg
    subst e
    simp only [Value.okWide, Try.underlying22, Cell.okWide, Cell.ok] at hv
    obtain ⟨_, _, row, cells, hs, _⟩ := hv.2.2
    rcases Nat.lt_or_ge a.block W.heap.size with h | h
    · exact h
    · exfalso
      have : W.heap[a.block]? = none := Array.getElem?_eq_none h
      simp [World.shape?, this] at hs
set_option maxRecDepth 100000 in
theorem open_slat {H : Type} {enc : TypeId × Value → H} {W : World} {base : Nat} {v : Value} {d : DataW H} {p : List MemPlace} (hv : Value.okWide Try.prog W .any base 22 v)
    (h : DataW.Trod enc Try.prog W 0 (fun _ => true) true 22 v d p) : ∃ ms, SlAt W v ms := by
  obtain ⟨ms, hs⟩ := open_marksv hv h
  exact ⟨ms, hs, own_in hv⟩

end Go.Proofs.Ytijlmfmpfjjlpaa
