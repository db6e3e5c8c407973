/-
  An argument opened: a list of frames with their bytes. No condition.
-/
import Derived.Test.YtmgmghlflldepaaOpenFr
import Derived.Test.YtmgmghlflldepaaFrT
namespace Go.Proofs.Ytmgmghlflldepaa
open Go.ChangeShapes Go.WideShapes Go.ChangeAt Go.RowKit

set_option maxRecDepth 100000 in
theorem open_framesT {H : Type} {enc : TypeId × Value → H} {W : World} {base : Nat} {v : Value} {d : DataW H} {p : List MemPlace} (hv : Value.okWide Try.prog W .any base 41 v)
    (h : DataW.Trod enc Try.prog W 0 (fun _ => true) true 41 v d p) : ∃ qs : List FrT, (∀ q ∈ qs, BySl Nb W q.2.1 q.2.2) ∧ RowsSl ftL ftZ 2 W v qs := by
  obtain ⟨x, n, c, rfl⟩ := okWide_slice Try.underlying41 hv
  obtain ⟨fuel, hf⟩ := h
  exact open_rows ftL ftZ (fun q => BySl Nb W q.2.1 q.2.2) 2 cells_frame (by decide) (fun _ _ _ h => by
    obtain ⟨q, ⟨-, zs, hz⟩, e⟩ := open_frame h
    exact ⟨(q.1, q.2, zs), hz, e⟩) Try.underlying41 hf

end Go.Proofs.Ytmgmghlflldepaa
