/-
  Arguments opened: a key of two numbers of 64 bits, a number. No condition.
-/
import Derived.Test.YtfbpaakgifnmaaaOpenIn
namespace Go.Proofs.Ytfbpaakgifnmaaa
open Go.ChangeShapes Go.WideShapes Go.ChangeAt Go.RowKit

theorem array_of_two {α : Type} {cs : Array α} (h : cs.size = 2) : ∃ c0 c1, cs = #[c0, c1] := by
  obtain ⟨l⟩ := cs
  match l, h with
  | [c0, c1], _ => exact ⟨c0, c1, rfl⟩

set_option maxRecDepth 100000 in
theorem open_sumkey {H : Type} {enc : TypeId × Value → H} {W : World} {base : Nat} {v : Value} {d : DataW H} {p : List MemPlace} (hv : Value.okWide Try.prog W .any base 24 v)
    (h : DataW.Trod enc Try.prog W 0 (fun _ => true) true 24 v d p) : ∃ a b : Int, v = .agg #[.int .u64 a, .int .u64 b] := by
  have ek : Try.prog.cellsOf 24 = 2 := by kernel_rfl
  obtain ⟨cs, rfl, hsz⟩ := okWide_struct Try.underlying24 hv
  obtain ⟨c0, c1, rfl⟩ := array_of_two (hsz.trans ek)
  obtain ⟨fuel, hf⟩ := h
  obtain ⟨y0, y1, n, _, _, h0, h1⟩ := trod_struct2 Try.underlying24 hf
  have e8 : Try.prog.cellsOf 22 = 1 := by kernel_rfl
  obtain ⟨a, ea, _⟩ := DataW.trod_int Try.underlying22 h0
  obtain ⟨b, eb, _⟩ := DataW.trod_int Try.underlying22 h1
  simp [Value.cells, e8] at ea eb
  exact ⟨a, b, by rw [ea, eb]⟩

end Go.Proofs.Ytfbpaakgifnmaaa
