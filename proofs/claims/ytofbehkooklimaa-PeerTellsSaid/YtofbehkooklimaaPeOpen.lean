/-
  An argument opened: a case of four ints. No condition.
-/
import Derived.Test.YtofbehkooklimaaPeFw
import Derived.Test.YtofbehkooklimaaRanges
import Derived.Deep.Strs
namespace Go.Proofs.Ytofbehkooklimaa
open Go.ChangeShapes Go.WideShapes Go.ChangeAt Go.RowKit

theorem array_of_four {α : Type} {cs : Array α} (h : cs.size = 4) : ∃ c0 c1 c2 c3, cs = #[c0, c1, c2, c3] := by
  obtain ⟨l⟩ := cs
  match l, h with
  | [c0, c1, c2, c3], _ => exact ⟨c0, c1, c2, c3, rfl⟩

set_option maxRecDepth 100000 in
theorem open_case {H : Type} {enc : TypeId × Value → H} {W : World} {base : Nat} {v : Value} {d : DataW H} {p : List MemPlace} (hv : Value.okWide Try.prog W .any base 54 v)
    (h : DataW.Trod enc Try.prog W 0 (fun _ => true) true 54 v d p) :
    ∃ (a b c e : Int), v = .agg #[.int .i64 a, .int .i64 b, .int .i64 c, .int .i64 e] := by
  have ek : Try.prog.cellsOf 54 = 4 := by kernel_rfl
  obtain ⟨cs, rfl, hsz⟩ := okWide_struct Try.underlying54 hv
  obtain ⟨c0, c1, c2, c3, rfl⟩ := array_of_four (hsz.trans ek)
  obtain ⟨fuel, hf⟩ := h
  obtain ⟨xs, k, _, _, _, hxl, hfs⟩ := DataW.trod_struct Try.underlying54 hf
  have e3 : Try.prog.cellsOf 3 = 1 := by kernel_rfl
  match xs, hxl with
  | [y0, y1, y2, y3], _ =>
    have g0 := hfs 0 _ rfl
    have g1 := hfs 1 _ rfl
    have g2 := hfs 2 _ rfl
    have g3 := hfs 3 _ rfl
    simp [Value.cells, e3] at g0 g1 g2 g3
    obtain ⟨U, hU, _⟩ := DataW.trod_int Try.underlying3 g0
    obtain ⟨V, hV, _⟩ := DataW.trod_int Try.underlying3 g1
    obtain ⟨N, hN, _⟩ := DataW.trod_int Try.underlying3 g2
    obtain ⟨R, hR, _⟩ := DataW.trod_int Try.underlying3 g3
    simp only [List.cons.injEq, and_true] at hU hV hN hR
    subst hU hV hN hR
    exact ⟨U, V, N, R, rfl⟩

end Go.Proofs.Ytofbehkooklimaa
