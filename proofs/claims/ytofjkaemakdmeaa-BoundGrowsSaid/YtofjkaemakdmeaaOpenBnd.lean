/-
  An argument opened: a case of layer 34 (a plan, two numbers, a list that nobody reads). No condition.
-/
import Derived.Test.YtofjkaemakdmeaaBndC
import Derived.Test.YtofjkaemakdmeaaRanges
import Derived.Deep.Strs
namespace Go.Proofs.Ytofjkaemakdmeaa
open Go.ChangeShapes Go.WideShapes Go.ChangeAt Go.RowKit

theorem array_of_seven {α : Type} {cs : Array α} (h : cs.size = 7) : ∃ c0 c1 c2 c3 c4 c5 c6, cs = #[c0, c1, c2, c3, c4, c5, c6] := by
  obtain ⟨l⟩ := cs
  match l, h with
  | [c0, c1, c2, c3, c4, c5, c6], _ => exact ⟨c0, c1, c2, c3, c4, c5, c6, rfl⟩

set_option maxRecDepth 100000 in
theorem open_bnd {H : Type} {enc : TypeId × Value → H} {W : World} {base : Nat} {v : Value} {d : DataW H} {p : List MemPlace} (hv : Value.okWide Try.prog W .any base 63 v)
    (h : DataW.Trod enc Try.prog W 0 (fun _ => true) true 63 v d p) :
    ∃ (e t r i n k : Int) (l : Value), v = .agg #[.int .i64 e, .int .i64 t, .int .i64 r, .int .i64 i, .int .i64 n, .int .i64 k, l] := by
  have ek : Try.prog.cellsOf 63 = 7 := by kernel_rfl
  obtain ⟨cs, rfl, hsz⟩ := okWide_struct Try.underlying63 hv
  obtain ⟨c0, c1, c2, c3, c4, c5, c6, rfl⟩ := array_of_seven (hsz.trans ek)
  obtain ⟨fuel, hf⟩ := h
  obtain ⟨xs, m, _, _, _, hxl, hfs⟩ := DataW.trod_struct Try.underlying63 hf
  have e3 : Try.prog.cellsOf 3 = 1 := by kernel_rfl
  have e4 : Try.prog.cellsOf 60 = 4 := by kernel_rfl
  match xs, hxl with
  | [y0, y1, y2, y3], _ =>
    have g0 := hfs 0 _ rfl
    have g1 := hfs 1 _ rfl
    have g2 := hfs 2 _ rfl
    simp [Value.cells, e3, e4] at g0 g1 g2
    obtain ⟨zs, m', _, _, _, hzl, hzs⟩ := DataW.trod_struct Try.underlying60 g0
    obtain ⟨N, hN, _⟩ := DataW.trod_int Try.underlying3 g1
    obtain ⟨K, hK, _⟩ := DataW.trod_int Try.underlying3 g2
    match zs, hzl with
    | [z0, z1, z2, z3], _ =>
      have p0 := hzs 0 _ rfl
      have p1 := hzs 1 _ rfl
      have p2 := hzs 2 _ rfl
      have p3 := hzs 3 _ rfl
      simp [e3] at p0 p1 p2 p3
      obtain ⟨E, hE, _⟩ := DataW.trod_int Try.underlying3 p0
      obtain ⟨T, hT, _⟩ := DataW.trod_int Try.underlying3 p1
      obtain ⟨R, hR, _⟩ := DataW.trod_int Try.underlying3 p2
      obtain ⟨I, hI, _⟩ := DataW.trod_int Try.underlying3 p3
      simp only [List.cons.injEq, and_true] at hN hK hE hT hR hI
      subst hN hK hE hT hR hI
      exact ⟨E, T, R, I, N, K, c6, rfl⟩

end Go.Proofs.Ytofjkaemakdmeaa
