/-
  A pair of lists of marks with two numbers as an argument opened. No condition.
-/
import Derived.Test.YtijlmfmpfjjlpaaMaV
namespace Go.Proofs.Ytijlmfmpfjjlpaa
open Go.ChangeShapes Go.WideShapes Go.ChangeAt Go.RowKit

theorem one_at {cs : List Value} {n : Nat} (i : Nat) (hl : cs.length = n) (hi : i < n) : ∃ y, cs[i]? = some y ∧ (cs.drop i).take 1 = [y] := by
  have hi' : i < cs.length := by omega
  exact ⟨cs[i], List.getElem?_eq_getElem hi', by rw [List.drop_eq_getElem_cons hi', List.take_succ_cons, List.take_zero]⟩
section
variable {H : Type} {enc : TypeId × Value → H} {W : World}
set_option maxRecDepth 100000 in
theorem open_sides {v : Value} {d : DataW H} {p : List MemPlace} {base : Nat} (hv : Value.okWide Try.prog W .any base 38 v) (h : DataW.Trod enc Try.prog W 0 (fun _ => true) true 38 v d p) :
    ∃ (n m : Int) (vA vB : Value) (ms mt : List (List Int)), v = .agg #[vA, vB, .int .i64 n, .int .i64 m] ∧ MkSl W vA ms ∧ MkSl W vB mt ∧ (-9223372036854775808 ≤ n ∧ n < 9223372036854775808) ∧ (-9223372036854775808 ≤ m ∧ m < 9223372036854775808) := by
  obtain ⟨cs, rfl, hsz⟩ := okWide_struct Try.underlying38 hv
  obtain ⟨fuel, hf⟩ := h
  obtain ⟨xs, k, _, _, hl, hxl, hfs⟩ := DataW.trod_struct Try.underlying38 hf
  have ek : Try.prog.cellsOf 38 = 4 := by kernel_rfl
  have ei : Try.prog.cellsOf 3 = 1 := by kernel_rfl
  have em : Try.prog.cellsOf 22 = 1 := by kernel_rfl
  simp only [Value.cells] at hl hfs
  rw [ek] at hl
  match xs, hxl with
  | [y0, y1, y2, y3], _ =>
    have g0 : DataW.trod enc Try.prog W 0 (fun _ => true) true k 22 ((cs.toList.drop 0).take (Try.prog.cellsOf 22)) = some y0 := hfs 0 _ rfl
    have g1 : DataW.trod enc Try.prog W 0 (fun _ => true) true k 22 ((cs.toList.drop 1).take (Try.prog.cellsOf 22)) = some y1 := hfs 1 _ rfl
    have g2 : DataW.trod enc Try.prog W 0 (fun _ => true) true k 3 ((cs.toList.drop 2).take (Try.prog.cellsOf 3)) = some y2 := hfs 2 _ rfl
    have g3 : DataW.trod enc Try.prog W 0 (fun _ => true) true k 3 ((cs.toList.drop 3).take (Try.prog.cellsOf 3)) = some y3 := hfs 3 _ rfl
    rw [em] at g0 g1
    rw [ei] at g2 g3
    obtain ⟨c0, h0, e0⟩ := one_at 0 hl (by omega)
    obtain ⟨c1, h1, e1⟩ := one_at 1 hl (by omega)
    obtain ⟨c2, h2, e2⟩ := one_at 2 hl (by omega)
    obtain ⟨c3, h3, e3⟩ := one_at 3 hl (by omega)
    rw [e0] at g0
    rw [e1] at g1
    rw [e2] at g2
    rw [e3] at g3
    obtain ⟨z2, hz2, hw2⟩ := DataW.trod_int Try.underlying3 g2
    obtain ⟨z3, hz3, hw3⟩ := DataW.trod_int Try.underlying3 g3
    simp only [List.cons.injEq, and_true] at hz2 hz3
    subst hz2 hz3
    obtain ⟨ms, mo, mS⟩ := open_rows markL (List.replicate 16 0) MarkOk 16 cells_marks (by decide) (fun _ _ _ h => open_markcs h) Try.underlying22 g0
    obtain ⟨mt, no, nS⟩ := open_rows markL (List.replicate 16 0) MarkOk 16 cells_marks (by decide) (fun _ _ _ h => open_markcs h) Try.underlying22 g1
    refine ⟨z2, z3, c0, c1, ms, mt, ?_, mksl_rows mo mS, mksl_rows no nS, wf_int hw2.2, wf_int hw3.2⟩
    congr 1
    apply Array.toList_inj.1
    apply List.ext_getElem?
    intro i
    match i with
    | 0 => exact h0
    | 1 => exact h1
    | 2 => exact h2
    | 3 => exact h3
    | i + 4 => rw [List.getElem?_eq_none (by omega)]; rfl
end

end Go.Proofs.Ytijlmfmpfjjlpaa
