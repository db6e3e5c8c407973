/-
  A mark as an argument opened. No condition.
  A case of layer 15 opened. No condition.
  The mark of a case of layer 15 opened. No condition.
-/
import Derived.Test.YtpgiinogfmhfiaaCelIk
import Derived.Test.YtpgiinogfmhfiaaOpenRows
namespace Go.Proofs.Ytpgiinogfmhfiaa
open Go.ChangeShapes Go.WideShapes Go.ChangeAt Go.RowKit

theorem cells_marks : Try.prog.cellsOf 24 = 16 := by kernel_rfl
theorem wf_int {z : Int} (h : (Lit.int .i64 z).wf = true) : -9223372036854775808 ≤ z ∧ z < 9223372036854775808 := by
  simp [Lit.wf] at h
  have hmin : IntKind.i64.min = -9223372036854775808 := by decide
  rw [hmin] at h
  have := h.2
  exact ⟨h.1, by omega⟩
set_option maxRecDepth 10000 in
theorem open_markv {H : Type} {enc : TypeId × Value → H} {W : World} {base : Nat} {v : Value} {d : DataW H} {p : List MemPlace} (hv : Value.okWide Try.prog W .any base 24 v)
    (h : DataW.Trod enc Try.prog W 0 (fun _ => true) true 24 v d p) : ∃ m : List Int, MarkOk m ∧ v = markV m := by
  simp only [Value.okWide, under_mark] at hv
  obtain ⟨cs, rfl, _, _⟩ := hv
  obtain ⟨fuel, hf⟩ := h
  obtain ⟨zs, hz, hl, hw⟩ := open_array under_mark under_u8 cells_byte cells_marks hf
  obtain ⟨lc⟩ := cs
  simp only [Value.cells] at hz
  refine ⟨zs, ⟨hl, fun i => ?_⟩, ?_⟩
  · have hr := range_u8 hw i
    omega
  · have hz' : lc = markL zs := hz
    rw [hz']
theorem open_intv {H : Type} {enc : TypeId × Value → H} {W : World} {n : Int} {d : DataW H} {p : List MemPlace}
    (h : DataW.Trod enc Try.prog W 0 (fun _ => true) true 3 (.int .i64 n) d p) : -9223372036854775808 ≤ n ∧ n < 9223372036854775808 := by
  obtain ⟨fuel, hf⟩ := h
  obtain ⟨a, ea, _, wa⟩ := DataW.trod_int Try.underlying3 hf
  have e : n = a := by simpa [Value.cells] using ea
  rw [e]
  exact wf_int wa
theorem open_markcs {H : Type} {enc : TypeId × Value → H} {W : World} {fuel : Nat} {cs : List Value} {x : DataW H × List MemPlace} (h : DataW.trod enc Try.prog W 0 (fun _ => true) true fuel 24 cs = some x) : ∃ m : List Int, MarkOk m ∧ cs = markL m := by
  obtain ⟨zs, hz, hl, hw⟩ := open_array under_mark under_u8 cells_byte cells_marks h
  refine ⟨zs, ⟨hl, fun i => ?_⟩, hz⟩
  have hr := range_u8 hw i
  omega
theorem mksl_rows {W : World} {v : Value} {ms : List (List Int)} (ho : ∀ q ∈ ms, MarkOk q) (h : RowsSl markL (List.replicate 16 0) 16 W v ms) : MkSl W v ms := by
  refine ⟨fun i => ?_, h⟩
  unfold markAt
  cases hi : ms[i]? with
  | none => exact zero_ok
  | some m => exact ho m (List.mem_of_getElem? hi)
set_option maxRecDepth 100000 in
theorem open_marksv {H : Type} {enc : TypeId × Value → H} {W : World} {base : Nat} {v : Value} {d : DataW H} {p : List MemPlace} (hv : Value.okWide Try.prog W .any base 22 v)
    (h : DataW.Trod enc Try.prog W 0 (fun _ => true) true 22 v d p) : ∃ ms, MkSl W v ms := by
  obtain ⟨fu, hf⟩ := h
  obtain ⟨y0, len0, cap0, rfl⟩ := okWide_slice Try.underlying22 hv
  obtain ⟨ms, mo, mS⟩ := open_rows markL (List.replicate 16 0) MarkOk 16 cells_marks (by decide) (fun _ _ _ h => open_markcs h) Try.underlying22 hf
  exact ⟨ms, mksl_rows mo mS⟩

end Go.Proofs.Ytpgiinogfmhfiaa

namespace Go.Proofs.Ytpgiinogfmhfiaa
open Go.ChangeShapes Go.WideShapes Go.ChangeAt Go.RowKit

theorem one_at {cs : List Value} {n : Nat} (i : Nat) (hl : cs.length = n) (hi : i < n) : ∃ y, cs[i]? = some y ∧ (cs.drop i).take 1 = [y] := by
  have hi' : i < cs.length := by omega
  exact ⟨cs[i], List.getElem?_eq_getElem hi', by rw [List.drop_eq_getElem_cons hi', List.take_succ_cons, List.take_zero]⟩
section
variable {H : Type} {enc : TypeId × Value → H} {W : World}
set_option maxRecDepth 100000 in
theorem open_bcase {v : Value} {d : DataW H} {p : List MemPlace} {base : Nat} (hv : Value.okWide Try.prog W .any base 27 v) (h : DataW.Trod enc Try.prog W 0 (fun _ => true) true 27 v d p) :
    ∃ (cs : List Value) (n n1 : Int) (vA vB : Value) (ms mt : List (List Int)), v = .agg cs.toArray ∧ cs.length = 21 ∧ cs[0]? = some (.int .i64 n) ∧ cs[1]? = some (.int .i64 n1) ∧ cs[2]? = some vA ∧ cs[3]? = some vB ∧ MkSl W vA ms ∧ MkSl W vB mt ∧ (-9223372036854775808 ≤ n ∧ n < 9223372036854775808) ∧ (-9223372036854775808 ≤ n1 ∧ n1 < 9223372036854775808) := by
  obtain ⟨cs, rfl, hsz⟩ := okWide_struct Try.underlying27 hv
  obtain ⟨fuel, hf⟩ := h
  obtain ⟨xs, k, _, _, hl, hxl, hfs⟩ := DataW.trod_struct Try.underlying27 hf
  have ek : Try.prog.cellsOf 27 = 21 := by kernel_rfl
  have ei : Try.prog.cellsOf 3 = 1 := by kernel_rfl
  have em : Try.prog.cellsOf 22 = 1 := by kernel_rfl
  simp only [Value.cells] at hl hfs
  rw [ek] at hl
  match xs, hxl with
  | [y0, y1, y2, y3, y4, y5], _ =>
    have g0 : DataW.trod enc Try.prog W 0 (fun _ => true) true k 3 ((cs.toList.drop 0).take (Try.prog.cellsOf 3)) = some y0 := hfs 0 _ rfl
    have g1 : DataW.trod enc Try.prog W 0 (fun _ => true) true k 3 ((cs.toList.drop 1).take (Try.prog.cellsOf 3)) = some y1 := hfs 1 _ rfl
    have g2 : DataW.trod enc Try.prog W 0 (fun _ => true) true k 22 ((cs.toList.drop 2).take (Try.prog.cellsOf 22)) = some y2 := hfs 2 _ rfl
    have g3 : DataW.trod enc Try.prog W 0 (fun _ => true) true k 22 ((cs.toList.drop 3).take (Try.prog.cellsOf 22)) = some y3 := hfs 3 _ rfl
    rw [ei] at g0 g1
    rw [em] at g2 g3
    obtain ⟨c0, h0, e0⟩ := one_at 0 hl (by omega)
    obtain ⟨c1, h1, e1⟩ := one_at 1 hl (by omega)
    obtain ⟨c2, h2, e2⟩ := one_at 2 hl (by omega)
    obtain ⟨c3, h3, e3⟩ := one_at 3 hl (by omega)
    rw [e0] at g0
    rw [e1] at g1
    rw [e2] at g2
    rw [e3] at g3
    obtain ⟨z0, hz0, hw0⟩ := DataW.trod_int Try.underlying3 g0
    obtain ⟨z1, hz1, hw1⟩ := DataW.trod_int Try.underlying3 g1
    simp only [List.cons.injEq, and_true] at hz0 hz1
    subst hz0 hz1
    obtain ⟨ms, mo, mS⟩ := open_rows markL (List.replicate 16 0) MarkOk 16 cells_marks (by decide) (fun _ _ _ h => open_markcs h) Try.underlying22 g2
    obtain ⟨mt, no, nS⟩ := open_rows markL (List.replicate 16 0) MarkOk 16 cells_marks (by decide) (fun _ _ _ h => open_markcs h) Try.underlying22 g3
    exact ⟨cs.toList, z0, z1, c2, c3, ms, mt, rfl, hl, h0, h1, h2, h3, mksl_rows mo mS, mksl_rows no nS, wf_int hw0.2, wf_int hw1.2⟩
end

end Go.Proofs.Ytpgiinogfmhfiaa

namespace Go.Proofs.Ytpgiinogfmhfiaa
open Go.ChangeShapes Go.WideShapes Go.ChangeAt Go.RowKit

section
variable {H : Type} {enc : TypeId × Value → H} {W : World}
set_option maxRecDepth 100000 in
theorem open_bmark {v : Value} {d : DataW H} {p : List MemPlace} {base : Nat} (hv : Value.okWide Try.prog W .any base 27 v) (h : DataW.Trod enc Try.prog W 0 (fun _ => true) true 27 v d p) :
    ∃ (cs : List Value) (mm : List Int), v = .agg cs.toArray ∧ (cs.drop 4).take 16 = markL mm ∧ MarkOk mm := by
  obtain ⟨cs, rfl, hsz⟩ := okWide_struct Try.underlying27 hv
  obtain ⟨fuel, hf⟩ := h
  obtain ⟨xs, k, _, _, hl, hxl, hfs⟩ := DataW.trod_struct Try.underlying27 hf
  have ek : Try.prog.cellsOf 27 = 21 := by kernel_rfl
  simp only [Value.cells] at hl hfs
  rw [ek] at hl
  match xs, hxl with
  | [y0, y1, y2, y3, y4, y5], _ =>
    have g4 : DataW.trod enc Try.prog W 0 (fun _ => true) true k 24 ((cs.toList.drop 4).take (Try.prog.cellsOf 24)) = some y4 := hfs 4 _ rfl
    rw [cells_marks] at g4
    obtain ⟨mm, om, em⟩ := open_markcs g4
    exact ⟨cs.toList, mm, rfl, em, om⟩
end

end Go.Proofs.Ytpgiinogfmhfiaa
