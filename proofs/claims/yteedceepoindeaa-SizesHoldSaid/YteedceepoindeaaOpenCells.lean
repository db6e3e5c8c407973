/-
  Arguments opened: cells, marks, slices of cells. No condition.
-/
import Derived.Test.YteedceepoindeaaCelIk
import Derived.Test.YteedceepoindeaaOpenRows
namespace Go.Proofs.Yteedceepoindeaa
open Go.ChangeShapes Go.WideShapes Go.ChangeAt Go.RowKit

theorem cut_at {α : Type} (cs : List α) (a b : Nat) : cs.drop a = (cs.drop a).take b ++ cs.drop (a + b) := by
  rw [← List.drop_drop, List.take_append_drop]
theorem cells_mark : Try.prog.cellsOf 23 = 16 := by kernel_rfl
theorem cells_cell : Try.prog.cellsOf 41 = 18 := by kernel_rfl
theorem cells_int : Try.prog.cellsOf 3 = 1 := by kernel_rfl
theorem cells_u64 : Try.prog.cellsOf 39 = 1 := by kernel_rfl
theorem wf_i64 {z : Int} (h : (Lit.int .i64 z).wf = true) : -9223372036854775808 ≤ z ∧ z < 9223372036854775808 := by
  simp [Lit.wf] at h
  have hmin : IntKind.i64.min = -9223372036854775808 := by decide
  rw [hmin] at h
  have := h.2
  exact ⟨h.1, by omega⟩
theorem wf_u64 {z : Int} (h : (Lit.int .u64 z).wf = true) : 0 ≤ z ∧ z < 18446744073709551616 := by
  simp [Lit.wf] at h
  have hmin : IntKind.u64.min = 0 := by decide
  have hmax : IntKind.u64.max = 18446744073709551615 := by decide
  rw [hmin, hmax] at h
  omega
section
variable {H : Type} {enc : TypeId × Value → H} {W : World} {fuel : Nat} {cs : List Value} {x : DataW H × List MemPlace}
theorem open_mark (h : DataW.trod enc Try.prog W 0 (fun _ => true) true fuel 23 cs = some x) : ∃ m : List Int, MarkOk m ∧ cs = markL m := by
  obtain ⟨zs, hz, hl, hw⟩ := open_array under_mark under_u8 cells_byte cells_mark h
  refine ⟨zs, ⟨hl, fun i => ?_⟩, hz⟩
  have hr := range_u8 hw i
  omega
set_option maxRecDepth 100000 in
theorem open_cell (h : DataW.trod enc Try.prog W 0 (fun _ => true) true fuel 41 cs = some x) : ∃ q : Cel, CelOk q ∧ cs = cl q := by
  obtain ⟨xs, m, _, _, hl, hxl, hfs⟩ := DataW.trod_struct Try.underlying41 h
  match xs, hxl with
  | [y0, y1, y2], _ =>
    have g0 : DataW.trod enc Try.prog W 0 (fun _ => true) true m 3 ((cs.drop 0).take (Try.prog.cellsOf 3)) = some y0 := hfs 0 _ rfl
    have g1 : DataW.trod enc Try.prog W 0 (fun _ => true) true m 23 ((cs.drop 1).take (Try.prog.cellsOf 23)) = some y1 := hfs 1 _ rfl
    have g2 : DataW.trod enc Try.prog W 0 (fun _ => true) true m 39 ((cs.drop 17).take (Try.prog.cellsOf 39)) = some y2 := hfs 2 _ rfl
    rw [cells_cell] at hl
    rw [cells_int] at g0
    rw [cells_mark] at g1
    rw [cells_u64] at g2
    obtain ⟨c, hc, _, wc⟩ := DataW.trod_int Try.underlying3 g0
    obtain ⟨ms, om, hm⟩ := open_mark g1
    obtain ⟨k, hk, _, wk⟩ := DataW.trod_int Try.underlying39 g2
    refine ⟨(c, ms, k), ⟨(wf_i64 wc).1, (wf_i64 wc).2, om, (wf_u64 wk).1, (wf_u64 wk).2⟩, ?_⟩
    have e0 := cut_at cs 0 1
    have e1 := cut_at cs 1 16
    have e2 := cut_at cs 17 1
    have e3 : cs.drop 18 = [] := List.drop_eq_nil_of_le (by omega)
    rw [hc] at e0
    rw [hm] at e1
    rw [hk, e3] at e2
    rw [List.drop_zero, e1, e2] at e0
    exact e0
end
set_option maxRecDepth 100000 in
theorem open_cellsv {H : Type} {enc : TypeId × Value → H} {W : World} {base : Nat} {v : Value} {d : DataW H} {p : List MemPlace} (hv : Value.okWide Try.prog W .any base 35 v)
    (h : DataW.Trod enc Try.prog W 0 (fun _ => true) true 35 v d p) : ∃ l, (∀ q ∈ l, CelOk q) ∧ RowsSl cl c0 18 W v l := by
  obtain ⟨fu, hf⟩ := h
  obtain ⟨y0, len0, cap0, rfl⟩ := okWide_slice Try.underlying35 hv
  obtain ⟨l, lo, ls⟩ := open_rows cl c0 CelOk 18 cells_cell (by decide) (fun _ _ _ h => open_cell h) Try.underlying35 hf
  exact ⟨l, lo, ls⟩

end Go.Proofs.Yteedceepoindeaa
