/-
  Arguments opened: cells, marks, slices of them, a case of layer 10. No condition.
-/
import Derived.Test.YtofjkaemakdmeaaCelI
import Derived.Test.YtofjkaemakdmeaaOpenRows
namespace Go.Proofs.Ytofjkaemakdmeaa
open Go.ChangeShapes Go.WideShapes Go.ChangeAt Go.RowKit

theorem cut_at {α : Type} (cs : List α) (a b : Nat) : cs.drop a = (cs.drop a).take b ++ cs.drop (a + b) := by
  rw [← List.drop_drop, List.take_append_drop]
theorem cells_mark : Try.prog.cellsOf 23 = 16 := by kernel_rfl
theorem cells_cell : Try.prog.cellsOf 26 = 18 := by kernel_rfl
theorem cells_int : Try.prog.cellsOf 3 = 1 := by kernel_rfl
theorem cells_u64 : Try.prog.cellsOf 24 = 1 := by kernel_rfl
theorem wf_i64 {z : Int} (h : (Lit.int .i64 z).wf = true) : -9223372036854775808 ≤ z ∧ z < 9223372036854775808 := by
  simp [Lit.wf] at h
  have hmin : IntKind.i64.min = -9223372036854775808 := by decide
  rw [hmin] at h
  have := h.2
  exact ⟨h.1, by omega⟩
theorem wf_u64 {z : Int} (h : (Lit.int .u64 z).wf = true) : 0 ≤ z ∧ z < 18446744073709551616 := by
  simp [Lit.wf] at h
  have hmin : IntKind.u64.min = 0 := by decide
  have hmax : IntKind.u64.max = 18446744073709551615 := by decide
  rw [hmin, hmax] at h
  omega
section
variable {H : Type} {enc : TypeId × Value → H} {W : World} {fuel : Nat} {cs : List Value} {x : DataW H × List MemPlace}
theorem open_mark (h : DataW.trod enc Try.prog W 0 (fun _ => true) true fuel 23 cs = some x) : ∃ m : List Int, MarkOk m ∧ cs = markL m := by
  obtain ⟨zs, hz, hl, hw⟩ := open_array under_mark under_u8 cells_byte cells_mark h
  refine ⟨zs, ⟨hl, fun i => ?_⟩, hz⟩
  have hr := range_u8 hw i
  omega
set_option maxRecDepth 100000 in
theorem open_cell (h : DataW.trod enc Try.prog W 0 (fun _ => true) true fuel 26 cs = some x) : ∃ q : Cel, CelOk q ∧ cs = cl q := by
  obtain ⟨xs, m, _, _, hl, hxl, hfs⟩ := DataW.trod_struct Try.underlying26 h
  match xs, hxl with
  | [y0, y1, y2], _ =>
    have g0 : DataW.trod enc Try.prog W 0 (fun _ => true) true m 3 ((cs.drop 0).take (Try.prog.cellsOf 3)) = some y0 := hfs 0 _ rfl
    have g1 : DataW.trod enc Try.prog W 0 (fun _ => true) true m 23 ((cs.drop 1).take (Try.prog.cellsOf 23)) = some y1 := hfs 1 _ rfl
    have g2 : DataW.trod enc Try.prog W 0 (fun _ => true) true m 24 ((cs.drop 17).take (Try.prog.cellsOf 24)) = some y2 := hfs 2 _ rfl
    rw [cells_cell] at hl
    rw [cells_int] at g0
    rw [cells_mark] at g1
    rw [cells_u64] at g2
    obtain ⟨c, hc, _, wc⟩ := DataW.trod_int Try.underlying3 g0
    obtain ⟨ms, om, hm⟩ := open_mark g1
    obtain ⟨k, hk, _, wk⟩ := DataW.trod_int Try.underlying24 g2
    refine ⟨(c, ms, k), ⟨(wf_i64 wc).1, (wf_i64 wc).2, om, (wf_u64 wk).1, (wf_u64 wk).2⟩, ?_⟩
    have e0 := cut_at cs 0 1
    have e1 := cut_at cs 1 16
    have e2 := cut_at cs 17 1
    have e3 : cs.drop 18 = [] := List.drop_eq_nil_of_le (by omega)
    rw [hc] at e0
    rw [hm] at e1
    rw [hk, e3] at e2
    rw [List.drop_zero, e1, e2] at e0
    exact e0
set_option maxRecDepth 100000 in
theorem open_hcase {v : Value} {d : DataW H} {p : List MemPlace} {base : Nat} (hv : Value.okWide Try.prog W .any base 30 v) (h : DataW.Trod enc Try.prog W 0 (fun _ => true) true 30 v d p) :
    ∃ (a b c : Cel) (m : List Int) (vl vm : Value) (l : List Cel) (ms : List (List Int)), v = caseV a b c m vl vm ∧ CelOk a ∧ CelOk b ∧ CelOk c ∧ MarkOk m ∧ (∀ q ∈ l, CelOk q) ∧ RowsSl cl c0 18 W vl l ∧ (∀ q ∈ ms, MarkOk q) ∧ RowsSl markL (List.replicate 16 0) 16 W vm ms := by
  obtain ⟨cs, rfl, hsz⟩ := okWide_struct Try.underlying30 hv
  obtain ⟨fuel, hf⟩ := h
  obtain ⟨xs, k, _, _, hl, hxl, hfs⟩ := DataW.trod_struct Try.underlying30 hf
  have e72 : Try.prog.cellsOf 30 = 72 := by kernel_rfl
  have es : Try.prog.cellsOf 27 = 1 := by kernel_rfl
  have em : Try.prog.cellsOf 28 = 1 := by kernel_rfl
  simp only [Value.cells] at hl hfs
  match xs, hxl with
  | [y0, y1, y2, y3, y4, y5], _ =>
    have g0 : DataW.trod enc Try.prog W 0 (fun _ => true) true k 26 ((cs.toList.drop 0).take (Try.prog.cellsOf 26)) = some y0 := hfs 0 _ rfl
    have g1 : DataW.trod enc Try.prog W 0 (fun _ => true) true k 26 ((cs.toList.drop 18).take (Try.prog.cellsOf 26)) = some y1 := hfs 1 _ rfl
    have g2 : DataW.trod enc Try.prog W 0 (fun _ => true) true k 26 ((cs.toList.drop 36).take (Try.prog.cellsOf 26)) = some y2 := hfs 2 _ rfl
    have g3 : DataW.trod enc Try.prog W 0 (fun _ => true) true k 23 ((cs.toList.drop 54).take (Try.prog.cellsOf 23)) = some y3 := hfs 3 _ rfl
    have g4 : DataW.trod enc Try.prog W 0 (fun _ => true) true k 27 ((cs.toList.drop 70).take (Try.prog.cellsOf 27)) = some y4 := hfs 4 _ rfl
    have g5 : DataW.trod enc Try.prog W 0 (fun _ => true) true k 28 ((cs.toList.drop 71).take (Try.prog.cellsOf 28)) = some y5 := hfs 5 _ rfl
    rw [e72] at hl
    rw [cells_cell] at g0 g1 g2
    rw [cells_mark] at g3
    rw [es] at g4
    rw [em] at g5
    obtain ⟨a, oa, ha⟩ := open_cell g0
    obtain ⟨b, ob, hb⟩ := open_cell g1
    obtain ⟨c, oc, hc⟩ := open_cell g2
    obtain ⟨m, om, hm⟩ := open_mark g3
    have one : ∀ i, i < 72 → ∃ y, (cs.toList.drop i).take 1 = [y] := fun i hi => by
      have hi' : i < cs.toList.length := by rw [hl]; exact hi
      exact ⟨cs.toList[i], by rw [List.drop_eq_getElem_cons hi', List.take_succ_cons, List.take_zero]⟩
    obtain ⟨vl, hvl⟩ := one 70 (by decide)
    obtain ⟨vm, hvm⟩ := one 71 (by decide)
    rw [show (70 : Nat) = 70 from rfl, hvl] at g4
    rw [hvm] at g5
    obtain ⟨l, lo, ls⟩ := open_rows cl c0 CelOk 18 cells_cell (by decide) (fun _ _ _ h => open_cell h) Try.underlying27 g4
    obtain ⟨ms, mo, mS⟩ := open_rows markL (List.replicate 16 0) MarkOk 16 cells_mark (by decide) (fun _ _ _ h => open_mark h) Try.underlying28 g5
    refine ⟨a, b, c, m, vl, vm, l, ms, ?_, oa, ob, oc, om, lo, ls, mo, mS⟩
    have e0 := cut_at cs.toList 0 18
    have e1 := cut_at cs.toList 18 18
    have e2 := cut_at cs.toList 36 18
    have e3 := cut_at cs.toList 54 16
    have e4 := cut_at cs.toList 70 1
    have e5 := cut_at cs.toList 71 1
    have e6 : cs.toList.drop 72 = [] := List.drop_eq_nil_of_le (by omega)
    rw [ha] at e0
    rw [hb] at e1
    rw [hc] at e2
    rw [hm] at e3
    rw [hvl] at e4
    rw [hvm, e6] at e5
    rw [List.drop_zero, e1, e2, e3, e4, e5] at e0
    obtain ⟨l⟩ := cs
    simp only at e0
    rw [e0]
    rfl
theorem mksl_of {v : Value} {ms : List (List Int)} (ho : ∀ q ∈ ms, MarkOk q) (h : RowsSl markL (List.replicate 16 0) 16 W v ms) : MkSl W v ms := by
  refine ⟨fun i => ?_, h⟩
  unfold markAt
  cases hi : ms[i]? with
  | none => exact zero_ok
  | some m => exact ho m (List.mem_of_getElem? hi)
theorem celOk_at {l : List Cel} (ho : ∀ q ∈ l, CelOk q) (i : Nat) : CelOk (celAt l i) := by
  unfold celAt
  cases hi : l[i]? with
  | none => exact c0_ok
  | some m => exact ho m (List.mem_of_getElem? hi)
theorem celsl_of {v : Value} {l : List Cel} (ho : ∀ q ∈ l, CelOk q) (h : RowsSl cl c0 18 W v l) : CelSl W v l := ⟨fun i => (celOk_at ho i).mark.len, h⟩
end

end Go.Proofs.Ytofjkaemakdmeaa
