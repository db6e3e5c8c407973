/-
  A mark as an argument opened. No condition.
-/
import Derived.Test.YtpgiinogfmhfiaaCelIk
import Derived.Test.YtpgiinogfmhfiaaOpenRows
namespace Go.Proofs.Ytpgiinogfmhfiaa
open Go.ChangeShapes Go.WideShapes Go.ChangeAt Go.RowKit

theorem cells_marks : Try.prog.cellsOf 24 = 16 := by kernel_rfl
theorem wf_int {z : Int} (h : (Lit.int .i64 z).wf = true) : -9223372036854775808 ≤ z ∧ z < 9223372036854775808 := by
  simp [Lit.wf] at h
  have hmin : IntKind.i64.min = -9223372036854775808 := by decide
  rw [hmin] at h
  have := h.2
  exact ⟨h.1, by omega⟩
set_option maxRecDepth 10000 in
theorem open_markv {H : Type} {enc : TypeId × Value → H} {W : World} {base : Nat} {v : Value} {d : DataW H} {p : List MemPlace} (hv : Value.okWide Try.prog W .any base 24 v)
    (h : DataW.Trod enc Try.prog W 0 (fun _ => true) true 24 v d p) : ∃ m : List Int, MarkOk m ∧ v = markV m := by
  simp only [Value.okWide, under_mark] at hv
  obtain ⟨cs, rfl, _, _⟩ := hv
  obtain ⟨fuel, hf⟩ := h
  obtain ⟨zs, hz, hl, hw⟩ := open_array under_mark under_u8 cells_byte cells_marks hf
  obtain ⟨lc⟩ := cs
  simp only [Value.cells] at hz
  refine ⟨zs, ⟨hl, fun i => ?_⟩, ?_⟩
  · have hr := range_u8 hw i
    omega
  · have hz' : lc = markL zs := hz
    rw [hz']
theorem open_intv {H : Type} {enc : TypeId × Value → H} {W : World} {n : Int} {d : DataW H} {p : List MemPlace}
    (h : DataW.Trod enc Try.prog W 0 (fun _ => true) true 3 (.int .i64 n) d p) : -9223372036854775808 ≤ n ∧ n < 9223372036854775808 := by
  obtain ⟨fuel, hf⟩ := h
  obtain ⟨a, ea, _, wa⟩ := DataW.trod_int Try.underlying3 hf
  have e : n = a := by simpa [Value.cells] using ea
  rw [e]
  exact wf_int wa
theorem open_markcs {H : Type} {enc : TypeId × Value → H} {W : World} {fuel : Nat} {cs : List Value} {x : DataW H × List MemPlace} (h : DataW.trod enc Try.prog W 0 (fun _ => true) true fuel 24 cs = some x) : ∃ m : List Int, MarkOk m ∧ cs = markL m := by
  obtain ⟨zs, hz, hl, hw⟩ := open_array under_mark under_u8 cells_byte cells_marks h
  refine ⟨zs, ⟨hl, fun i => ?_⟩, hz⟩
  have hr := range_u8 hw i
  omega
theorem mksl_rows {W : World} {v : Value} {ms : List (List Int)} (ho : ∀ q ∈ ms, MarkOk q) (h : RowsSl markL (List.replicate 16 0) 16 W v ms) : MkSl W v ms := by
  refine ⟨fun i => ?_, h⟩
  unfold markAt
  cases hi : ms[i]? with
  | none => exact zero_ok
  | some m => exact ho m (List.mem_of_getElem? hi)
set_option maxRecDepth 100000 in
theorem open_marksv {H : Type} {enc : TypeId × Value → H} {W : World} {base : Nat} {v : Value} {d : DataW H} {p : List MemPlace} (hv : Value.okWide Try.prog W .any base 22 v)
    (h : DataW.Trod enc Try.prog W 0 (fun _ => true) true 22 v d p) : ∃ ms, MkSl W v ms := by
  obtain ⟨fu, hf⟩ := h
  obtain ⟨y0, len0, cap0, rfl⟩ := okWide_slice Try.underlying22 hv
  obtain ⟨ms, mo, mS⟩ := open_rows markL (List.replicate 16 0) MarkOk 16 cells_marks (by decide) (fun _ _ _ h => open_markcs h) Try.underlying22 hf
  exact ⟨ms, mksl_rows mo mS⟩

end Go.Proofs.Ytpgiinogfmhfiaa
