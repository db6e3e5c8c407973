/-
  A mark as an argument opened. No condition.
-/
import Derived.Test.YteedceepoindeaaCelIk
import Derived.Test.YteedceepoindeaaOpenRows
namespace Go.Proofs.Yteedceepoindeaa
open Go.ChangeShapes Go.WideShapes Go.ChangeAt Go.RowKit

theorem cells_marks : Try.prog.cellsOf 23 = 16 := by kernel_rfl
theorem wf_int {z : Int} (h : (Lit.int .i64 z).wf = true) : -9223372036854775808 ≤ z ∧ z < 9223372036854775808 := by
  simp [Lit.wf] at h
  have hmin : IntKind.i64.min = -9223372036854775808 := by decide
  rw [hmin] at h
  have := h.2
  exact ⟨h.1, by omega⟩
set_option maxRecDepth 10000 in
theorem open_markv {H : Type} {enc : TypeId × Value → H} {W : World} {base : Nat} {v : Value} {d : DataW H} {p : List MemPlace} (hv : Value.okWide Try.prog W .any base 23 v)
    (h : DataW.Trod enc Try.prog W 0 (fun _ => true) true 23 v d p) : ∃ m : List Int, MarkOk m ∧ v = markV m := by
  simp only [Value.okWide, under_mark] at hv
  obtain ⟨cs, rfl, _, _⟩ := hv
  obtain ⟨fuel, hf⟩ := h
  obtain ⟨zs, hz, hl, hw⟩ := open_array under_mark under_u8 cells_byte cells_marks hf
  obtain ⟨lc⟩ := cs
  simp only [Value.cells] at hz
  refine ⟨zs, ⟨hl, fun i => ?_⟩, ?_⟩
  · have hr := range_u8 hw i
    omega
  · have hz' : lc = markL zs := hz
    rw [hz']
theorem open_intv {H : Type} {enc : TypeId × Value → H} {W : World} {n : Int} {d : DataW H} {p : List MemPlace}
    (h : DataW.Trod enc Try.prog W 0 (fun _ => true) true 3 (.int .i64 n) d p) : -9223372036854775808 ≤ n ∧ n < 9223372036854775808 := by
  obtain ⟨fuel, hf⟩ := h
  obtain ⟨a, ea, _, wa⟩ := DataW.trod_int Try.underlying3 hf
  have e : n = a := by simpa [Value.cells] using ea
  rw [e]
  exact wf_int wa

end Go.Proofs.Yteedceepoindeaa
