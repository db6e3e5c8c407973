/-
  Layer 10: slices of cells, made and summed. No condition.
-/
import Derived.Test.YteedceepoindeaaCelIk
namespace Go.Proofs.Yteedceepoindeaa
open Go.RowKit

abbrev CSl (w : World) (v : Value) (l : List Cel) : Prop := RowsSl cl c0 18 w v l
theorem celOk_of {l : List Cel} (ho : ∀ q ∈ l, CelOk q) (i : Nat) : CelOk (celAt l i) := by
  unfold celAt
  cases hi : l[i]? with
  | none => exact c0_ok
  | some m => exact ho m (List.mem_of_getElem? hi)
theorem cell_zero : ∃ i z, Try.prog.info? 41 = some i ∧ i.zero = some z ∧ i.size = 18 ∧ i.bytes = 32 := by
  have h : ((Try.prog.info? 41).map fun i => (i.zero.isSome, i.size, i.bytes)) = some (true, 18, 32) := by kernel_rfl
  obtain ⟨i, hi, h2⟩ := Option.map_eq_some_iff.1 h
  simp only [Prod.mk.injEq] at h2
  obtain ⟨z, hz⟩ := Option.isSome_iff_exists.1 h2.1
  exact ⟨i, z, hi, hz, h2.2.1, h2.2.2⟩
theorem make_cells (w : World) (n : Nat) (hn : n ≤ 1000000) : ∃ zs : List Value, zs.length = n * 18 ∧ (Instr.makeSlice 35 (.int .i64 (n : Int)) (.int .i64 (n : Int))).run Try.prog w = .ok (.slice (some ⟨w.heap.size, 0, none⟩) n n) (w.alloc (.cells zs.toArray 41)) := by
  obtain ⟨i, z, h1, h2, h3, h4⟩ := cell_zero
  refine ⟨(madeCells z.cells (n * 18)).toList, by rw [Array.length_toList, size_madeCells], ?_⟩
  have h := run_make (P := Try.prog) w _ _ i z Try.underlying35 h1 h2 .i64 .i64 n n (by omega) (Int.le_refl _) (by rw [h4]; omega) (by omega)
  rw [Int.toNat_natCast, h3] at h
  exact h

end Go.Proofs.Yteedceepoindeaa
