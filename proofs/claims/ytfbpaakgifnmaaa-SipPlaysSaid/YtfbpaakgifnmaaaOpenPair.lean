/-
  An argument opened: a pair of numbers, a signed one, and bytes. No condition.
-/
import Derived.Test.YtfbpaakgifnmaaaOpenSl
namespace Go.Proofs.Ytfbpaakgifnmaaa
open Go.ChangeShapes Go.WideShapes Go.ChangeAt Go.RowKit

theorem array_of_four {α : Type} {cs : Array α} (h : cs.size = 4) : ∃ c0 c1 c2 c3, cs = #[c0, c1, c2, c3] := by
  obtain ⟨l⟩ := cs
  match l, h with
  | [c0, c1, c2, c3], _ => exact ⟨c0, c1, c2, c3, rfl⟩

theorem open_bytes_cell {H : Type} {enc : TypeId × Value → H} {W : World} {v : Value} {fuel : Nat} {x : DataW H × List MemPlace}
    (hf : DataW.trod enc Try.prog W 0 (fun _ => true) true fuel 42 [v] = some x) : ∃ zs, BySl Nb W v zs := by
  rcases open_ints Try.underlying42 Try.underlying5 cells_byte hf with ⟨hcs, _⟩ | ⟨y, l, c, zs, hcs, _, hl, hm, hz, _, hcell, hwz⟩
  · simp only [List.cons.injEq, and_true] at hcs
    subst hcs
    exact ⟨[], fun i => by simp, .inl ⟨⟨_, _, rfl⟩, rfl⟩⟩
  · simp only [List.cons.injEq, and_true] at hcs
    subst hcs
    have hz' : zs.length = c := by simpa using hz
    by_cases hn : l = 0
    · subst hn
      exact ⟨[], fun i => by simp, .inl ⟨⟨_, _, rfl⟩, rfl⟩⟩
    · obtain ⟨blk, off, spot⟩ := y
      have hspot : spot = none := by
        have := World.cell?_spot (hcell 0 (by omega))
        simpa [Addr.add] using this
      subst hspot
      have elen : (zs.take l).length = l := by simp; omega
      refine ⟨zs.take l, fun i => ?_, .inr ⟨blk, off, c, by rw [elen], by omega, hm, fun i hi => ?_, fun _ h => h⟩⟩
      · have hr := range_u8 (zs := zs.take l) (fun n hn => hwz n (List.mem_of_mem_take hn)) i
        omega
      · rw [elen] at hi
        have := hcell i (by omega)
        rw [add_none] at this
        rw [List.getElem?_take_of_lt hi]
        simpa [List.getD] using this

set_option maxRecDepth 100000 in
theorem open_pair {H : Type} {enc : TypeId × Value → H} {W : World} {base : Nat} {v : Value} {d : DataW H} {p : List MemPlace} (hv : Value.okWide Try.prog W .any base 87 v)
    (h : DataW.Trod enc Try.prog W 0 (fun _ => true) true 87 v d p) :
    ∃ (U V N : Int) (b : Value) (zs : List Int), v = .agg #[.int .u64 U, .int .u64 V, .int .i64 N, b] ∧ BySl Nb W b zs ∧ (0 ≤ U ∧ U < 18446744073709551616) ∧ (0 ≤ V ∧ V < 18446744073709551616) ∧ (-9223372036854775808 ≤ N ∧ N < 9223372036854775808) := by
  have ek : Try.prog.cellsOf 87 = 4 := by kernel_rfl
  obtain ⟨cs, rfl, hsz⟩ := okWide_struct Try.underlying87 hv
  obtain ⟨c0, c1, c2, c3, rfl⟩ := array_of_four (hsz.trans ek)
  obtain ⟨fuel, hf⟩ := h
  obtain ⟨xs, k, _, _, _, hxl, hfs⟩ := DataW.trod_struct Try.underlying87 hf
  have e3 : Try.prog.cellsOf 3 = 1 := by kernel_rfl
  have e22 : Try.prog.cellsOf 22 = 1 := by kernel_rfl
  match xs, hxl with
  | [y0, y1, y2, y3], _ =>
    have g0 := hfs 0 _ rfl
    have g1 := hfs 1 _ rfl
    have g2 := hfs 2 _ rfl
    have g3 := hfs 3 _ rfl
    simp [Value.cells, e3, e22, cells_bytes] at g0 g1 g2 g3
    obtain ⟨U, hU, hw0⟩ := DataW.trod_int Try.underlying22 g0
    obtain ⟨V, hV, hw1⟩ := DataW.trod_int Try.underlying22 g1
    obtain ⟨N, hN, hw2⟩ := DataW.trod_int Try.underlying3 g2
    obtain ⟨zs, hz⟩ := open_bytes_cell g3
    simp only [List.cons.injEq, and_true] at hU hV hN
    subst hU hV hN
    have w0 := hw0.2
    have w1 := hw1.2
    have w2 := hw2.2
    simp [Lit.wf] at w0 w1 w2
    have hmin : IntKind.i64.min = -9223372036854775808 := by decide
    have hminu : IntKind.u64.min = 0 := by decide
    have hmaxu : IntKind.u64.max = 18446744073709551615 := by decide
    exact ⟨U, V, N, c3, zs, rfl, hz, by omega, by omega, by omega⟩

end Go.Proofs.Ytfbpaakgifnmaaa
