/-
  Arguments opened: a frame, a list of frames, a case of layer 19. No condition.
-/
import Derived.Test.YtmgmghlflldepaaFrR
import Derived.Test.YtmgmghlflldepaaOpenBy
import Derived.Test.YtmgmghlflldepaaOpenRows
namespace Go.Proofs.Ytmgmghlflldepaa
open Go.ChangeShapes Go.WideShapes Go.ChangeAt Go.RowKit

section
variable {H : Type} {enc : TypeId × Value → H} {W : World} {fuel : Nat} {cs : List Value} {x : DataW H × List MemPlace}
theorem open_bytes_cs {v : Value} (hf : DataW.trod enc Try.prog W 0 (fun _ => true) true fuel 22 [v] = some x) : ∃ zs, BySl Nb W v zs := by
  rcases open_ints Try.underlying22 Try.underlying5 cells_byte hf with ⟨hcs, _⟩ | ⟨y, l, c, zs, hcs, _, hl, hm, hz, _, hcell, hwz⟩
  · simp only [List.cons.injEq, and_true] at hcs
    subst hcs
    exact ⟨[], fun i => by simp, .inl ⟨⟨_, _, rfl⟩, rfl⟩⟩
  · simp only [List.cons.injEq, and_true] at hcs
    subst hcs
    have hz' : zs.length = c := by simpa using hz
    by_cases hn : l = 0
    · subst hn
      exact ⟨[], fun i => by simp, .inl ⟨⟨_, _, rfl⟩, rfl⟩⟩
    · obtain ⟨blk, off, spot⟩ := y
      have hspot : spot = none := by
        have := World.cell?_spot (hcell 0 (by omega))
        simpa [Addr.add] using this
      subst hspot
      have elen : (zs.take l).length = l := by simp; omega
      refine ⟨zs.take l, fun i => ?_, .inr ⟨blk, off, c, by rw [elen], by omega, hm, fun i hi => ?_, fun _ h => h⟩⟩
      · have hr := range_u8 (zs := zs.take l) (fun n hn => hwz n (List.mem_of_mem_take hn)) i
        omega
      · rw [elen] at hi
        have := hcell i (by omega)
        rw [add_none] at this
        rw [List.getElem?_take_of_lt hi]
        simpa [List.getD] using this
abbrev FrV := Int × Value
def FrOk (W : World) (q : FrV) : Prop := (-9223372036854775808 ≤ q.1 ∧ q.1 < 9223372036854775808) ∧ ∃ zs, BySl Nb W q.2 zs
theorem cells_frame : Try.prog.cellsOf 24 = 2 := by kernel_rfl
theorem cells_intf : Try.prog.cellsOf 3 = 1 := by kernel_rfl
theorem wff_i64 {z : Int} (h : (Lit.int .i64 z).wf = true) : -9223372036854775808 ≤ z ∧ z < 9223372036854775808 := by
  simp [Lit.wf] at h
  have hmin : IntKind.i64.min = -9223372036854775808 := by decide
  have hmax : IntKind.i64.max = 9223372036854775807 := by decide
  omega
theorem open_frame {d : DataW H × List MemPlace} (hf : DataW.trod enc Try.prog W 0 (fun _ => true) true fuel 24 cs = some d) : ∃ q : FrV, FrOk W q ∧ cs = frL q.1 q.2 := by
  obtain ⟨xs, k, _, _, hl, hxl, hfs⟩ := DataW.trod_struct Try.underlying24 hf
  rw [cells_frame] at hl
  match cs, hl with
  | [c0, c1], _ =>
    match xs, hxl with
    | [y0, y1], _ =>
      have g0 := hfs 0 _ rfl
      have g1 := hfs 1 _ rfl
      simp [cells_intf, cells_bytes] at g0 g1
      obtain ⟨N, hN, hw⟩ := DataW.trod_int Try.underlying3 g0
      obtain ⟨zs, hz⟩ := open_bytes_cs g1
      simp only [List.cons.injEq, and_true] at hN
      subst hN
      exact ⟨(N, c1), ⟨wff_i64 hw.2, zs, hz⟩, rfl⟩
end
theorem array_of_2 {α : Type} {cs : Array α} (h : cs.size = 2) : ∃ c0 c1, cs = #[c0, c1] := by
  obtain ⟨l⟩ := cs
  match l, h with
  | [c0, c1], _ => exact ⟨c0, c1, rfl⟩
theorem array_of_7 {α : Type} {cs : Array α} (h : cs.size = 7) : ∃ c0 c1 c2 c3 c4 c5 c6, cs = #[c0, c1, c2, c3, c4, c5, c6] := by
  obtain ⟨l⟩ := cs
  match l, h with
  | [c0, c1, c2, c3, c4, c5, c6], _ => exact ⟨c0, c1, c2, c3, c4, c5, c6, rfl⟩
set_option maxRecDepth 100000 in
theorem open_framev {H : Type} {enc : TypeId × Value → H} {W : World} {base : Nat} {v : Value} {d : DataW H} {p : List MemPlace} (hv : Value.okWide Try.prog W .any base 24 v)
    (h : DataW.Trod enc Try.prog W 0 (fun _ => true) true 24 v d p) : ∃ q : FrV, FrOk W q ∧ v = frV q.1 q.2 := by
  obtain ⟨cs, rfl, hsz⟩ := okWide_struct Try.underlying24 hv
  obtain ⟨c0, c1, rfl⟩ := array_of_2 (hsz.trans cells_frame)
  obtain ⟨fuel, hf⟩ := h
  obtain ⟨q, hq, e⟩ := open_frame (cs := [c0, c1]) hf
  refine ⟨q, hq, ?_⟩
  injection e with e1 e2
  injection e2 with e2
  rw [e1, e2]
set_option maxRecDepth 100000 in
theorem open_fcase {H : Type} {enc : TypeId × Value → H} {W : World} {base : Nat} {v : Value} {d : DataW H} {p : List MemPlace} (hv : Value.okWide Try.prog W .any base 39 v)
    (h : DataW.Trod enc Try.prog W 0 (fun _ => true) true 39 v d p) :
    ∃ (vb vf : Value) (more zs : List Int) (k m a c x : Int), v = caseV vb k vf m a c x ∧ BySl Nb W vb more ∧ BySl Nb W vf zs ∧ (-9223372036854775808 ≤ a ∧ a < 9223372036854775808) ∧ (-9223372036854775808 ≤ m ∧ m < 9223372036854775808) ∧ (0 ≤ c ∧ c < 65536) ∧ (0 ≤ x ∧ x < 256) := by
  have ek : Try.prog.cellsOf 39 = 7 := by kernel_rfl
  have e16 : Try.prog.cellsOf 37 = 1 := by kernel_rfl
  obtain ⟨cs, rfl, hsz⟩ := okWide_struct Try.underlying39 hv
  obtain ⟨c0, c1, c2, c3, c4, c5, c6, rfl⟩ := array_of_7 (hsz.trans ek)
  obtain ⟨fuel, hf⟩ := h
  obtain ⟨xs, k, _, _, _, hxl, hfs⟩ := DataW.trod_struct Try.underlying39 hf
  match xs, hxl with
  | [y0, y1, y2, y3, y4, y5], _ =>
    have g0 := hfs 0 _ rfl
    have g1 := hfs 1 _ rfl
    have g2 := hfs 2 _ rfl
    have g3 := hfs 3 _ rfl
    have g4 := hfs 4 _ rfl
    have g5 := hfs 5 _ rfl
    simp [Value.cells, cells_intf, cells_bytes, cells_frame, e16, cells_byte] at g0 g1 g2 g3 g4 g5
    obtain ⟨more, hb⟩ := open_bytes_cs g0
    obtain ⟨q, hq, e⟩ := open_frame g1
    obtain ⟨M, hM, hw2⟩ := DataW.trod_int Try.underlying3 g2
    obtain ⟨A, hA, hw3⟩ := DataW.trod_int Try.underlying3 g3
    obtain ⟨C, hC, hw4⟩ := DataW.trod_int Try.underlying37 g4
    obtain ⟨X, hX, hw5⟩ := DataW.trod_int Try.underlying5 g5
    simp only [List.cons.injEq, and_true] at hM hA hC hX e
    obtain ⟨e1, e2⟩ := e
    obtain ⟨-, zs, hz⟩ := hq
    subst hM hA hC hX e1 e2
    have w4 := hw4.2
    have w5 := hw5.2
    simp [Lit.wf] at w4 w5
    have h1 : IntKind.u16.min = 0 := by decide
    have h2 : IntKind.u16.max = 65535 := by decide
    have h3 : IntKind.u8.min = 0 := by decide
    have h4 : IntKind.u8.max = 255 := by decide
    exact ⟨c0, _, more, zs, _, M, A, C, X, rfl, hb, hz, wff_i64 hw3.2, wff_i64 hw2.2, by omega, by omega⟩
set_option maxRecDepth 100000 in
theorem open_framesv {H : Type} {enc : TypeId × Value → H} {W : World} {base : Nat} {v : Value} {d : DataW H} {p : List MemPlace} (hv : Value.okWide Try.prog W .any base 41 v)
    (h : DataW.Trod enc Try.prog W 0 (fun _ => true) true 41 v d p) : ∃ qs : List FrV, (∀ q ∈ qs, FrOk W q) ∧ RowsSl (fun q : FrV => frL q.1 q.2) (0, .slice none 0 0) 2 W v qs := by
  obtain ⟨x, n, c, rfl⟩ := okWide_slice Try.underlying41 hv
  obtain ⟨fuel, hf⟩ := h
  exact open_rows (fun q : FrV => frL q.1 q.2) (0, .slice none 0 0) (FrOk W) 2 cells_frame (by decide) (fun _ _ _ h => open_frame h) Try.underlying41 hf

end Go.Proofs.Ytmgmghlflldepaa
