/-
  Layer 22's arguments opened: a list of pairs, a row; what the listed table gives; the start's own heap. No condition.
-/
import Derived.Test.YtjipcmhknikcgaaDoorLgO
import Derived.Test.YtjipcmhknikcgaaDoorRows
import Derived.LaidMore
import Derived.Stop.Joined
import Derived.Lib.LaidTab
namespace Go.Proofs.YtjipcmhknikcgaaDoor
open Go.ChangeShapes Go.WideShapes Go.ChangeAt Go.RowKit

theorem cells_u16 : Tryd.prog.cellsOf 51 = 1 := by kernel_rfl
theorem cells_pr : Tryd.prog.cellsOf 52 = 2 := by kernel_rfl
theorem wf_u16 {z : Int} (h : (Lit.int .u16 z).wf = true) : 0 ≤ z ∧ z < 65536 := by
  simp [Lit.wf] at h
  have hmin : IntKind.u16.min = 0 := by decide
  have hmax : IntKind.u16.max = 65535 := by decide
  rw [hmin, hmax] at h
  have := h.2
  exact ⟨h.1, by omega⟩
theorem wf_u64 {z : Int} (h : (Lit.int .u64 z).wf = true) : u64R z := by
  simp [Lit.wf] at h
  have hmin : IntKind.u64.min = 0 := by decide
  have hmax : IntKind.u64.max = 18446744073709551615 := by decide
  rw [hmin, hmax] at h
  have := h.2
  exact ⟨h.1, by unfold mx64; omega⟩
theorem open_prcs {H : Type} {enc : TypeId × Value → H} {W : World} {fuel : Nat} {cs : List Value} {x : DataW H × List MemPlace} (h : DataW.trod enc Tryd.prog W 0 (fun _ => true) true fuel 52 cs = some x) : ∃ q : PrQ, PrOk q ∧ cs = prL q := by
  obtain ⟨zs, hz, hl, hw⟩ := open_array Tryd.underlying52 Tryd.underlying51 cells_u16 cells_pr h
  match zs, hl with
  | [a, b], _ => exact ⟨(a, b), ⟨wf_u16 (hw a (by simp)), wf_u16 (hw b (by simp))⟩, hz⟩
set_option maxRecDepth 100000 in
theorem open_prsv {H : Type} {enc : TypeId × Value → H} {W : World} {base : Nat} {v : Value} {d : DataW H} {p : List MemPlace} (hv : Value.okWide Tryd.prog W .any base 50 v)
    (h : DataW.Trod enc Tryd.prog W 0 (fun _ => true) true 50 v d p) : ∃ qs, PrSl W v qs := by
  obtain ⟨fu, hf⟩ := h
  obtain ⟨y0, len0, cap0, rfl⟩ := okWide_slice Tryd.underlying50 hv
  obtain ⟨ms, mo, mS⟩ := open_rows prL (0, 0) PrOk 2 cells_pr (by decide) (fun _ _ _ h => open_prcs h) Tryd.underlying50 hf
  exact ⟨ms, mS, mo⟩
theorem array_two {α : Type} {cs : Array α} (h : cs.size = 2) : ∃ c0 c1, cs = #[c0, c1] := by
  obtain ⟨l⟩ := cs
  match l, h with
  | [c0, c1], _ => exact ⟨c0, c1, rfl⟩
set_option maxRecDepth 100000 in
theorem open_rowv {H : Type} {enc : TypeId × Value → H} {W : World} {base : Nat} {v : Value} {d : DataW H} {p : List MemPlace} (hv : Value.okWide Tryd.prog W .any base 29 v)
    (h : DataW.Trod enc Tryd.prog W 0 (fun _ => true) true 29 v d p) : ∃ q : RwQ, RwOk q ∧ v = rV q := by
  have ek : Tryd.prog.cellsOf 29 = 2 := by kernel_rfl
  obtain ⟨cs, rfl, hsz⟩ := okWide_struct Tryd.underlying29 hv
  obtain ⟨c0, c1, rfl⟩ := array_two (hsz.trans ek)
  obtain ⟨fuel, hf⟩ := h
  obtain ⟨y0, y1, n, _, _, h0, h1⟩ := trod_struct2 Tryd.underlying29 hf
  have e8 : Tryd.prog.cellsOf 27 = 1 := by kernel_rfl
  obtain ⟨a, ea, _, wa⟩ := DataW.trod_int Tryd.underlying27 h0
  obtain ⟨b, eb, _, wb⟩ := DataW.trod_int Tryd.underlying27 h1
  simp [Value.cells, e8] at ea eb
  exact ⟨(a, b), ⟨wf_u64 wa, wf_u64 wb⟩, by rw [ea, eb]; rfl⟩

/-- What the rows list. -/
abbrev lgLaid : List (String × DataW Unit) := [("math/bits.deBruijn32tab", Rows.laid_math_bits_deBruijn32tab), ("math/bits.deBruijn64tab", Rows.laid_math_bits_deBruijn64tab), ("internal/strconv.uint64pow10", Rows.laid_internal_strconv_uint64pow10)]
theorem pow10_data : (Rows.laid_internal_strconv_uint64pow10 : DataW Unit) = Lib.tabData .u64 Lib.pow10Tab := by
  unfold Rows.laid_internal_strconv_uint64pow10 Lib.tabData
  rfl
theorem gPow : Tryd.prog.globalNamed "internal/strconv.uint64pow10" = some 0 := by kernel_rfl
theorem tPow : (Tryd.prog.globals[0]?).map (·.type) = some 85 := by kernel_rfl
theorem cells_pow : Tryd.prog.cellsOf 85 = 20 := by kernel_rfl
theorem cells_u64 : Tryd.prog.cellsOf 27 = 1 := by kernel_rfl
set_option maxRecDepth 100000 in
theorem tb_of_laid {W : World} (h : laidMetH Tryd.prog lgLaid W) : Tb W := by
  rw [MakeChecks.laidMetH_plain _ _ _ (by kernel_rfl)] at h
  obtain ⟨ps, ⟨g0, t0, cs0, f0, p0, q0, hg0, ht0, hv0, hd0, ⟨g1, t1, cs1, f1, p1, q1, hg1, ht1, hv1, hd1, ⟨g2, t2, cs2, f2, p2, q2, hg2, ht2, hv2, hd2, _, _⟩, _⟩, _⟩, _, _⟩ := h
  obtain rfl := Option.some.inj (gPow.symm.trans hg2)
  obtain rfl := Option.some.inj (tPow.symm.trans ht2)
  rw [pow10_data] at hd2
  have e := Lib.cells_of_tab Tryd.underlying85 Tryd.underlying27 cells_u64 cells_pow hd2
  unfold World.var? at hv2
  rw [gPow] at hv2
  simp only [Option.bind_some] at hv2
  split at hv2
  · rename_i cs t fr hh
    cases hv2
    exact ⟨t, fr, by rw [hh, ← e]⟩
  · cases hv2
/-- The door's own heap meets the condition. -/
theorem door_met (os : Os) (args : Array Value) : laidMetH Tryd.prog lgLaid ((World.doorLaid Tryd.prog 400 os).forCall (fun _ _ => 0) ⟨#[], args, []⟩).memory :=
  laidMetH_of_parts3 (fuel := 8) (laidMet_of_run' 8 (by kernel_rfl) (by kernel_rfl)) (by kernel_rfl) (by kernel_rfl)

end Go.Proofs.YtjipcmhknikcgaaDoor
