/-
  Layer 3's arguments opened: clocks, lists of dots, a case; what the listed tables and the world's shape give; the start's own heap; the wrap that hands both on. No condition.
  Layer 3's arguments opened in the ZD seat: a case. No condition.
  Arguments opened: bytes, a text, the block of a case's first clock; the library's two errors as the text lays them. No condition.
  PROVED: 'DotReadsCardSaid': whatever was sent, DotReads returns true and the input reads as it did. Conditions: the listed package-level variables start as the program's text lays them (the card ties them).
-/
import Derived.Test.YtbbfibgijackhaaGreatDoorPkO
import Derived.Test.YtbbfibgijackhaaGreatDoorPkM
import Derived.Test.YtbbfibgijackhaaGreatDoorRows
import Derived.Handed
import Derived.LaidMore
import Derived.Lay
import Derived.Stop.Joined
import Derived.Lib.LaidTab
import Derived.Test.YtbbfibgijackhaaGreatDoorPkZ
import Derived.Test.YtbbfibgijackhaaGreatDoorPkY
import Derived.Deep.Strs
import Derived.Deep.Matrix
import Derived.ChangeMaps5
import Derived.LaidLaws
import Derived.Test.YtbbfibgijackhaaGreatDoorCards
import Derived.Test.YtbbfibgijackhaaGreatDoorTie
import Derived.ChangeSame
import Derived.ChangeVars
import Derived.SevenTiedAt
namespace Go.Proofs.YtbbfibgijackhaaGreatDoor
open Go.ChangeShapes Go.WideShapes Go.ChangeAt Go.RowKit

theorem cells_int : Tryz.prog.cellsOf 3 = 1 := by kernel_rfl
theorem cells_run : Tryz.prog.cellsOf 61 = 3 := by kernel_rfl
theorem cells_clock : Tryz.prog.cellsOf 23 = 1 := by kernel_rfl
theorem wf_i64 {z : Int} (h : (Lit.int .i64 z).wf = true) : I64 z := by
  simp [Lit.wf] at h
  have hmin : IntKind.i64.min = -9223372036854775808 := by decide
  rw [hmin] at h
  have := h.2
  exact ⟨h.1, by omega⟩
theorem one_at {cs : List Value} {n : Nat} (i : Nat) (hl : cs.length = n) (hi : i < n) : ∃ y, cs[i]? = some y ∧ (cs.drop i).take 1 = [y] := by
  have hi' : i < cs.length := by omega
  exact ⟨cs[i], List.getElem?_eq_getElem hi', by rw [List.drop_eq_getElem_cons hi', List.take_succ_cons, List.take_zero]⟩
theorem three_at {cs : List Value} {a b c : Value} (hl : cs.length = 3) (h0 : cs[0]? = some a) (h1 : cs[1]? = some b) (h2 : cs[2]? = some c) : cs = [a, b, c] := by
  match cs, hl with
  | [x, y, z], _ =>
    have ea : x = a := by simpa using h0
    have eb : y = b := by simpa using h1
    have ec : z = c := by simpa using h2
    rw [ea, eb, ec]
section
variable {H : Type} {enc : TypeId × Value → H} {W : World}
theorem open_runcs {fuel : Nat} {cs : List Value} {x : DataW H × List MemPlace} (h : DataW.trod enc Tryz.prog W 0 (fun _ => true) true fuel 61 cs = some x) : ∃ q : RunQ, RunOk q ∧ cs = runL q := by
  obtain ⟨xs, k, _, _, hl, hxl, hfs⟩ := DataW.trod_struct Tryz.underlying61 h
  rw [cells_run] at hl
  match xs, hxl with
  | [y0, y1, y2], _ =>
    have g0 : DataW.trod enc Tryz.prog W 0 (fun _ => true) true k 3 ((cs.drop 0).take (Tryz.prog.cellsOf 3)) = some y0 := hfs 0 _ rfl
    have g1 : DataW.trod enc Tryz.prog W 0 (fun _ => true) true k 3 ((cs.drop 1).take (Tryz.prog.cellsOf 3)) = some y1 := hfs 1 _ rfl
    have g2 : DataW.trod enc Tryz.prog W 0 (fun _ => true) true k 3 ((cs.drop 2).take (Tryz.prog.cellsOf 3)) = some y2 := hfs 2 _ rfl
    rw [cells_int] at g0 g1 g2
    obtain ⟨c0, h0, e0⟩ := one_at 0 hl (by omega)
    obtain ⟨c1, h1, e1⟩ := one_at 1 hl (by omega)
    obtain ⟨c2, h2, e2⟩ := one_at 2 hl (by omega)
    rw [e0] at g0
    rw [e1] at g1
    rw [e2] at g2
    obtain ⟨z0, hz0, _, hw0⟩ := DataW.trod_int Tryz.underlying3 g0
    obtain ⟨z1, hz1, _, hw1⟩ := DataW.trod_int Tryz.underlying3 g1
    obtain ⟨z2, hz2, _, hw2⟩ := DataW.trod_int Tryz.underlying3 g2
    simp only [List.cons.injEq, and_true] at hz0 hz1 hz2
    subst hz0 hz1 hz2
    exact ⟨(z0, z1, z2), ⟨wf_i64 hw0, wf_i64 hw1, wf_i64 hw2⟩, three_at hl h0 h1 h2⟩
theorem cl_rows {v : Value} {c : List RunQ} (ho : ∀ q ∈ c, RunOk q) (h : RowsSl runL (0, 0, 0) 3 W v c) : ClSl W v c := ⟨runAt_ok ho, h⟩
set_option maxRecDepth 100000 in
theorem open_clockv {base : Nat} {v : Value} {d : DataW H} {p : List MemPlace} (hv : Value.okWide Tryz.prog W .any base 23 v)
    (h : DataW.Trod enc Tryz.prog W 0 (fun _ => true) true 23 v d p) : ∃ c, ClSl W v c := by
  obtain ⟨fu, hf⟩ := h
  obtain ⟨y0, len0, cap0, rfl⟩ := okWide_slice Tryz.underlying23 hv
  obtain ⟨c, ho, hS⟩ := open_rows runL (0, 0, 0) RunOk 3 cells_run (by decide) (fun _ _ _ h => open_runcs h) Tryz.underlying23 hf
  exact ⟨c, cl_rows ho hS⟩
set_option maxRecDepth 100000 in
theorem clock_in {base : Nat} {v : Value} (hv : Value.okWide Tryz.prog W .any base 23 v) : ∀ g, v.ownBlock = some g → g < W.heap.size := by
  obtain ⟨y0, len0, cap0, rfl⟩ := okWide_slice Tryz.underlying23 hv
  intro g hg
  cases y0 with
  | none => simp [Value.ownBlock] at hg
  | some a =>
    have e : a.block = g := by simpa [Value.ownBlock] using hg
    subst e
    simp only [Value.okWide, Tryz.underlying23, Cell.okWide, Cell.ok] at hv
    obtain ⟨_, _, row, cells, hs, _⟩ := hv.2.2
    rcases Nat.lt_or_ge a.block W.heap.size with h | h
    · exact h
    · exfalso
      have : W.heap[a.block]? = none := Array.getElem?_eq_none h
      simp [World.shape?, this] at hs
end

/-- What the rows list. -/
abbrev dtLaid : List (String × DataW Unit) := [("math/bits.deBruijn32tab", Rows.laid_math_bits_deBruijn32tab), ("math/bits.deBruijn64tab", Rows.laid_math_bits_deBruijn64tab), ("internal/strconv.uint64pow10", Rows.laid_internal_strconv_uint64pow10), ("unicode/utf8.acceptRanges", Rows.laid_unicode_utf8_acceptRanges), ("strconv.ErrRange", Rows.laid_strconv_ErrRange), ("strconv.ErrSyntax", Rows.laid_strconv_ErrSyntax), ("unicode/utf8.first", Rows.laid_unicode_utf8_first)]
theorem pow10_data : (Rows.laid_internal_strconv_uint64pow10 : DataW Unit) = Lib.tabData .u64 Lib.pow10Tab := by
  unfold Rows.laid_internal_strconv_uint64pow10 Lib.tabData
  rfl
theorem gPow : ∃ g, Tryz.prog.globalNamed "internal/strconv.uint64pow10" = some g ∧ (Tryz.prog.globals[g]?).map (·.type) = some 145 := ⟨_, rfl, by kernel_rfl⟩
theorem cells_pow : Tryz.prog.cellsOf 145 = 20 := by kernel_rfl
theorem cells_u64 : Tryz.prog.cellsOf 67 = 1 := by kernel_rfl
set_option maxRecDepth 100000 in
theorem tab_of_laid {W : World} (h : laidMetH Tryz.prog dtLaid W) : Tab W := by
  rw [MakeChecks.laidMetH_plain _ _ _ (by kernel_rfl)] at h
  obtain ⟨ps, ⟨g0, t0, cs0, f0, p0, q0, hg0, ht0, hv0, hd0, ⟨g1, t1, cs1, f1, p1, q1, hg1, ht1, hv1, hd1, ⟨g2, t2, cs2, f2, p2, q2, hg2, ht2, hv2, hd2, _, _⟩, _⟩, _⟩, _, _⟩ := h
  obtain ⟨g, hg, ht⟩ := gPow
  obtain rfl := Option.some.inj (hg.symm.trans hg2)
  obtain rfl := Option.some.inj (ht.symm.trans ht2)
  rw [pow10_data] at hd2
  have e := Lib.cells_of_tab Tryz.underlying145 Tryz.underlying67 cells_u64 cells_pow hd2
  unfold Tab Lib.TabIs
  rw [hv2, ← e]
theorem mx_of_shape {W : World} (h : W.ShapedOpen Tryz.prog) : Mx W := Tryz.laysM143.s1_3 W h
/-- The start's own heap meets the condition. -/
theorem laid_met (os : Os) (args : Array Value) : laidMetH Tryz.prog dtLaid ((World.laidAll Tryz.prog os dtLaid).forCall (fun _ _ => 0) ⟨#[], args, []⟩).memory := by
  rw [MakeChecks.laidMetH_plain _ _ _ (by kernel_rfl)]
  exact laidMet_laidAll _ (by kernel_rfl) (by kernel_rfl)
/-- A row's claim out of a contract that is handed the listed tables and the world's shape. -/
theorem handed_dt {H : Type} {enc : TypeId × Value → H} {C : Checked} {l : List (String × DataW Unit)} {os : Os} {f : FuncId} {fn : Func} {s : ChangeSpec} (own : ownKnob C.prog.godebug = none) (started : os.Started) (noInit : C.prog.inits.idxOf? f = none) (hfn : C.prog.funcs[f]? = some fn)
    (witness : ∃ (w : World) (tape : Tape) (i : Input), w.os = os ∧ (w.forCall tape i).Shaped C.prog ∧ i.vars = [] ∧ Input.okWide C.prog (w.forCall tape i) .any w.heap.size f i ∧
      ((s.pre enc C.prog fn [] false (w.forCall tape i).memory i.args ∧ laidMetH C.prog l (w.forCall tape i).memory) ∧ sizedMet enc C.prog fn (OpenSpec.ofChange s) false (w.forCall tape i).memory i.args) ∧
        Assume.holds {} C.prog (lone (Frame.enter C.prog f i.args .normal) [] (w.forCall tape i)))
    (contract : ∀ (W : World) (base : Nat) (args : Array Value) (ds gs : List (DataW H)) (before : List MemPlace),
      (∀ (j : Nat) t v, fn.params[j]? = some t → args[j]? = some v → Value.okWide C.prog W .any base t v) →
      DataW.Whole enc C.prog fn.params.toList s.vars false W args.toList ds gs before →
      laidMetH C.prog l W → W.ShapedOpen C.prog →
      Calls C.prog f args W fun e W' => ∃ v, e = .returned v ∧ s.post enc C.prog fn false true false false W args v W') :
    ReturnsInHanded {} C os f .any (fun w args => (s.pre enc C.prog fn [] false w args ∧ laidMetH C.prog l w) ∧ sizedMet enc C.prog fn (OpenSpec.ofChange s) false w args) (s.post enc C.prog fn false true false false) := by
  refine returnsInHanded_of_calls own started noInit witness ?_
  intro w tape i _ hsh _ hok hpre _
  obtain ⟨_, _, _, fn', hfn', _, _, _, _, hval⟩ := hok
  obtain rfl : fn' = fn := Option.some.inj (hfn'.symm.trans hfn)
  obtain ⟨⟨⟨ds, gs, before, hw, _⟩, hl⟩, _⟩ := hpre
  have hw' : DataW.Whole enc C.prog fn'.params.toList s.vars false (w.forCall tape i) i.args.toList ds gs before := DataW.Whole.of_heap (w' := w.forCall tape i) (by rfl) hw
  have hl' : laidMetH C.prog l (w.forCall tape i) := laidMetH.of_heap (w' := w.forCall tape i) (by rfl) hl
  refine (contract (w.forCall tape i) w.heap.size i.args ds gs before hval hw' hl' hsh).mono fun e W' ⟨v, he, hp⟩ => ?_
  subst he
  exact ChangeSpec.post_blind hp

end Go.Proofs.YtbbfibgijackhaaGreatDoor

namespace Go.Proofs.YtbbfibgijackhaaGreatDoor
open Go.ChangeShapes Go.WideShapes Go.ChangeAt Go.RowKit

theorem cells_dot : Tryz.prog.cellsOf 25 = 2 := by kernel_rfl
theorem cells_case : Tryz.prog.cellsOf 27 = 5 := by kernel_rfl
theorem two_at {cs : List Value} {a b : Value} (hl : cs.length = 2) (h0 : cs[0]? = some a) (h1 : cs[1]? = some b) : cs = [a, b] := by
  match cs, hl with
  | [x, y], _ =>
    have ea : x = a := by simpa using h0
    have eb : y = b := by simpa using h1
    rw [ea, eb]
theorem five_at {cs : List Value} {a b c d e : Value} (hl : cs.length = 5) (h0 : cs[0]? = some a) (h1 : cs[1]? = some b) (h2 : cs[2]? = some c) (h3 : cs[3]? = some d) (h4 : cs[4]? = some e) : cs = [a, b, c, d, e] := by
  match cs, hl with
  | [v, x, y, z, u], _ =>
    have ea : v = a := by simpa using h0
    have eb : x = b := by simpa using h1
    have ec : y = c := by simpa using h2
    have ed : z = d := by simpa using h3
    have ee : u = e := by simpa using h4
    rw [ea, eb, ec, ed, ee]
section
variable {H : Type} {enc : TypeId × Value → H} {W : World}
theorem open_dotcs {fuel : Nat} {cs : List Value} {x : DataW H × List MemPlace} (hl : cs.length = 2) (h : DataW.trod enc Tryz.prog W 0 (fun _ => true) true fuel 25 cs = some x) : ∃ q : DotQ, DotOk q ∧ cs = dotL q := by
  obtain ⟨xs, k, _, _, _, hxl, hfs⟩ := DataW.trod_struct Tryz.underlying25 h
  match xs, hxl with
  | [y0, y1], _ =>
    have g0 : DataW.trod enc Tryz.prog W 0 (fun _ => true) true k 3 ((cs.drop 0).take (Tryz.prog.cellsOf 3)) = some y0 := hfs 0 _ rfl
    have g1 : DataW.trod enc Tryz.prog W 0 (fun _ => true) true k 3 ((cs.drop 1).take (Tryz.prog.cellsOf 3)) = some y1 := hfs 1 _ rfl
    rw [cells_int] at g0 g1
    obtain ⟨c0, h0, e0⟩ := one_at 0 hl (by omega)
    obtain ⟨c1, h1, e1⟩ := one_at 1 hl (by omega)
    rw [e0] at g0
    rw [e1] at g1
    obtain ⟨z0, hz0, _, hw0⟩ := DataW.trod_int Tryz.underlying3 g0
    obtain ⟨z1, hz1, _, hw1⟩ := DataW.trod_int Tryz.underlying3 g1
    simp only [List.cons.injEq, and_true] at hz0 hz1
    subst hz0 hz1
    exact ⟨(z0, z1), ⟨wf_i64 hw0, wf_i64 hw1⟩, two_at hl h0 h1⟩
theorem open_dotcs' {fuel : Nat} {cs : List Value} {x : DataW H × List MemPlace} (h : DataW.trod enc Tryz.prog W 0 (fun _ => true) true fuel 25 cs = some x) : ∃ q : DotQ, DotOk q ∧ cs = dotL q := by
  obtain ⟨xs, k, _, _, hl, hxl, hfs⟩ := DataW.trod_struct Tryz.underlying25 h
  rw [cells_dot] at hl
  exact open_dotcs hl h
set_option maxRecDepth 100000 in
theorem open_casev {base : Nat} {v : Value} {d : DataW H} {p : List MemPlace} (hv : Value.okWide Tryz.prog W .any base 27 v)
    (h : DataW.Trod enc Tryz.prog W 0 (fun _ => true) true 27 v d p) : ∃ (va vb : Value) (a b : List RunQ) (dn dd nd : Int), v = caseV va vb dn dd nd ∧ ClSl W va a ∧ ClSl W vb b ∧ I64 dn ∧ I64 dd ∧ I64 nd := by
  obtain ⟨cs, rfl, hsz⟩ := okWide_struct Tryz.underlying27 hv
  obtain ⟨fuel, hf⟩ := h
  obtain ⟨xs, k, _, _, hl, hxl, hfs⟩ := DataW.trod_struct Tryz.underlying27 hf
  simp only [Value.cells] at hl hfs
  rw [cells_case] at hl
  match xs, hxl with
  | [y0, y1, y2, y3], _ =>
    have g0 : DataW.trod enc Tryz.prog W 0 (fun _ => true) true k 23 ((cs.toList.drop 0).take (Tryz.prog.cellsOf 23)) = some y0 := hfs 0 _ rfl
    have g1 : DataW.trod enc Tryz.prog W 0 (fun _ => true) true k 23 ((cs.toList.drop 1).take (Tryz.prog.cellsOf 23)) = some y1 := hfs 1 _ rfl
    have g2 : DataW.trod enc Tryz.prog W 0 (fun _ => true) true k 25 ((cs.toList.drop 2).take (Tryz.prog.cellsOf 25)) = some y2 := hfs 2 _ rfl
    have g3 : DataW.trod enc Tryz.prog W 0 (fun _ => true) true k 3 ((cs.toList.drop 4).take (Tryz.prog.cellsOf 3)) = some y3 := hfs 3 _ rfl
    rw [cells_clock] at g0 g1
    rw [cells_dot] at g2
    rw [cells_int] at g3
    obtain ⟨c0, h0, e0⟩ := one_at 0 hl (by omega)
    obtain ⟨c1, h1, e1⟩ := one_at 1 hl (by omega)
    obtain ⟨c4, h4, e4⟩ := one_at 4 hl (by omega)
    rw [e0] at g0
    rw [e1] at g1
    rw [e4] at g3
    obtain ⟨z, hz, _, hw⟩ := DataW.trod_int Tryz.underlying3 g3
    simp only [List.cons.injEq, and_true] at hz
    subst hz
    obtain ⟨a, ao, aS⟩ := open_rows runL (0, 0, 0) RunOk 3 cells_run (by decide) (fun _ _ _ h => open_runcs h) Tryz.underlying23 g0
    obtain ⟨b, bo, bS⟩ := open_rows runL (0, 0, 0) RunOk 3 cells_run (by decide) (fun _ _ _ h => open_runcs h) Tryz.underlying23 g1
    obtain ⟨q, hq, eq⟩ := open_dotcs' g2
    have h2 : cs.toList[2]? = some (.int .i64 q.1) := by
      have := congrArg (fun l => l[0]?) eq
      simpa [dotL, List.getElem?_take, List.getElem?_drop] using this
    have h3 : cs.toList[3]? = some (.int .i64 q.2) := by
      have := congrArg (fun l => l[1]?) eq
      simpa [dotL, List.getElem?_take, List.getElem?_drop] using this
    have e : cs.toList = [c0, c1, .int .i64 q.1, .int .i64 q.2, .int .i64 z] := five_at hl h0 h1 h2 h3 h4
    exact ⟨c0, c1, a, b, q.1, q.2, z, by unfold caseV; congr 1; exact Array.toList_inj.1 e, cl_rows ao aS, cl_rows bo bS, hq.1, hq.2, wf_i64 hw⟩
end

end Go.Proofs.YtbbfibgijackhaaGreatDoor

namespace Go.Proofs.YtbbfibgijackhaaGreatDoor
open Go.ChangeShapes Go.WideShapes Go.ChangeAt Go.RowKit

theorem cells_byte : Tryz.prog.cellsOf 5 = 1 := by kernel_rfl
theorem open_bytes {H : Type} {enc : TypeId × Value → H} {W : World} {v : Value} {d : DataW H} {p : List MemPlace}
    (h : DataW.Trod enc Tryz.prog W 0 (fun _ => true) true 40 v d p) (hv : ∃ a len cap, v = .slice a len cap) : ∃ zs, BySl Nb W v zs := by
  obtain ⟨x, len, cap, rfl⟩ := hv
  obtain ⟨fuel, hf⟩ := h
  rcases open_ints Tryz.underlying40 Tryz.underlying5 cells_byte hf with ⟨hcs, _⟩ | ⟨y, l, c, zs, hcs, _, hl, hm, hz, _, hcell, hwz⟩
  · simp [Value.cells] at hcs
    obtain ⟨rfl, rfl, rfl⟩ := hcs
    exact ⟨[], fun i => by simp, .inl ⟨⟨_, _, rfl⟩, rfl⟩⟩
  · simp [Value.cells] at hcs
    obtain ⟨rfl, rfl, rfl⟩ := hcs
    have hz' : zs.length = cap := by simpa using hz
    by_cases hn : len = 0
    · subst hn
      exact ⟨[], fun i => by simp, .inl ⟨⟨_, _, rfl⟩, rfl⟩⟩
    · obtain ⟨blk, off, spot⟩ := y
      have hspot : spot = none := by
        have := World.cell?_spot (hcell 0 (by omega))
        simpa [Addr.add] using this
      subst hspot
      have elen : (zs.take len).length = len := by simp; omega
      refine ⟨zs.take len, fun i => ?_, .inr ⟨blk, off, cap, by rw [elen], by omega, hm, fun i hi => ?_, fun _ h => h⟩⟩
      · have hr := range_u8 (zs := zs.take len) (fun n hn => hwz n (List.mem_of_mem_take hn)) i
        omega
      · rw [elen] at hi
        have := hcell i (by omega)
        rw [add_none] at this
        rw [List.getElem?_take_of_lt hi]
        simpa [List.getD] using this
/-- A slice's cell, whatever its type: its block is there. -/
theorem cell_in {P : Program} {W : World} {base : Nat} {u : TypeId} {a : Addr} {n c : Nat} (h : Cell.okWide P W .any base u (.slice (some a) n c)) : a.block < W.heap.size := by
  have hs : ∃ row cells, W.shape? a.block = some (row, cells) := by
    cases hu : P.underlying u with
    | none => simp [Cell.okWide, Cell.ok, hu] at h
    | some td =>
      cases td <;> simp only [Cell.okWide, Cell.ok, hu] at h
      obtain ⟨_, _, row, cells, hs, _⟩ := h.2.2
      exact ⟨row, cells, hs⟩
  obtain ⟨row, cells, hs⟩ := hs
  rcases Nat.lt_or_ge a.block W.heap.size with h | h
  · exact h
  · exfalso
    have : W.heap[a.block]? = none := Array.getElem?_eq_none h
    simp [World.shape?, this] at hs
theorem agg_in {P : Program} {W : World} {base : Nat} {t : TypeId} {fs : Array Field} {cs : Array Value} (hu : P.underlying t = some (.struct fs)) (hv : Value.okWide P W .any base t (.agg cs)) {i : Nat} {y : Option Addr} {n c : Nat} (hi : cs[i]? = some (.slice y n c)) :
    ∀ g, (Value.slice y n c).ownBlock = some g → g < W.heap.size := by
  unfold Value.okWide at hv
  rw [hu] at hv
  obtain ⟨cs', e, _, ts, _, _, hall⟩ := hv
  injection e with e
  subst e
  obtain ⟨u, _, hok⟩ := hall i _ hi
  intro g hg
  cases y with
  | none => simp [Value.ownBlock] at hg
  | some a =>
    have e : a.block = g := by simpa [Value.ownBlock] using hg
    subst e
    exact cell_in hok
set_option maxRecDepth 100000 in
theorem case_in {W : World} {base : Nat} {va vb : Value} {c : List RunQ} {dn dd nd : Int} (hv : Value.okWide Tryz.prog W .any base 27 (caseV va vb dn dd nd)) (hc : ClSl W va c) : ∀ g, va.ownBlock = some g → g < W.heap.size := by
  obtain ⟨y, d, rfl⟩ := hc.shape
  exact agg_in Tryz.underlying27 hv (i := 0) rfl

theorem iface_of_trod {H : Type} {enc : TypeId × Value → H} {P : Program} {w : World} {base : Nat} {sp : Nat → Bool} {held : Bool} {fuel : Nat} {t : TypeId} {cs : List Value} {ms : Array (String × TypeId)} {nm : String} {d : DataW H} {p : List MemPlace}
    (hu : P.underlying t = some (.interface ms)) (h : DataW.trod enc P w base sp held fuel t cs = some (.iface nm d, p)) : ∃ u v, cs = [.iface u v] := by
  cases fuel with
  | zero => simp [DataW.trod] at h
  | succ fuel =>
    unfold DataW.trod at h
    rw [hu] at h
    rcases cs with _ | ⟨c, _ | ⟨c2, r⟩⟩
    · simp at h
    · cases c <;> first | exact ⟨_, _, rfl⟩ | (simp at h)
    · cases c <;> simp at h
theorem gSyn : Tryz.prog.globalNamed "strconv.ErrSyntax" = some 1 ∧ (Tryz.prog.globals[1]?).map (·.type) = some 95 := ⟨by kernel_rfl, by kernel_rfl⟩
theorem gRan : Tryz.prog.globalNamed "strconv.ErrRange" = some 2 ∧ (Tryz.prog.globals[2]?).map (·.type) = some 95 := ⟨by kernel_rfl, by kernel_rfl⟩
set_option maxRecDepth 100000 in
theorem ev_of_laid {W : World} (h : laidMetH Tryz.prog dtLaid W) : Ev W := by
  rw [MakeChecks.laidMetH_plain _ _ _ (by kernel_rfl)] at h
  obtain ⟨ps, ⟨g0, t0, cs0, f0, p0, q0, hg0, ht0, hv0, hd0, ⟨g1, t1, cs1, f1, p1, q1, hg1, ht1, hv1, hd1, ⟨g2, t2, cs2, f2, p2, q2, hg2, ht2, hv2, hd2, ⟨g3, t3, cs3, f3, p3, q3, hg3, ht3, hv3, hd3, ⟨g4, t4, cs4, f4, p4, q4, hg4, ht4, hv4, hd4, ⟨g5, t5, cs5, f5, p5, q5, hg5, ht5, hv5, hd5, _, _⟩, _⟩, _⟩, _⟩, _⟩, _⟩, _, _⟩ := h
  obtain rfl := Option.some.inj (gRan.1.symm.trans hg4)
  obtain rfl := Option.some.inj (gRan.2.symm.trans ht4)
  obtain rfl := Option.some.inj (gSyn.1.symm.trans hg5)
  obtain rfl := Option.some.inj (gSyn.2.symm.trans ht5)
  obtain ⟨u, x, e4⟩ := iface_of_trod Tryz.underlying95 hd4
  obtain ⟨u', x', e5⟩ := iface_of_trod Tryz.underlying95 hd5
  have k4 := World.var?_cell gRan.1 hv4 0
  have k5 := World.var?_cell gSyn.1 hv5 0
  rw [show cs4 = #[.iface u x] from Array.toList_inj.1 e4] at k4
  rw [show cs5 = #[.iface u' x'] from Array.toList_inj.1 e5] at k5
  exact ⟨⟨u', x', by simpa using k5⟩, ⟨u, x, by simpa using k4⟩⟩

end Go.Proofs.YtbbfibgijackhaaGreatDoor

namespace Go.Proofs.YtbbfibgijackhaaGreatDoor
open Go.ChangeShapes Go.WideShapes Go.ChangeAt Go.RowKit

set_option maxRecDepth 100000 in
theorem dreads_lifted (os : Os) (started : os.Started) (H : Type) (enc : TypeId × Value → H) :
    ReturnsInHanded {} Tryz.checked os 4 .any (fun w args => (Rows.dotReadsSpec.pre enc Tryz.prog Tryz.f4 [] false w args ∧ laidMetH Tryz.prog dtLaid w) ∧ sizedMet enc Tryz.prog Tryz.f4 (OpenSpec.ofChange Rows.dotReadsSpec) false w args)
      (Rows.dotReadsSpec.post enc Tryz.prog Tryz.f4 false true false false) := by
  refine handed_dt (C := Tryz.checked) own started (by kernel_rfl) Tryz.func4
    (ChangeSpec.witness_shaped (enc := enc) (C := Tryz.checked) (os := os) (X := fun w _ => laidMetH Tryz.prog dtLaid w) false (World.laidAll Tryz.prog os dtLaid) #[.agg #[.slice none 0 0, .slice none 0 0, .int .i64 0, .int .i64 0, .int .i64 0], .slice none 0 0, .string ⟨#[]⟩] 8 (World.laidAll_os _ _ _)
      (World.shaped_of_ZipB (by kernel_rfl) (by kernel_rfl)) (by kernel_rfl) (by kernel_rfl) (by kernel_rfl) (laid_met os _)) ?_
  intro W base args ds gs before hval0 hW hL hsh
  have hval : ∀ (j : Nat) t v, Tryz.f4.params[j]? = some t → args[j]? = some v → Value.okWide Tryz.prog W .any base t v := hval0
  have hW' := hW
  obtain ⟨p, q, hA0, hV, rfl, hfz, hnd⟩ := hW
  have hA : DataW.TrodAll enc Tryz.prog W 0 (fun _ => true) true Tryz.f4.params.toList args.toList ds p := hA0
  rw [Tryz.params4] at hA hval
  obtain ⟨v0, vs0, d0, ds0, p0, q0, hargs, rfl, rfl, h0, r0⟩ := trodAll_cons hA
  obtain ⟨v1, vs1, d1, ds1, p1, q1, rfl, rfl, rfl, h1, r1⟩ := trodAll_cons r0
  obtain ⟨v2, vs2, d2, ds2, p2, q2, rfl, rfl, rfl, h2, r2⟩ := trodAll_cons r1
  obtain ⟨rfl, rfl, rfl⟩ := trodAll_nil r2
  obtain rfl : args = #[v0, v1, v2] := by cases args; simp_all
  obtain ⟨rfl, rfl⟩ := trodVars_none hV
  have lt0 : ∀ x ∈ p0, x.block < W.heap.size := by obtain ⟨m, hm⟩ := h0; exact DataW.trod_lt m _ _ _ hm
  have lt1 : ∀ x ∈ p1, x.block < W.heap.size := by obtain ⟨m, hm⟩ := h1; exact DataW.trod_lt m _ _ _ hm
  have lt2 : ∀ x ∈ p2, x.block < W.heap.size := by obtain ⟨m, hm⟩ := h2; exact DataW.trod_lt m _ _ _ hm
  obtain ⟨va, vb, a, b, dn, dd, nd, rfl, S0, S1, I0, I1, _⟩ := open_casev (hval 0 27 v0 rfl rfl) h0
  have HLO := case_in (hval 0 27 _ rfl rfl) S0
  obtain ⟨zs, hz⟩ := open_bytes h1 (okWide_slice Tryz.underlying40 (hval 1 40 v1 rfl rfl))
  obtain ⟨⟨⟨ls⟩⟩, rfl⟩ := okWide_string Tryz.underlying9 (hval 2 9 v2 rfl rfl)
  have ht := tab_of_laid hL
  have he := ev_of_laid hL
  have hm := mx_of_shape hsh
  clear hA0 hval0
  refine (dreads_any va vb v1 a b zs ls dn dd nd W S0 S1 HLO hz ht hm he).mono fun e W' ⟨he, kp⟩ => ?_
  subst he
  have bel : Below W.heap.size W W' := kp.below (Nat.le_refl _) (fun _ _ h => h)
  exact ⟨_, rfl, _, _, _, [], _, [], hW', trodAll_mk1 (shut_bool Tryz.underlying4 _), (trodAll_cons_mk (Below.trod laidOut (by kernel_rfl) (of_decide_eq_true (by kernel_rfl)) h0 bel lt0) (trodAll_cons_mk (Below.trod laidOut (by kernel_rfl) (of_decide_eq_true (by kernel_rfl)) h1 bel lt1) (trodAll_cons_mk (Below.trod laidOut (by kernel_rfl) (of_decide_eq_true (by kernel_rfl)) h2 bel lt2) trodAll_mk0))), rfl, bel.frame _, fun h => by cases h⟩

theorem dreads_over : Rows.dotReadsRow.holds Tryz.pinned (OpenSpec.ofChange Rows.dotReadsSpec) :=
  OpenClaim.holds_of_wide 4 Tryz.f4 rfl rfl rfl rfl rfl rfl rfl ⟨rfl, rfl, rfl, rfl, rfl⟩ rfl rfl rfl rfl rfl (by kernel_rfl) Tryz.func4 (by kernel_rfl)
    (of_decide_eq_true (by kernel_rfl)) (by unfold Func.isWrapper; first | (rw [if_pos (by decide +kernel)]; kernel_rfl) | (rw [if_neg (by decide +kernel)]; exact ⟨rfl, rfl⟩))
    (fun os started H enc _ => dreads_lifted os started H enc)

theorem dreads_said : Rows.DotReadsCardSaid :=
  Claim7.holds_tied_plain_at .later [] [.data, .data, .data, .data, .sentinel, .sentinel, .pinned] true _ true
    dreads_over (fun _ h => by cases h) (by kernel_rfl) (fun _ h => by cases h) dotReads_row_tie rfl ⟨rfl, rfl⟩ (by kernel_rfl) rfl
    (fun f fn hf hfn => by
      obtain rfl : f = 4 := Option.some.inj ((show Tryz.prog.funcNamed "gleanings/gleaningslaw03.DotReads" = some 4 by kernel_rfl).symm.trans hf) |>.symm
      obtain rfl : fn = Tryz.f4 := (Option.some.inj (Tryz.func4.symm.trans hfn)).symm
      exact ⟨by kernel_rfl, fun j t ht => by
        rw [Tryz.params4] at ht
        have hm : t ∈ [27, 40, 9] := by simpa using Array.mem_of_getElem? ht
        have hall : ([27, 40, 9].all fun u => !Tryz.prog.wantsStandIn u) = true := by kernel_rfl
        exact (show Tryz.prog.wantsStandIn t = false by simpa using List.all_eq_true.1 hall t hm)⟩)
    (by kernel_rfl)
end Go.Proofs.YtbbfibgijackhaaGreatDoor
