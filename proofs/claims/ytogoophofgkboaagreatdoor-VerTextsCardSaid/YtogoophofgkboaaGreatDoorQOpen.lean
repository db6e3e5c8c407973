/-
  What the proofs use besides. No condition but what each says.
-/
import Derived.Test.YtogoophofgkboaaGreatDoorQv
import Derived.Test.YtogoophofgkboaaGreatDoorQu
import Derived.Test.YtogoophofgkboaaGreatDoorQs
import Derived.Test.YtogoophofgkboaaGreatDoorQl
import Derived.Test.YtogoophofgkboaaGreatDoorQi
import Derived.Test.YtogoophofgkboaaGreatDoorQe
import Derived.WalkKit
import Derived.WalkSmall
import Derived.Test.YtogoophofgkboaaGreatDoorProg
import Derived.ProofKit
import Derived.OpenShut
import Derived.SizedLaws
import Derived.Deep.Matrix
import Derived.Test.YtogoophofgkboaaGreatDoorRows
import Derived.Handed
import Derived.LaidMore
import Derived.Lay
import Derived.Stop.Joined
import Derived.Lib.LaidTab
import Derived.Deep.Strs
import Derived.ChangeMaps5
import Derived.LaidLaws
namespace Go.Proofs.YtogoophofgkboaaGreatDoor
section
open Go.RowKit
theorem Kp.below {S : Nat → Prop} {a b : World} {N : Nat} (h : Kp S a b) (hN : N ≤ a.heap.size) (hs : ∀ k, k < N → ¬ S k) : Below N a b :=
  ⟨h.os, h.tape, h.output, h.size, fun k hk => h.block k (by omega) (hs k hk)⟩
end
section
open Go.ChangeShapes Go.WideShapes Go.ChangeAt Go.RowKit
theorem laidOut : laidOutB Tryz.prog = true := by kernel_rfl
end
section
open Go.RowKit
def ofC (c : List RunQ) (n : Int) : List RunQ := if rightC c then ofF c n else []
end
section
open Go.RowKit
def In1 (r : RunQ) (n d : Int) : Prop := r.1 = n ∧ r.2.1 ≤ d ∧ d ≤ r.2.2
/-- Has a list of runs a dot? -/
def InC (c : List RunQ) (n d : Int) : Prop := ∃ r ∈ c, In1 r n d
theorem withinB_in {c : List RunQ} {n d : Int} : withinB c (n, d, d) = true ↔ InC c n d := by
  unfold withinB InC inR In1
  rw [List.any_eq_true]
  simp only [decide_eq_true_iff]
theorem in_good {c : List RunQ} {n d : Int} (h : Rt c) (hi : InC c n d) : goodB n d = true := by
  obtain ⟨r, hr, h1, h2, h3⟩ := hi
  have := goodR_of.1 (h.1 r hr)
  rw [goodB_of]
  omega
theorem hasC_in {c : List RunQ} {n d : Int} (h : Rt c) : hasC c n d = true ↔ InC c n d := by
  unfold hasC
  rw [rightC_rt.2 h, Bool.true_and, Bool.and_eq_true, withinB_in]
  exact ⟨fun h => h.2, fun hi => ⟨in_good h hi, hi⟩⟩
end
section
open Go.ChangeShapes Go.WideShapes Go.ChangeAt Go.RowKit
section
variable {H : Type} {enc : TypeId × Value → H} {W : World}
end
/-- What the rows list. -/
abbrev dtLaid : List (String × DataW Unit) := [("math/bits.deBruijn32tab", Rows.laid_math_bits_deBruijn32tab), ("math/bits.deBruijn64tab", Rows.laid_math_bits_deBruijn64tab), ("internal/strconv.uint64pow10", Rows.laid_internal_strconv_uint64pow10), ("unicode/utf8.acceptRanges", Rows.laid_unicode_utf8_acceptRanges), ("strconv.ErrRange", Rows.laid_strconv_ErrRange), ("strconv.ErrSyntax", Rows.laid_strconv_ErrSyntax), ("unicode/utf8.first", Rows.laid_unicode_utf8_first)]
theorem pow10_data : (Rows.laid_internal_strconv_uint64pow10 : DataW Unit) = Lib.tabData .u64 Lib.pow10Tab := by
  unfold Rows.laid_internal_strconv_uint64pow10 Lib.tabData
  rfl
theorem gPow : ∃ g, Tryz.prog.globalNamed "internal/strconv.uint64pow10" = some g ∧ (Tryz.prog.globals[g]?).map (·.type) = some 187 := ⟨_, rfl, by kernel_rfl⟩
theorem cells_pow : Tryz.prog.cellsOf 187 = 20 := by kernel_rfl
theorem cells_u64 : Tryz.prog.cellsOf 87 = 1 := by kernel_rfl
set_option maxRecDepth 100000 in
theorem tab_of_laid {W : World} (h : laidMetH Tryz.prog dtLaid W) : Tab W := by
  rw [MakeChecks.laidMetH_plain _ _ _ (by kernel_rfl)] at h
  obtain ⟨ps, ⟨g0, t0, cs0, f0, p0, q0, hg0, ht0, hv0, hd0, ⟨g1, t1, cs1, f1, p1, q1, hg1, ht1, hv1, hd1, ⟨g2, t2, cs2, f2, p2, q2, hg2, ht2, hv2, hd2, _, _⟩, _⟩, _⟩, _, _⟩ := h
  obtain ⟨g, hg, ht⟩ := gPow
  obtain rfl := Option.some.inj (hg.symm.trans hg2)
  obtain rfl := Option.some.inj (ht.symm.trans ht2)
  rw [pow10_data] at hd2
  have e := Lib.cells_of_tab Tryz.underlying187 Tryz.underlying87 cells_u64 cells_pow hd2
  unfold Tab Lib.TabIs
  rw [hv2, ← e]
theorem mx_of_shape {W : World} (h : W.ShapedOpen Tryz.prog) : Mx W := Tryz.laysM143.s1_3 W h
/-- The start's own heap meets the condition. -/
theorem laid_met (os : Os) (args : Array Value) : laidMetH Tryz.prog dtLaid ((World.laidAll Tryz.prog os dtLaid).forCall (fun _ _ => 0) ⟨#[], args, []⟩).memory := by
  rw [MakeChecks.laidMetH_plain _ _ _ (by kernel_rfl)]
  exact laidMet_laidAll _ (by kernel_rfl) (by kernel_rfl)
/-- A row's claim out of a contract that is handed the listed tables and the world's shape. -/
theorem handed_dt {H : Type} {enc : TypeId × Value → H} {C : Checked} {l : List (String × DataW Unit)} {os : Os} {f : FuncId} {fn : Func} {s : ChangeSpec} (own : ownKnob C.prog.godebug = none) (started : os.Started) (noInit : C.prog.inits.idxOf? f = none) (hfn : C.prog.funcs[f]? = some fn)
    (witness : ∃ (w : World) (tape : Tape) (i : Input), w.os = os ∧ (w.forCall tape i).Shaped C.prog ∧ i.vars = [] ∧ Input.okWide C.prog (w.forCall tape i) .any w.heap.size f i ∧
      ((s.pre enc C.prog fn [] false (w.forCall tape i).memory i.args ∧ laidMetH C.prog l (w.forCall tape i).memory) ∧ sizedMet enc C.prog fn (OpenSpec.ofChange s) false (w.forCall tape i).memory i.args) ∧
        Assume.holds {} C.prog (lone (Frame.enter C.prog f i.args .normal) [] (w.forCall tape i)))
    (contract : ∀ (W : World) (base : Nat) (args : Array Value) (ds gs : List (DataW H)) (before : List MemPlace),
      (∀ (j : Nat) t v, fn.params[j]? = some t → args[j]? = some v → Value.okWide C.prog W .any base t v) →
      DataW.Whole enc C.prog fn.params.toList s.vars false W args.toList ds gs before →
      laidMetH C.prog l W → W.ShapedOpen C.prog →
      Calls C.prog f args W fun e W' => ∃ v, e = .returned v ∧ s.post enc C.prog fn false true false false W args v W') :
    ReturnsInHanded {} C os f .any (fun w args => (s.pre enc C.prog fn [] false w args ∧ laidMetH C.prog l w) ∧ sizedMet enc C.prog fn (OpenSpec.ofChange s) false w args) (s.post enc C.prog fn false true false false) := by
  refine returnsInHanded_of_calls own started noInit witness ?_
  intro w tape i _ hsh _ hok hpre _
  obtain ⟨_, _, _, fn', hfn', _, _, _, _, hval⟩ := hok
  obtain rfl : fn' = fn := Option.some.inj (hfn'.symm.trans hfn)
  obtain ⟨⟨⟨ds, gs, before, hw, _⟩, hl⟩, _⟩ := hpre
  have hw' : DataW.Whole enc C.prog fn'.params.toList s.vars false (w.forCall tape i) i.args.toList ds gs before := DataW.Whole.of_heap (w' := w.forCall tape i) (by rfl) hw
  have hl' : laidMetH C.prog l (w.forCall tape i) := laidMetH.of_heap (w' := w.forCall tape i) (by rfl) hl
  refine (contract (w.forCall tape i) w.heap.size i.args ds gs before hval hw' hl' hsh).mono fun e W' ⟨v, he, hp⟩ => ?_
  subst he
  exact ChangeSpec.post_blind hp
end
section
open Go.ChangeShapes Go.WideShapes Go.ChangeAt Go.RowKit
theorem iface_of_trod {H : Type} {enc : TypeId × Value → H} {P : Program} {w : World} {base : Nat} {sp : Nat → Bool} {held : Bool} {fuel : Nat} {t : TypeId} {cs : List Value} {ms : Array (String × TypeId)} {nm : String} {d : DataW H} {p : List MemPlace}
    (hu : P.underlying t = some (.interface ms)) (h : DataW.trod enc P w base sp held fuel t cs = some (.iface nm d, p)) : ∃ u v, cs = [.iface u v] := by
  cases fuel with
  | zero => simp [DataW.trod] at h
  | succ fuel =>
    unfold DataW.trod at h
    rw [hu] at h
    rcases cs with _ | ⟨c, _ | ⟨c2, r⟩⟩
    · simp at h
    · cases c <;> first | exact ⟨_, _, rfl⟩ | (simp at h)
    · cases c <;> simp at h
theorem gSyn : Tryz.prog.globalNamed "strconv.ErrSyntax" = some 1 ∧ (Tryz.prog.globals[1]?).map (·.type) = some 145 := ⟨by kernel_rfl, by kernel_rfl⟩
theorem gRan : Tryz.prog.globalNamed "strconv.ErrRange" = some 2 ∧ (Tryz.prog.globals[2]?).map (·.type) = some 145 := ⟨by kernel_rfl, by kernel_rfl⟩
set_option maxRecDepth 100000 in
theorem ev_of_laid {W : World} (h : laidMetH Tryz.prog dtLaid W) : Ev W := by
  rw [MakeChecks.laidMetH_plain _ _ _ (by kernel_rfl)] at h
  obtain ⟨ps, ⟨g0, t0, cs0, f0, p0, q0, hg0, ht0, hv0, hd0, ⟨g1, t1, cs1, f1, p1, q1, hg1, ht1, hv1, hd1, ⟨g2, t2, cs2, f2, p2, q2, hg2, ht2, hv2, hd2, ⟨g3, t3, cs3, f3, p3, q3, hg3, ht3, hv3, hd3, ⟨g4, t4, cs4, f4, p4, q4, hg4, ht4, hv4, hd4, ⟨g5, t5, cs5, f5, p5, q5, hg5, ht5, hv5, hd5, _, _⟩, _⟩, _⟩, _⟩, _⟩, _⟩, _, _⟩ := h
  obtain rfl := Option.some.inj (gRan.1.symm.trans hg4)
  obtain rfl := Option.some.inj (gRan.2.symm.trans ht4)
  obtain rfl := Option.some.inj (gSyn.1.symm.trans hg5)
  obtain rfl := Option.some.inj (gSyn.2.symm.trans ht5)
  obtain ⟨u, x, e4⟩ := iface_of_trod Tryz.underlying145 hd4
  obtain ⟨u', x', e5⟩ := iface_of_trod Tryz.underlying145 hd5
  have k4 := World.var?_cell gRan.1 hv4 0
  have k5 := World.var?_cell gSyn.1 hv5 0
  rw [show cs4 = #[.iface u x] from Array.toList_inj.1 e4] at k4
  rw [show cs5 = #[.iface u' x'] from Array.toList_inj.1 e5] at k5
  exact ⟨⟨u', x', by simpa using k5⟩, ⟨u, x, by simpa using k4⟩⟩
end

end Go.Proofs.YtogoophofgkboaaGreatDoor
