/-
  Layer 10: what walks of cells have in common: marks written out, equal cells, made slices, new pens. No condition.
-/
import Derived.Test.YteedceepoindeaaCelE
import Derived.Test.YteedceepoindeaaGhost
namespace Go.Proofs.Yteedceepoindeaa
open Go.RowKit
def mA : List Int := [1, 0, 0, 0, 0, 0, 0, 0, 0, 0, 0, 0, 0, 0, 0, 0]
def mB : List Int := [2, 0, 0, 0, 0, 0, 0, 0, 0, 0, 0, 0, 0, 0, 0, 0]
theorem isBytes_of {zs : List Int} (h : zs.all (fun z => decide (0 ≤ z ∧ z < 256)) = true) : IsBytes zs := IsBytes.of fun z hz => of_decide_eq_true (List.all_eq_true.1 h z hz)
theorem okA : MarkOk mA := ⟨rfl, isBytes_of (by decide)⟩
theorem okB : MarkOk mB := ⟨rfl, isBytes_of (by decide)⟩
theorem eq_mark (m : List Int) (hm : m.length = 16) (w : World) : Sem.run Try.prog (Op.equalIn 10000 23 (markV m) (markV m)) w = .ok true w := by
  have h := run_mark_eq m m hm hm w
  rw [decide_eq_true rfl] at h
  exact h
theorem old_set {L : Nat → Bool} {i : Nat} {l l' : List Value} (u : Value) (hL : L i = false) (h : l' = l.set i u) : ∀ j, L j = true → l'.getD j undef = l.getD j undef := by
  intro j hj
  subst h
  have hn : i ≠ j := by rintro rfl; rw [hL] at hj; cases hj
  rw [List.getD_eq_getElem?_getD, List.getD_eq_getElem?_getD, List.getElem?_set_ne hn]
theorem cell_whole {w : World} {B t : Nat} {c : Int} {m : List Int} {k : Int} (hm : m.length = 16) (h : Blk w B t (cellL c m k)) : (Instr.loadAt 41 (.pointer (some ⟨B, 0, none⟩))).run Try.prog w = .ok (cellV c m k) w := by
  obtain ⟨d, h1, h2⟩ := cell_under
  exact run_loadAt_mid w B 0 41 (cellL c m k) d (range_of h) h1 h2 (cell_infoL c m k hm)
theorem build_mA (w : World) : (Instr.build 23 #[(0, .int .u8 1)]).run Try.prog w = .ok (markV mA) w := run_build w 23 _ _ (by kernel_rfl)
theorem build_mB (w : World) : (Instr.build 23 #[(0, .int .u8 2)]).run Try.prog w = .ok (markV mB) w := run_build w 23 _ _ (by kernel_rfl)
theorem build_c0 (w : World) : (Instr.build 41 #[]).run Try.prog w = .ok (cellV 0 (List.replicate 16 0) 0) w := run_build w 41 _ _ (by kernel_rfl)

theorem exec_eqlCell {ev : Operand → Value} {o : Oper} {x y : Operand} {t' : TypeId} {xs ys : Array Value} {b : Bool} {w : World} (ho : o.op = .binOp .eql 41 x y t') (hx : ev x = .agg xs) (hy : ev y = .agg ys)
    (h : Sem.run Try.prog (Op.equal 41 (.agg xs) (.agg ys)) w = .ok b w) : (execOp ev o).run Try.prog w = .ok (.value (.bool b)) w := by
  have h1 : Sem.run Try.prog (eqGuard .eql 41 x y (.agg xs) (.agg ys)) w = .ok () w := by go_simp
  have h2 : Sem.run Try.prog (binOp .eql 41 (.agg xs) (.agg ys)) w = .ok (.bool b) w := by
    show Sem.run Try.prog (do pure (Value.bool (← Op.equal 41 (.agg xs) (.agg ys)))) w = _
    simp only [Sem.run_bind, Sem.run_pure, Result.andThen_ok, h]
  unfold execOp
  simp only [ho, hx, hy, Sem.run_bind, Sem.run_pure, Result.andThen_ok, h1, h2]
theorem exec_buildSlice {P : Program} {ev : Operand → Value} {o : Oper} {T : TypeId} {n : Nat} {ps : Array (Nat × Operand)} {qs : Array (Nat × Value)} {v : Value} {w w' : World} (ho : o.op = .buildSlice T n ps) (hq : (ps.map fun (i, x) => (i, ev x)) = qs) (hl : (Instr.buildSlice T n qs).run P w = .ok v w') : (execOp ev o).run P w = .ok (.value v) w' := by
  unfold execOp
  simp only [ho, hq, Sem.run_bind, Sem.run_pure, Result.andThen_ok, hl]

end Go.Proofs.Yteedceepoindeaa
