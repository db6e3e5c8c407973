/-
  A drawn region that appends one element to a boxed list (a made slice of one, the append, the store into the box), as a ghost's state; whatever its other operations call. Nothing of the program is named here. Condition: what the list's type is.
-/
import Derived.Test.YtjipcmhknikcgaaDoorGhostR
import Derived.Test.YtjipcmhknikcgaaDoorRowApp
import Derived.Test.YtjipcmhknikcgaaDoorColl
import Derived.Test.YtjipcmhknikcgaaDoorRow
namespace Go.Proofs.YtjipcmhknikcgaaDoor
open Go.RowKit

theorem row_tyA {W : World} {base e size k : Nat} {v : Value} {xs : List Value} (h : W.ownsRow base e size v k xs) {g : Nat} (hg : v.ownBlock = some g) : ∃ cs fr, W.heap[g]? = some (Obj.cells cs e fr) := by
  rcases h.2 with ⟨rfl, _⟩ | ⟨g', cap, cur, rfl, hb, hgg, _⟩
  · simp [Value.ownBlock] at hg
  · have : g' = g := by simpa [Value.ownBlock] using hg
    subst this
    exact ⟨_, _, hgg⟩
theorem old_setA {L : Nat → Bool} {i : Nat} {l l' : List Value} (u : Value) (hL : L i = false) (h : l' = l.set i u) : ∀ j, L j = true → l'.getD j undef = l.getD j undef := by
  intro j hj
  subst h
  have hn : i ≠ j := by rintro rfl; rw [hL] at hj; cases hj
  rw [List.getD_eq_getElem?_getD, List.getD_eq_getElem?_getD, List.getElem?_set_ne hn]
theorem exec_buildSliceA {P : Program} {ev : Operand → Value} {o : Oper} {T : TypeId} {n : Nat} {ps : Array (Nat × Operand)} {qs : Array (Nat × Value)} {v : Value} {w w' : World} (ho : o.op = .buildSlice T n ps) (hq : (ps.map fun (i, x) => (i, ev x)) = qs) (hl : (Instr.buildSlice T n qs).run P w = .ok v w') : (execOp ev o).run P w = .ok (.value v) w' := by
  unfold execOp
  simp only [ho, hq, Sem.run_bind, Sem.run_pure, Result.andThen_ok, hl]
theorem exec_appendA {P : Program} {ev : Operand → Value} {o : Oper} {s x : Operand} {t : TypeId} {v xv v' : Value} {w w' : World} (ho : o.op = .call { callee := .builtin .append, args := #[s, x], argTypes := #[t, t] })
    (hs : ev s = v) (hx : ev x = xv) (hr : (Builtin.append_ #[t, t] o.type #[v, xv]).run P w = .ok v' w') : (execOp ev o).run P w = .ok (.value v') w' := by
  simp [execOp, ho, resolve, invoke, builtin, hs, hx, hr, Result.andThen]
theorem exec_storeA {P : Program} {ev : Operand → Value} {o : Oper} {T : TypeId} {x y : Operand} {a : Addr} {v : Value} {w w' : World} (ho : o.op = .store T x y) (hx : ev x = .pointer (some a)) (hy : ev y = v) (hl : (Instr.storeAt T (.pointer (some a)) v).run P w = .ok () w') : (execOp ev o).run P w = .ok .skip w' := by
  unfold execOp
  simp only [ho, hx, hy, Sem.run_bind, Sem.run_pure, Result.andThen_ok, hl]
/-- The blocks that turn: the list's own, and its box. -/
def ApS (va : Value) (M : Nat) : Nat → Prop := fun b => va.ownBlock = some b ∨ b = M
/-- What stands while the list is appended to: is the slice of one made? is it appended? is the box filled? -/
structure Ap1 (W : World) (T e base size M : Nat) (va : Value) (n : Nat) (xs cells : List Value) (bs : List Bool) (g : Value × Value) (w : World) : Prop where
  kp : Kp (ApS va M) W w
  row0 : bs[1]?.getD false = false → w.ownsRow base e size va n xs
  row1 : bs[1]?.getD false = true → w.ownsRow base e size g.2 (n + 1) (xs ++ cells)
  made : bs[0]?.getD false = true → bs[1]?.getD false = false → ∃ B, g.1 = .slice (some ⟨B, 0, none⟩) 1 1 ∧ Blk w B e cells
  box0 : bs[2]?.getD false = false → Blk w M T [va]
  box1 : bs[2]?.getD false = true → Blk w M T [g.2]
section
variable {W w w' : World} {T e base size M n : Nat} {va : Value} {xs cells : List Value} {bs : List Bool} {g : Value × Value}
theorem ownsRow_kpA {w w' : World} {base e size n : Nat} {v : Value} {xs : List Value} (h : w.ownsRow base e size v n xs) (k : Kp Nb w w') : w'.ownsRow base e size v n xs :=
  ownsRow_same h (fun g hg => by obtain ⟨-, o, ho, -⟩ := row_cells h hg; exact k.heap (Array.getElem?_eq_some_iff.1 ho).1 (fun h => h))
theorem Ap1.keptN (h : Ap1 W T e base size M va n xs cells bs g w) (k : Kp Nb w w') : Ap1 W T e base size M va n xs cells bs g w' :=
  ⟨h.kp.trans k (fun _ _ h => h.elim), fun e => ownsRow_kpA (h.row0 e) k, fun e => ownsRow_kpA (h.row1 e) k, fun e e' => by obtain ⟨B, h1, h2⟩ := h.made e e'; exact ⟨B, h1, h2.kept k (fun h => h)⟩, fun e => (h.box0 e).kept k (fun h => h), fun e => (h.box1 e).kept k (fun h => h)⟩
theorem Ap1.start (row : W.ownsRow base e size va n xs) (box : Blk W M T [va]) : Ap1 W T e base size M va n xs cells [false, false, false] g W.drew :=
  ⟨(Kp.refl _ W).drew, fun _ => row, (fun e => by cases e), (fun e => by cases e), fun _ => box, (fun e => by cases e)⟩
theorem Ap1.make {b1 b2 : Bool} (h : Ap1 W T e base size M va n xs cells [false, b1, b2] g w) : Ap1 W T e base size M va n xs cells [true, b1, b2] (.slice (some ⟨w.heap.size, 0, none⟩) 1 1, g.2) (w.alloc (.cells cells.toArray e (0, 0))) := by
  have k := h.keptN ((Kp.refl Nb w).alloc (.cells cells.toArray e (0, 0)))
  exact ⟨k.kp, k.row0, k.row1, fun _ _ => ⟨_, rfl, Blk.new w _ cells⟩, k.box0, k.box1⟩
theorem Ap1.append {b0 : Bool} (hTe : T ≠ e) (h : Ap1 W T e base size M va n xs cells [b0, false, false] g w) {v' : Value} (ho : w'.ownsRow base e size v' (n + 1) (xs ++ cells)) (hg : w.grownBy w' va.ownBlock) :
    Ap1 W T e base size M va n xs cells [b0, true, false] (g.1, v') w' := by
  refine ⟨h.kp.grown hg (fun b hb _ => .inl hb), (fun e => by cases e), fun _ => ho, (fun _ e => by cases e), fun _ => ?_, (fun e => by cases e)⟩
  have hb := h.box0 rfl
  refine (hg.block M hb.lt (fun e' => ?_)).trans hb
  obtain ⟨cs', fr', e2⟩ := row_tyA (h.row0 rfl) e'.symm
  rw [show w.heap[M]? = _ from hb] at e2
  injection e2 with e2
  injection e2 with _ e2
  exact hTe e2
theorem Ap1.fill {b0 : Bool} (hTe : T ≠ e) (h : Ap1 W T e base size M va n xs cells [b0, true, false] g w) : Ap1 W T e base size M va n xs cells [b0, true, true] g (w.setCell ⟨M, 0, none⟩ g.2) := by
  have hb := h.box0 rfl
  have k : Kp (Jb M) w (w.setCell ⟨M, 0, none⟩ g.2) := (Kp.refl _ w).set 0 _
  refine ⟨h.kp.trans k (fun i _ hi => .inr hi), (fun e => by cases e), fun _ => ?_, (fun _ e => by cases e), (fun e => by cases e), fun _ => ?_⟩
  · refine ownsRow_same (h.row1 rfl) (fun b hb2 => k.heap ?_ ?_)
    · obtain ⟨-, o, ho, -⟩ := row_cells (h.row1 rfl) hb2
      exact (Array.getElem?_eq_some_iff.1 ho).1
    · intro hbM
      have hbM : b = M := hbM
      subst hbM
      obtain ⟨cs', fr', e2⟩ := row_tyA (h.row1 rfl) hb2
      rw [show w.heap[b]? = _ from hb] at e2
      injection e2 with e2
      injection e2 with _ e2
      exact hTe e2
  · exact Blk.set hb 0 _
end
/-- An append of a slice of one to an owned row. -/
theorem app_one {P : Program} {w : World} {T e base size n B ty : Nat} {va : Value} {xs cells : List Value} (ht : P.underlying T = some (.slice e)) {z : Value} {bytes : Nat} (info : (P.info? e).map (fun i => (i.zero, i.size, i.bytes)) = some (some z, size, bytes)) (hz : z.cells.size = size)
    (hsize : 0 < size) (own : w.ownsRow base e size va n xs) (hB : Blk w B e cells) (hlen : cells.length = size) (one : ∀ u ∈ cells, u.oneCell' = true) (hmost : n + 1 ≤ maxLen) (hreach : (n + 1) * bytes ≤ 140737488355328) (hb : base ≤ w.heap.size) :
    ∃ v' w', (Builtin.append_ #[T, T] ty #[va, .slice (some ⟨B, 0, none⟩) 1 1]).run P w = .ok v' w' ∧ w'.ownsRow base e size v' (n + 1) (xs ++ cells) ∧ w.grownBy w' va.ownBlock := by
  obtain ⟨i0, hi, h1, h2, h3⟩ := info_parts info
  have hx : RowsSl (fun _ : Unit => cells) () size w (.slice (some ⟨B, 0, none⟩) 1 1) [()] := by
    refine .inr ⟨B, 0, 1, rfl, Nat.le_refl _, by unfold maxLen; omega, fun i hi => ?_⟩
    have e : i = 0 := by simp at hi; omega
    subst e
    have e0 : 0 + 0 * size = 0 := by omega
    show w.rangeAt B (0 + 0 * size) cells
    rw [e0]
    exact hB.range 0 _ (fun j _ => by rw [Nat.zero_add])
  have h := run_append_rows (f := fun _ : Unit => cells) (z := ()) (c := size) base T ty e i0 z bytes ht hi h1 h2 h3 hz hsize va n _ own _ [()] hx (fun _ _ => hlen) (fun _ _ u hu => one u hu) (by rw [List.length_singleton]; exact hmost) (by rw [List.length_singleton]; exact hreach) hb
  simpa [flatR] using h

end Go.Proofs.YtjipcmhknikcgaaDoor
