/-
  Layer 11: a sketch's cells gone through (Cells), the iterator. Conditions: cells are what their kinds hold.
  Layer 11: a sketch's first cells (the statements' own Cells). Conditions: no more than 100000 cells.
  Layer 11: the walk of the reference's Places. Conditions: a mark has sixteen bytes; a size that may be. (Printed by gen_ib.py.)
  Layer 11: Cells as a slice; the reference's Fits, Same; places for what doesn't fit. Conditions: ints; no more than 100000 cells.
  Layer 11: one sketch less another (Sub). Conditions: no more than 100000 cells.
  Layer 11: the reference's Put and Of. Conditions: sizes that fit.
-/
import Derived.Test.YteedceepoindeaaIbE
import Derived.Test.YteedceepoindeaaColl
import Derived.RangeFuncNested
import Derived.RangeFuncBound
import Derived.RangeFuncCalls
import Derived.RangeFuncLeaves
import Derived.Shelf.Abstract
import Derived.Shelf.RegionOpen
import Derived.OwnWalkIn
import Derived.TacticsInMore
import Derived.LoopNIn
import Derived.LoopIn
import Derived.Test.YteedceepoindeaaIbC
import Derived.Test.YteedceepoindeaaCelL
namespace Go.Proofs.Yteedceepoindeaa
open Go.RowKit Go.Shelf
attribute [local go_sem] Oper.semAt_some

section
variable {F : Fence} {n : Nat} {P : Program} {w w' : World} {ops : Array Oper} {rest : List Oper} {o : Oper} {a : Act} {Q : Exit → Act → World → Prop}
theorem wpListIn_load (hg : o.guard = none) (T : TypeId) (x : Operand) (hop : o.op = .load T x) {p : Addr} (hx : a.eval x = .pointer (some p)) {v : Value} (hl : (Instr.loadAt T (.pointer (some p))).run P w = .ok v w)
    (hK : wpListIn F n P ops Q rest (a.put o.dst v) w) : wpListIn F n P ops Q (o :: rest) a w := by
  refine wpListIn_plain hg fun K hK' => ?_
  unfold Oper.wpIn
  refine ⟨?_, ?_⟩
  · simp [Oper.about, hop]
  · rw [Oper.semAt_plain F _ _ (by rw [hop]; intro c hc'; cases hc')]
    simp only [execOp, hop, hx, Sem.run_bind, Sem.run_pure, Result.andThen_ok, hl]
    exact hK' _ _ hK
theorem wpListIn_store (hg : o.guard = none) (T : TypeId) (x y : Operand) (hop : o.op = .store T x y) {p : Addr} (hx : a.eval x = .pointer (some p)) {v : Value} (hy : a.eval y = v) (hl : (Instr.storeAt T (.pointer (some p)) v).run P w = .ok () w')
    (hK : wpListIn F n P ops Q rest (a.put o.dst undef) w') : wpListIn F n P ops Q (o :: rest) a w := by
  refine wpListIn_plain hg fun K hK' => ?_
  unfold Oper.wpIn
  refine ⟨?_, ?_⟩
  · simp [Oper.about, hop]
  · rw [Oper.semAt_plain F _ _ (by rw [hop]; intro c hc'; cases hc')]
    simp only [execOp, hop, hx, hy, Sem.run_bind, Sem.run_pure, Result.andThen_ok, hl]
    exact hK' _ _ hK
end

theorem range_snoc {α : Type} (f : Nat → α) (k : Nat) : (List.range (k + 1)).map f = (List.range k).map f ++ [f k] := by simp [List.range_succ]
theorem range_take (cs : List Cel) (k : Nat) (h : k ≤ cs.length) : (List.range k).map (celAt cs) = cs.take k := by
  apply List.ext_getElem
  · simp; omega
  · intro i h1 h2
    simp only [List.length_map, List.length_range] at h1
    simp only [List.getElem_map, List.getElem_range, List.getElem_take]
    unfold celAt
    rw [List.getElem?_eq_getElem (by omega)]
    rfl
theorem Blk.keptL {Cs : List Nat} {w w' : World} {B t : Nat} {vs : List Value} (h : Blk w B t vs) (k : KpL Cs w w') (hB : B ∈ Cs) : Blk w' B t vs := (k B hB).trans h
theorem SkAt.keptL {Cs : List Nat} {w w' : World} {B C : Nat} {cs : List Cel} (h : SkAt w B C cs) (k : KpL Cs w w') (hB : B ∈ Cs) (hC : C ∈ Cs) : SkAt w' B C cs := by
  obtain ⟨cap, rest, h1, h2, h3⟩ := h.at'
  exact ⟨h.ok, ⟨cap, rest, h1.keptL k hB, h2.keptL k hC, h3⟩, h.pos, h.ne⟩

set_option maxRecDepth 100000 in
set_option maxHeartbeats 2000000 in
theorem cells1_in (m : Nat) (hm : 1 ≤ m) (l Bb B C : Nat) (cs : List Cel) (hbig : cs.length ≤ 100000) (J Jx : List Nat → World → Prop)
    (hY : ∀ (pre : List Nat) (x : Nat) (W : World), J pre W → pre.length < cs.length → YieldAt Fence.wide (m - 1) Try.prog l #[.int .i64 (x : Int), cv (celAt cs x)] W fun r W' =>
      (r = .returned (.bool true) ∧ J (pre ++ [x]) W' ∧ KpL [Bb, B, C] W W') ∨ (r = .returned (.bool false) ∧ Jx (pre ++ [x]) W'))
    (W : World) (hE : W.cell? ⟨Bb, 0, none⟩ = some (.pointer (some ⟨B, 0, none⟩))) (hs : SkAt W B C cs) (h0 : J [] W) :
    CallsIn Fence.wide m Try.prog 65 #[.func (.yield l) #[] #[], .pointer (some ⟨Bb, 0, none⟩)] W fun r W' => (∃ v, r = .returned v) ∧
      ((∃ ys, ys = List.range cs.length ∧ J ys W') ∨ (∃ pre, (∃ k, k ≤ cs.length ∧ pre = List.range k) ∧ Jx pre W')) := by
  have HY := hid hY
  have HE := hid hE
  have HJ := hid h0
  have HB := hid hbig
  have HS := hid hs
  have CZ : Hid (Calls Try.prog 14 #[.pointer (some ⟨B, 0, none⟩)] W fun e w' => e = .returned (.int .i64 cs.length) ∧ W = w') := hid (size_any B C cs W hs)
  have cE := HE.out
  clear hs hY hE h0 hbig
  refine callsIn_of_wp Try.func65 rfl trivial ?_ rfl
  simp only [Try.ntmps65, List.size_toArray, List.length_cons, List.length_nil, Nat.reduceAdd, Nat.reduceSub, Array.replicate_succ, Array.replicate_zero, List.push_toArray, List.append_toArray, List.nil_append, List.cons_append]
  gi_wp2_with (refine ⟨trivial, ?_⟩; gi_at_call 14; refine (callsIn_wide.2 CZ.out).mono ?_; rintro r w' ⟨rfl, rfl⟩)
  gi_loopw [6] (fun i wr => ∃ k : Nat, k ≤ cs.length ∧ i = .int .i64 k ∧ Hid (J (List.range k) wr) ∧ Hid (KpL [Bb, B, C] W wr)) (fun i _ => cs.length - (intOf i).toNat)
  case atStart => exact ⟨0, Nat.zero_le _, rfl, HJ, fun _ _ => rfl⟩
  case round =>
    obtain ⟨k, hk, rfl, hJk, hK⟩ := hrel
    have cE2 := (hK.out.cell (b := Bb) (by simp) 0).trans HE.out
    by_cases hlt : k < cs.length
    · obtain ⟨cap, hb, hs⟩ := (HS.out.keptL hK.out (by simp) (by simp)).sl
      have cB := hb.cell 0
      simp only [List.getElem?_cons_zero] at cB
      rcases hs with ⟨_, he⟩ | ⟨blk, off, cap', e1, hc, hm', hcell⟩
      · rw [he] at hlt; simp at hlt
      injection e1 with e1 e2 e3
      injection e1 with e1
      injection e1 with e1 e4 e5
      subst e1 e4 e3
      have HR := hcell k hlt
      rw [Nat.zero_add] at HR
      have HL := hid (load_cell (HS.out.ok.at k) HR)
      unfold maxLen at hm'
      obtain ⟨fn, tmps, assign, body, hy, hR⟩ := HY.out _ k wr hJk.out (by rw [List.length_range]; exact hlt)
      have HRR := hid hR
      have HT : Hid (List.range (k + 1) = List.range k ++ [k]) := hid List.range_succ
      obtain ⟨x, hx⟩ : ∃ x, celAt cs k = x := ⟨_, rfl⟩
      rw [hx] at HL hy
      have HLT := hid hlt
      clear hb hcell hR hx HR e5 e2
      gi_wp2_with (refine wpListIn_load rfl 41 (.tmp 16) rfl (p := ⟨C, k * 18, none⟩) (by rfl) HL.out ?_)
      refine HRR.out.mono ?_
      rintro r W3 (⟨rfl, hJ3, hK3⟩ | ⟨rfl, hJx3⟩)
      · have HJ3 : Hid (J (List.range (k + 1)) W3) := hid (by rw [HT.out]; exact hJ3)
        have HK3 := hid (kpL_t hK.out hK3)
        clear hJ3 hK3 hy cE2 cB hJk hK
        gi_wp2
        all_goals
          go_roundw
          case rel => exact ⟨k + 1, HLT.out, by go_num, HJ3, HK3⟩
          case measure => have := HLT.out; simp [intOf]; omega
      · have HJ3 : Hid (Jx (List.range (k + 1)) W3) := hid (by rw [HT.out]; exact hJx3)
        gi_wp2
        refine bodyPost_ret (results_none rfl _ _ _) rfl ?_
        exact ⟨⟨_, rfl⟩, .inr ⟨_, ⟨k + 1, HLT.out, rfl⟩, HJ3.out⟩⟩
    · obtain rfl : k = cs.length := by omega
      gi_wp2
      go_end0
      exact ⟨⟨_, rfl⟩, .inl ⟨_, rfl, hJk.out⟩⟩

theorem SkAt.keptC {w w' : World} {B C : Nat} {cs : List Cel} (h : SkAt w B C cs) (k : Below w.heap.size w w') : SkAt w' B C cs := by
  obtain ⟨cap, rest, h1, h2, h3⟩ := h.at'
  exact ⟨h.ok, ⟨cap, rest, (k.block B h1.lt).trans h1, (k.block C h2.lt).trans h2, h3⟩, h.pos, h.ne⟩
theorem cells_stops (n : Nat) (hn : 1 ≤ n) (Bb B C : Nat) (cs : List Cel) (hbig : cs.length ≤ 100000) (w : World) (bE : Boxed w Bb 25 (.pointer (some ⟨B, 0, none⟩))) (hs : SkAt w B C cs) :
    SeqStopsK Fence.wide n Try.prog 65 #[.pointer (some ⟨Bb, 0, none⟩)] (fun x : Nat => #[Value.int .i64 (x : Int), cv (celAt cs x)]) (KpL [Bb, B, C]) (fun ys => ys = List.range cs.length) (fun pre => ∃ k, k ≤ cs.length ∧ pre = List.range k) cs.length w := fun l J Jx W hW _ _ hY h0 =>
  cells1_in n hn l Bb B C cs hbig J Jx hY W ((hW.cell (p := ⟨Bb, 0, none⟩) bE.lt).trans bE.cell) (hs.keptC hW) h0

set_option maxHeartbeats 1000000 in
theorem cells0_any (B C : Nat) (cs : List Cel) (w : World) (h : SkAt w B C cs) (hbig : cs.length ≤ 100000) :
    Calls Try.prog 46 #[.pointer (some ⟨B, 0, none⟩)] w fun r w' => ∃ Bb B' C', r = .returned (.func (.func 65) #[] #[.pointer (some ⟨Bb, 0, none⟩)]) ∧ Boxed w' Bb 25 (.pointer (some ⟨B', 0, none⟩)) ∧ SkAt w' B' C' cs ∧ w.heap.size ≤ Bb ∧ w.heap.size ≤ B' ∧ w.heap.size ≤ C' ∧ Bb < w'.heap.size ∧ Kp Nb w w' := by
  have CC := hid (kclone_any B C cs w h hbig)
  clear h hbig
  go_enter Try.func46, Try.ntmps46
  go_wp2_with fail
  refine CC.out.mono ?_
  rintro e w1 ⟨B', C', rfl, s1, hB, hC, k1⟩
  obtain ⟨W, hW⟩ : ∃ W, W = w1.alloc (.cells #[.pointer (some ⟨B', 0, none⟩)] 25) := ⟨_, rfl⟩
  have b1 : Boxed W w1.heap.size 25 (.pointer (some ⟨B', 0, none⟩)) := by rw [hW]; exact Boxed.new w1 _ _
  have kW : Kp Nb w1 W := by rw [hW]; exact (Kp.refl Nb w1).alloc _
  have B1 := hid b1
  have S1 := hid (s1.kept kW (fun h => h) (fun h => h))
  have KW := hid (k1.trans kW (fun _ _ h => h))
  have HL := hid (show w.heap.size ≤ w1.heap.size ∧ w.heap.size ≤ B' ∧ w.heap.size ≤ C' ∧ w1.heap.size < W.heap.size from ⟨k1.size, hB, hC, b1.lt⟩)
  clear b1 kW s1 k1 hB hC CC
  go_wp2
  rw [show w1.alloc (.cells #[.pointer (some ⟨B', 0, none⟩)] 25) = W from hW.symm]
  clear hW
  go_ret
  exact ⟨_, B', C', rfl, B1.out, S1.out, HL.out.1, HL.out.2.1, HL.out.2.2.1, HL.out.2.2.2, KW.out⟩

end Go.Proofs.Yteedceepoindeaa

namespace Go.Proofs.Yteedceepoindeaa
open Go.RowKit Go.Shelf
attribute [local go_sem] Oper.semAt_some

theorem blk_turn {w w' : World} {B t : Nat} {vs : List Value} (h : Blk w B t vs) {row : Option Nat} (hg : w.grownBy w' row) (hr : ∀ r, row = some r → ∃ o, w.heap[r]? = some o ∧ o.isCells = false) : Blk w' B t vs := by
  refine (hg.block B h.lt (fun e => ?_)).trans h
  obtain ⟨o, ho, hc⟩ := hr _ e.symm
  rw [show w.heap[B]? = _ from h] at ho
  cases ho
  cases hc

def GcI (w : World) (Z : Nat) (cs : List Cel) (m : Int) (pre : List Nat) (W : World) : Prop :=
  ((∃ v, Boxed W (w.heap.size + 1) 35 v ∧ W.ownsRow Z 41 18 v pre.length (rws (pre.map (celAt cs))) ∧ pre.length ≤ m.toNat) ∧ Boxed W w.heap.size 3 (.int .i64 m) ∧ Z ≤ W.heap.size) ∧ Below w.heap.size w W
def GcX (w : World) (Z : Nat) (cs : List Cel) (m : Int) (c : Code) (pre' : List Nat) (W : World) : Prop :=
  (c = .exit 0 ∧ ∃ pre x, pre' = pre ++ [x] ∧ (∃ v, Boxed W (w.heap.size + 1) 35 v ∧ W.ownsRow Z 41 18 v pre.length (rws (pre.map (celAt cs)))) ∧ (pre.length = m.toNat ∨ x ≠ pre.length)) ∧ Below w.heap.size w W
theorem gcI_own (w : World) (Z : Nat) (cs : List Cel) (m : Int) {B : Nat} (hB : w.heap.size ≤ B) : OwnFrom B (GcI w Z cs m) :=
  OwnFrom.and (Own.from (fun s A W row hs hg hr => ⟨holdsRow_own Z (w.heap.size + 1) 35 41 18 (fun pre : List Nat => pre.length) (fun pre => rws (pre.map (celAt cs))) (fun pre _ => pre.length ≤ m.toNat) s A W row hs.1 hg hr, blk_turn hs.2.1 hg hr, Nat.le_trans hs.2.2 hg.size⟩) _) (ownFrom_below (Nat.le_refl _) hB)
theorem gcX_own (w : World) (Z : Nat) (cs : List Cel) (m : Int) (c : Code) {B : Nat} (hB : w.heap.size ≤ B) : OwnFrom B (GcX w Z cs m c) :=
  OwnFrom.and (Own.from (fun s A W row hs hg hr => by
    obtain ⟨hc, pre, x, e1, ⟨v, e2, e3⟩, e4⟩ := hs
    obtain ⟨v', f1, f2, -⟩ := holdsRow_own Z (w.heap.size + 1) 35 41 18 (fun pre : List Nat => pre.length) (fun pre => rws (pre.map (celAt cs))) (fun _ _ => True) pre A W row ⟨v, e2, e3, trivial⟩ hg hr
    exact ⟨hc, pre, x, e1, ⟨v', f1, f2⟩, e4⟩) _) (ownFrom_below (Nat.le_refl _) hB)
theorem rws_append (a b : List Cel) : rws (a ++ b) = rws a ++ rws b := flatR_append a b
theorem ownsRow_kp {w w' : World} {base e size k : Nat} {v : Value} {xs : List Value} (h : w.ownsRow base e size v k xs) (hk : Kp Nb w w') : w'.ownsRow base e size v k xs :=
  ownsRow_same h (fun g hg => by obtain ⟨-, o, ho, -⟩ := row_cells h hg; exact hk.heap (Array.getElem?_eq_some_iff.1 ho).1 (fun h => h))
theorem GcI.kept {w W W' : World} {Z : Nat} {cs : List Cel} {m : Int} {pre : List Nat} (h : GcI w Z cs m pre W) (k : Kp Nb W W') : GcI w Z cs m pre W' := by
  obtain ⟨⟨⟨v, b1, o1, hl⟩, b2, hz⟩, hB⟩ := h
  exact ⟨⟨⟨v, (k.heap b1.lt (fun h => h)).trans b1, ownsRow_kp o1 k, hl⟩, (k.heap b2.lt (fun h => h)).trans b2, Nat.le_trans hz k.size⟩, hB.trans (k.below hB.size (fun _ _ h => h))⟩
theorem range_end {k x : Nat} {pre : List Nat} (h : List.range k = pre ++ [x]) : k = pre.length + 1 ∧ pre = List.range pre.length ∧ x = pre.length := by
  have hk : k = pre.length + 1 := by have := congrArg List.length h; simpa using this
  subst hk
  rw [List.range_succ] at h
  have := List.append_inj' h rfl
  exact ⟨rfl, this.1.symm, by have h2 := this.2; injection h2 with h2 _; exact h2.symm⟩

theorem wpListIn_val {F : Fence} {n : Nat} {P : Program} {ops : Array Oper} {rest : List Oper} {o : Oper} {a : Act} {w w' : World} {Q : Exit → Act → World → Prop} (hg : o.guard = none) (hd : ∀ c, o.op ≠ .defer c) (ha : ∀ ev : Operand → Value, o.about P w ev = none) (v : Value)
    (h1 : (execOp a.eval o).run P w = .ok (.value v) w') (hK : wpListIn F n P ops Q rest (a.put o.dst v) w') : wpListIn F n P ops Q (o :: rest) a w := by
  refine wpListIn_plain hg fun K hK' => ?_
  unfold Oper.wpIn
  refine ⟨?_, ?_⟩
  · intro f hf; rw [ha] at hf; cases hf
  · rw [Oper.semAt_plain F _ _ hd, h1]
    exact hK' _ _ hK
theorem make_cell1 (x : Cel) (hx : CelOk x) (w : World) : (Instr.buildSlice 35 1 #[(0, cv x)]).run Try.prog w = .ok (.slice (some ⟨w.heap.size, 0, none⟩) 1 1) (w.alloc (.cells (cl x).toArray 41 (0, 0))) := by
  obtain ⟨n, a, q⟩ := x
  obtain ⟨a0, a1, a2, a3, a4, a5, a6, a7, a8, a9, a10, a11, a12, a13, a14, a15, rfl⟩ := sixteen a hx.mark.len
  kernel_rfl
theorem cells_new (w : World) (t : TypeId) (vs : List Value) (j : Nat) (u : Value) (h : vs[j]? = some u) : (w.alloc (.cells vs.toArray t (0, 0))).cell? (Addr.add ⟨w.heap.size, 0, none⟩ j) = some u := by
  have := (Blk.new w t vs).cell j
  rw [h] at this
  rw [add_mid, Nat.zero_add]
  exact this
theorem gc_step {W w1 : World} {n₀ Z Bx t e size k m : Nat} {v v' : Value} {xs ys : List Value} {tmp : Obj} (hv : Boxed W Bx t v) (hte : t ≠ e) (hrow : W.ownsRow Z e size v k xs) (hn : n₀ ≤ Bx) (hB : Bx < Z) (hZ : Z ≤ W.heap.size)
    (hown' : w1.ownsRow Z e size v' m ys) (hgrow : (W.alloc tmp).grownBy w1 v.ownBlock) :
    Boxed w1 Bx t v ∧ Boxed (w1.setCell ⟨Bx, 0, none⟩ v') Bx t v' ∧ (w1.setCell ⟨Bx, 0, none⟩ v').ownsRow Z e size v' m ys ∧ KeepsOthers W (w1.setCell ⟨Bx, 0, none⟩ v') ∧ Below n₀ W (w1.setCell ⟨Bx, 0, none⟩ v') ∧
      ∀ b, b < Z → b ≠ Bx → (w1.setCell ⟨Bx, 0, none⟩ v').heap[b]? = W.heap[b]? := by
  obtain ⟨h1, h2, -, h4, h5⟩ := hv.appended (n₀ := n₀) hte (ownsRow_le hrow (by omega)) (by omega) hn (ownsRow_le hown' (by omega)) hgrow
  refine ⟨h1, h2, ownsRow_setCell_below hown' hB v', h4, h5, fun b hb hne => ?_⟩
  rw [Below.heap_setCell _ _ _ _ hne]
  refine (hgrow.block b (by simp; omega) (fun e' => ?_)).trans (Below.heap_alloc _ _ _ (by omega))
  obtain ⟨hbb, -⟩ := row_cells hrow e'.symm
  omega

set_option maxRecDepth 100000 in
set_option maxHeartbeats 4000000 in
theorem gcells_in (n : Nat) (hn : 3 ≤ n) (B C : Nat) (cs : List Cel) (m : Int) (w : World) (h : SkAt w B C cs) (hbig : cs.length ≤ 100000) :
    CallsIn Fence.wide n Try.prog 23 #[.pointer (some ⟨B, 0, none⟩), .int .i64 m] w fun r w' => ∃ v, r = .returned v ∧
      w'.ownsRow w.heap.size 41 18 v (cs.take m.toNat).length (rws (cs.take m.toNat)) ∧ Below w.heap.size w w' := by
  have h1 : 1 ≤ n := by omega
  have CC : Hid (∀ wx, Kp Nb w wx → Calls Try.prog 46 #[.pointer (some ⟨B, 0, none⟩)] wx fun r w' => ∃ Bb B' C', r = .returned (.func (.func 65) #[] #[.pointer (some ⟨Bb, 0, none⟩)]) ∧ Boxed w' Bb 25 (.pointer (some ⟨B', 0, none⟩)) ∧ SkAt w' B' C' cs ∧ wx.heap.size ≤ Bb ∧ wx.heap.size ≤ B' ∧ wx.heap.size ≤ C' ∧ Bb < w'.heap.size ∧ Kp Nb wx w') :=
    hid fun wx k => cells0_any B C cs wx (h.kept k (fun h => h) (fun h => h)) hbig
  have HBIG := hid hbig
  have HOK := hid h.ok
  clear h hbig
  refine callsIn_of_wp_marks Try.func23 rfl trivial ?_ rfl
  simp only [Try.ntmps23, List.size_toArray, List.length_cons, List.length_nil, Nat.reduceAdd, Nat.reduceSub, Array.replicate_succ, Array.replicate_zero, List.push_toArray, List.append_toArray, List.nil_append, List.cons_append]
  gi_wp2_with (refine ⟨trivial, ?_⟩; gi_at_call 46; refine (callsIn_wide.2 (CC.out _ (((Kp.refl Nb w).alloc _).alloc _))).mono ?_; rintro r W0 ⟨Bb, B', C', rfl, c3, s3, l1, l2, l3, l4, k0⟩)
  have b0 := Boxed.new w 3 (.int .i64 m)
  have b1 := Boxed.new (w.alloc (.cells #[.int .i64 m] 3)) 35 (.slice none 0 0)
  simp only [World.size_alloc] at b1 l1 l2 l3
  have d0 := b0.alloc (.cells #[.slice none 0 0] 35)
  have c0' : Boxed W0 w.heap.size 3 (.int .i64 m) := (k0.heap (by simp; omega) (fun h => h)).trans d0
  have c1' : Boxed W0 (w.heap.size + 1) 35 (.slice none 0 0) := (k0.heap (by simp) (fun h => h)).trans b1
  have hB0 : Below w.heap.size w W0 := ((((Kp.refl Nb w).alloc _).alloc _).trans k0 (fun _ _ h => h)).below (Nat.le_refl _) (fun _ _ h => h)
  obtain ⟨Z, hZ0⟩ : ∃ Z, Z = W0.heap.size := ⟨_, rfl⟩
  have hl := s3.lt
  have HL := hid (show w.heap.size + 1 + 1 ≤ Bb ∧ w.heap.size + 1 + 1 ≤ B' ∧ w.heap.size + 1 + 1 ≤ C' ∧ Bb < Z ∧ B' < Z ∧ C' < Z ∧ W0.heap.size = Z from ⟨l1, l2, l3, by omega, by omega, by omega, hZ0.symm⟩)
  have HB0 := hid hB0
  have HI0 : Hid (GcI w Z cs m [] W0) := hid ⟨⟨⟨_, c1', World.ownsRow_nil _ _ _ _, Nat.zero_le _⟩, c0', by omega⟩, hB0⟩
  have HC3 := hid c3
  have HS3 := hid s3
  clear hZ0 hB0 b0 b1 d0 c0' c1' k0 s3 c3 l1 l2 l3 l4 hl
  refine wpIn_rangeFunc_ownH rfl h1 (gf := 65) (lb := #[.pointer (some ⟨Bb, 0, none⟩)]) rfl trivial (enters_of Try.func65 (by kernel_rfl) rfl)
    (cells_stops (n - 1) (by omega) Bb B' C' cs HBIG.out W0 HC3.out HS3.out) kpL_t (kpL_b (fun b hb => by have := HL.out; simp only [List.mem_cons, List.not_mem_nil, or_false] at hb; omega)) (Below.refl _ _) (fun _ => rfl)
    (GcI w Z cs m) (GcX w Z cs m) (gcI_own w Z cs m HB0.out.size) (fun c => gcX_own w Z cs m c HB0.out.size) HI0.out
    (fun x a' W => (∃ N, Z ≤ N ∧ a' = { tmps := #[.pointer (some ⟨B, 0, none⟩), .int .i64 m, undef, .pointer (some ⟨w.heap.size, 0, none⟩), .slice none 0 0, .pointer (some ⟨w.heap.size + 1, 0, none⟩), .int .i64 (x : Int), .pointer (some ⟨N, 0, none⟩), .pointer (some ⟨B, 0, none⟩), .func (.func 65) #[] #[.pointer (some ⟨Bb, 0, none⟩)], .int .i64 (x : Int), cv (celAt cs x), undef, undef, undef, undef, undef, undef, undef, undef, undef, undef, undef, undef, undef, undef, undef], defers := [] } ∧ Blk W N 41 (cl (celAt cs x))))
    (fun x a' => Own.from (fun _ A W row hs hg hr => by obtain ⟨N, h1, h2, h3⟩ := hs; exact ⟨N, h1, h2, blk_turn h3 hg hr⟩) _) ?assign ?body ?done ?stop
  case assign =>
    intro l pre x W K hI hK
    have HI := hid hI
    have HZ := hid hI.1.2.2
    have CO := HOK.out.at x
    clear hI
    obtain ⟨W1, hW1⟩ : ∃ W1, W1 = W.alloc (.cells (cl c0).toArray 41) := ⟨_, rfl⟩
    have HB1 : Hid (Blk W1 W.heap.size 41 (cl c0)) := hid (by rw [hW1]; exact Blk.new _ _ _)
    have hzl : (cl c0).length = 18 := cl_length c0_ok
    have TH : Hid (W1.there W.heap.size 0 (cl (celAt cs x)).length) := hid (HB1.out.there 0 _ (by rw [hzl, cl_length CO]; omega))
    have hrun : ∀ (ev : Operand → Value) (o : Oper), o.op = .alloc 41 → (execOp ev o).run Try.prog W = .ok (.value (.pointer (some ⟨W.heap.size, 0, none⟩))) W1 := fun ev o ho => by
      unfold execOp; rw [ho, hW1]; kernel_rfl
    have HST := hid (store_cell CO TH.out)
    have HR := hid hrun
    obtain ⟨W2, hW2⟩ : ∃ W2, W2 = W1.setCells W.heap.size 0 (cl (celAt cs x)) := ⟨_, rfl⟩
    rw [← hW2] at HST
    have HB2 : Hid (Blk W2 W.heap.size 41 (cl (celAt cs x))) := hid (by rw [hW2]; exact row_set HB1.out (by rw [hzl, cl_length CO]))
    have HK2 : Hid (Kp Nb W W2) := hid (by rw [hW2]; exact Kp.setCells (S := Nb) (fun h => absurd h (Nat.lt_irrefl _)) _ _ _ (by rw [hW1]; exact (Kp.refl Nb W).alloc _))
    clear hrun hW1 hW2 TH
    gi_wp2_with (first
      | (refine wpListIn_val (by rfl) (by intro c hc; cases hc) (fun _ => rfl) (.pointer (some ⟨W.heap.size, 0, none⟩)) (HR.out _ _ (by rfl)) ?_)
      | (refine wpListIn_store rfl 41 (.tmp 7) (.tmp 11) rfl (p := ⟨W.heap.size, 0, none⟩) (by rfl) (by rfl) HST.out ?_))
    refine hK _ _ ⟨HK2.out.size, fun k o _ ho _ => (HK2.out.heap (Array.getElem?_eq_some_iff.1 ho).1 (fun h => h)).trans ho⟩ (fun b hb => HK2.out.heap (by have := HL.out; have := HZ.out; simp only [List.mem_cons, List.not_mem_nil, or_false] at hb; omega) (fun h => h)) (HI.out.kept HK2.out) ⟨W.heap.size, HZ.out, by rfl, HB2.out⟩
  case body =>
    rintro l pre x a' W hl - hI ⟨N, hN, rfl, hNB⟩ hlt
    obtain ⟨⟨⟨v, b1, o1, hlen⟩, b2, hz⟩, hB⟩ := hI
    obtain ⟨p1, q1, rfl⟩ := own_shape o1
    have c1 := b1.cell
    have c2 := b2.cell
    have HC := hid b1
    have HC2 := hid b2
    have HO1 := hid o1
    have HLEN := hid hlen
    have HZ := hid hz
    have HBW := hid hB
    have HNB := hid hNB
    have CO := HOK.out.at x
    have HLT := hid hlt
    have hpl : pre.length < 100000 := by have := HBIG.out; omega
    clear b1 b2 o1 hlen hz hB hNB hN hl hlt
    by_cases hge : m ≤ (pre.length : Int)
    · gi_wp2
      exact ⟨KeepsFrom.refl _ _, ⟨rfl, pre, x, rfl, ⟨_, HC.out, HO1.out⟩, .inl (by have := HLEN.out; omega)⟩, HBW.out⟩
    · by_cases hx : x = pre.length
      · subst hx
        have HLD := hid (load_cell CO (HNB.out.range 0 _ (fun j _ => by rw [Nat.zero_add])))
        have HMK := hid (make_cell1 _ CO W)
        have HLC : Hid ((cl (celAt cs pre.length)).length = 18) := hid (cl_length CO)
        have HON : Hid (∀ u ∈ cl (celAt cs pre.length), u.oneCell' = true) := hid (cellL_one _ _ _)
        obtain ⟨i0, z0, hi, hz0, hz1, hz2, hz3⟩ := cell_info3
        have HSX := hid (show pre.length + 1 ≤ maxLen ∧ (pre.length + 1) * 32 ≤ 140737488355328 ∧ Z ≤ W.heap.size + 1 ∧ w.heap.size + 1 < Z from ⟨by unfold maxLen; omega, by omega, by have := HZ.out; omega, by have := HL.out; omega⟩)
        obtain ⟨y, hy⟩ : ∃ y, celAt cs pre.length = y := ⟨_, rfl⟩
        rw [hy] at HLD HMK HLC HON CO
        gi_wp2_with (first
          | (refine wpListIn_load rfl 41 (.tmp 7) rfl (p := ⟨N, 0, none⟩) (by rfl) HLD.out ?_)
          | (refine wpListIn_val (by rfl) (by intro c hc; cases hc) (fun _ => rfl) _ (exec_buildSlice rfl (qs := #[(0, cv y)]) (by simp [Act.eval, Act.put]) HMK.out) ?_)
          | (gi_at_builtin; refine wpListIn_append_own _ rfl _ _ 35 rfl Z 41 i0 z0 18 32 Try.underlying35 hi hz0 hz1 hz2 hz3 (by decide) _ _ _ rfl (HO1.out.alloc _) ⟨W.heap.size, 0, none⟩ 1 1 (cl y) rfl HLC.out (cells_new _ _ _) HON.out HSX.out.1 HSX.out.2.1 (by simp; exact HSX.out.2.2.1) ?_; intro v' w1 hown' hgrow _; obtain ⟨g', cap', rfl⟩ := ownsRow_succ hown'; obtain ⟨hv1, hv2, hr2, hk2, hb2, hh2⟩ := gc_step (n₀ := w.heap.size) HC.out (by decide) HO1.out (Nat.le_succ _) HSX.out.2.2.2 HZ.out hown' hgrow; have hc1 := hv1.cell; have hf1 := hv1.frozen; have HV1 := hid hv2; have HV2 := hid hr2; have HV3 := hid hk2; have HV4 := hid hb2; have HV5 := hid hh2; clear hv1 hv2 hr2 hk2 hb2 hh2 hown' hgrow))
        have hb0 : Boxed (w1.setCell ⟨w.heap.size + 1, 0, none⟩ (.slice (some ⟨g', 0, none⟩) (pre.length + 1) cap')) w.heap.size 3 (.int .i64 m) := (HV5.out w.heap.size (by have := HL.out; omega) (by omega)).trans HC2.out
        refine ⟨HV3.out.from _, fun b hb => HV5.out b (by have := HL.out; simp only [List.mem_cons, List.not_mem_nil, or_false] at hb; omega) (by have := HL.out; simp only [List.mem_cons, List.not_mem_nil, or_false] at hb; omega), ⟨⟨_, HV1.out, ?_, ?_⟩, hb0, Nat.le_trans HZ.out HV3.out.size⟩, HBW.out.trans HV4.out⟩
        · have e : rws ([pre.length].map (celAt cs)) = cl y := by simp [rws, flatR, hy]
          rw [List.map_append, rws_append, List.length_append, e]
          exact HV2.out
        · simp; omega
      · gi_wp2
        exact ⟨KeepsFrom.refl _ _, ⟨rfl, pre, x, rfl, ⟨_, HC.out, HO1.out⟩, .inr hx⟩, HBW.out⟩
  case done =>
    rintro D ys W hD rfl ⟨⟨⟨v, b1, o1, hlen⟩, b2, hz⟩, hB⟩ hK
    rw [range_take cs cs.length (Nat.le_refl _), List.take_length, List.length_range] at o1
    rw [List.length_range] at hlen
    obtain ⟨p1, q1, rfl⟩ := own_shape o1
    have c1 := b1.cell
    have HO1 := hid (ownsRow_le (base' := w.heap.size) o1 (by have := HL.out; omega))
    have HBW := hid hB
    have HD := hid hD
    have HK := hid hK
    have HE : Hid (cs.take m.toNat = cs) := hid (List.take_of_length_le hlen)
    clear b1 b2 o1 hlen hz hB hD hK
    gi_wp2
    refine ⟨by simp, .inl ⟨_, _, rfl, run_takeDeferred HK.out, ?_⟩⟩
    refine ⟨_, results_tmp rfl _ _ _, _, rfl, ?_⟩
    rw [HE.out]
    exact ⟨ownsRow_putObj (W := W) HO1.out _ HK.out rfl, HBW.out.trans (belowK_b (w := w) (Nat.le_refl _) W D _ _ (by have := HL.out; have := HD.out; omega) HK.out rfl rfl)⟩
  case stop =>
    rintro D c pre' W hD ⟨k, hk, rfl⟩ ⟨⟨rfl, pre, x, e1, ⟨v, b1, o1⟩, hlen⟩, hB⟩ hK
    obtain ⟨e2, e3, e4⟩ := range_end e1
    have hlen' : pre.length = m.toNat := by rcases hlen with h | h; exact h; exact absurd e4 h
    have e5 : pre.map (celAt cs) = cs.take m.toNat := by rw [e3, hlen']; exact range_take cs _ (by omega)
    rw [e5] at o1
    have e6 : pre.length = (cs.take m.toNat).length := by rw [← e5, List.length_map]
    rw [e6] at o1
    obtain ⟨lx, hlx⟩ : ∃ lx, cs.take m.toNat = lx := ⟨_, rfl⟩
    rw [hlx] at o1
    have HLX := hid hlx
    obtain ⟨p1, q1, rfl⟩ := own_shape o1
    have c1 := b1.cell
    have HO1 := hid (ownsRow_le (base' := w.heap.size) o1 (by have := HL.out; omega))
    have HBW := hid hB
    have HD := hid hD
    have HK := hid hK
    clear hlx b1 o1 hB hD hK e1 e2 e3 e4 e5 e6 hlen hlen'
    gi_wp2
    refine ⟨by simp, .inl ⟨_, _, rfl, run_takeDeferred HK.out, ?_⟩⟩
    refine ⟨_, results_tmp rfl _ _ _, _, rfl, ?_⟩
    rw [HLX.out]
    exact ⟨ownsRow_putObj (W := W) HO1.out _ HK.out rfl, HBW.out.trans (belowK_b (w := w) (Nat.le_refl _) W D _ _ (by have := HL.out; have := HD.out; omega) HK.out rfl rfl)⟩

end Go.Proofs.Yteedceepoindeaa

namespace Go.Proofs.Yteedceepoindeaa
open Go.RowKit

def qd (q : Int) : Nat → Int
  | 0 => q
  | k + 1 => qd q k / 2097152
theorem qd_eq (q : Int) (k : Nat) : qd q k = q / 2097152 ^ k := by
  induction k with
  | zero => simp [qd]
  | succ k ih => rw [qd, ih, Int.ediv_ediv_of_nonneg (Int.pow_nonneg (by decide)), Int.pow_succ]
def RplR (w5 : World) (B : Nat) (t : Nat) (m : List Int) (q : Int) (u i : Value) (wr : World) : Prop := ∃ k : Nat, k ≤ 3 ∧ u = .int .u64 (qd q k) ∧ i = .int .i64 k ∧ Hid (Blk wr B 31 (plcL t m k)) ∧ Hid (Kp (Jb B) w5 wr)
set_option maxRecDepth 100000 in
set_option maxHeartbeats 4000000 in
theorem rplaces_any (t : Nat) (m : List Int) (w : World) (hm : MarkOk m) (h0 : 0 < t) (h1 : t ≤ 512) :
    Calls Try.prog 16 #[.int .i64 ((3 * t : Nat) : Int), markV m] w fun e w' => e = .returned (plcV t m) ∧ Kp Nb w w' := by
  obtain ⟨s, hs⟩ : ∃ s : Int, ((3 * t : Nat) : Int) = s := ⟨_, rfl⟩
  rw [hs]
  obtain ⟨sa, hsa⟩ : ∃ s, seedA 4 = s := ⟨_, rfl⟩
  obtain ⟨sb, hsb⟩ : ∃ s, seedB 4 = s := ⟨_, rfl⟩
  obtain ⟨q, hq⟩ : ∃ q, hs4 m = q := ⟨_, rfl⟩
  have CS : Hid (∀ w, Calls Try.prog 41 #[.int .i64 4] w fun e w' => e = .returned (.agg #[.int .u64 sa, .int .u64 sb]) ∧ Kp Nb w w') := hid (fun w => by rw [← hsa, ← hsb]; exact ref_seed 4 w)
  have CH : Hid (∀ w, Calls Try.prog 40 #[.agg #[.int .u64 sa, .int .u64 sb], .string (st m)] w fun e w' => e = .returned (.int .u64 q) ∧ Kp Nb w w') := hid (fun w => by
    have h := ref_hash (seedA 4) (seedB 4) m w hm.bytes (by rw [hm.len]; decide)
    have hq' : hash (seedA 4) (seedB 4) m = q := hq
    rw [hq', hsa, hsb] at h
    exact h)
  have HQ := hid hq
  have QR := hid (hs4_range m)
  rw [hq] at QR
  obtain ⟨W, hW⟩ : ∃ W, W = (w.alloc (.cells (markL m).toArray 23)).alloc (.cells #[.int .i64 0, .int .i64 0, .int .i64 0] 31) := ⟨_, rfl⟩
  obtain ⟨N, hN⟩ : ∃ N, N = w.heap.size := ⟨_, rfl⟩
  have H3 : Hid (Blk W N 23 (markL m)) := hid (by rw [hW, hN]; exact (Blk.new w _ _).alloc _)
  have H4 : Hid (Blk W (N + 1) 31 [.int .i64 0, .int .i64 0, .int .i64 0]) := hid (by
    have h := Blk.new (w.alloc (.cells (markL m).toArray 23)) 31 [.int .i64 0, .int .i64 0, .int .i64 0]
    simp only [World.size_alloc] at h
    rw [hW, hN]
    exact h)
  have KW : Hid (Kp Nb w W) := hid (by rw [hW]; exact ((Kp.refl Nb w).alloc _).alloc _)
  have HY : Hid (BySl Nb W (.slice (some ⟨N, 0, none⟩) 16 16) m) := hid (by_mark H3.out hm)
  have LN : Hid (w.heap.size ≤ N) := hid (by rw [hN]; exact Nat.le_refl _)
  have HM := hid hm
  have HS := hid hs
  have HT : Hid (0 < t ∧ t ≤ 512) := hid ⟨h0, h1⟩
  have T1 : s.tdiv 3 = (t : Int) := by rw [Int.tdiv_eq_ediv_of_nonneg (by omega)]; omega
  have T2 : s / 3 = (t : Int) := by omega
  have T3 : (0 : Int) ≤ s := by omega
  have T4 : (t : Int) ≤ 512 := by omega
  have T5 : (0 : Int) ≤ (t : Int) := by omega
  have T6 : ¬ t = 0 := by omega
  clear hsa hsb hq hs h0 h1 hm
  go_enter Try.func16, Try.ntmps16
  go_upto_region 1 with fail
  rw [show (w.alloc (.cells (markL m).toArray 23)).alloc (.cells #[.int .i64 0, .int .i64 0, .int .i64 0] 31) = W from hW.symm, ← hN]
  clear hW hN
  refine region_vals2 [none, none, none, none, none, some 4, none, none, some 0, some 1, some 2, some 3, none, none, none, none, none, none, none, none, none, none, none, none, none, none, none, none, none, none, none, none] [[], [(3, none)], [(9, some 1)], [(8, some 0), (10, some 2)], [(11, some 3)]] [some 8, some 9, some 10, some 11, some 5] [.agg #[.int .u64 sa, .int .u64 sb], .slice (some ⟨N, 0, none⟩) 16 16, .string (st m), .int .u64 q, .int .u64 q] (fun w' => Hid (Kp Nb W w')) (by kernel_rfl) (by kernel_rfl) (by kernel_rfl) ?hS (VFrom.all (n := 5) (by kernel_rfl) ?hstep) ?hend
  case hstep =>
    refine VFrom.cons (VStep.call _ rfl _ rfl (.agg #[.int .u64 sa, .int .u64 sb]) rfl trivial 41 #[.int .i64 4] (fun ev wq hS he hr => ?_) (fun wq hS => ?_)) ?_
    · have hk := he.1; have hf := he.2; clear hr he
      go_simp
    · exact (CS.out wq).mono fun e w' ⟨h1, h2⟩ => ⟨h1, hS.out.trans h2 (fun _ _ h => h)⟩
    refine VFrom.cons (VStep.val _ rfl _ rfl (.slice (some ⟨N, 0, none⟩) 16 16) rfl trivial (fun ev wq hS he hr => ?_)) ?_
    · have r0 : ev (.tmp 3) = .pointer (some ⟨N, 0, none⟩) := hr (3, none) (by simp); have hk := he.1; clear hr he
      go_simp
    refine VFrom.cons (VStep.val _ rfl _ rfl (.string (st m)) rfl trivial (fun ev wq hS he hr => ?_)) ?_
    · have r0 : ev (.tmp 9) = .slice (some ⟨N, 0, none⟩) 16 16 := hr (9, some 1) (by simp); have hk := he.1; clear hr he
      have e1 := conv_any (HY.out.kept hS.out (fun _ h => h))
      go_simp
    refine VFrom.cons (VStep.call _ rfl _ rfl (.int .u64 q) rfl trivial 40 #[.agg #[.int .u64 sa, .int .u64 sb], .string (st m)] (fun ev wq hS he hr => ?_) (fun wq hS => ?_)) ?_
    · have r0 : ev (.tmp 8) = .agg #[.int .u64 sa, .int .u64 sb] := hr (8, some 0) (by simp); have r1 : ev (.tmp 10) = .string (st m) := hr (10, some 2) (by simp); have hk := he.1; have hf := he.2; clear hr he
      go_simp
    · exact (CH.out wq).mono fun e w' ⟨h1, h2⟩ => ⟨h1, hS.out.trans h2 (fun _ _ h => h)⟩
    refine VFrom.cons (VStep.val _ rfl _ rfl (.int .u64 q) rfl trivial (fun ev wq hS he hr => ?_)) ?_
    · have r0 : ev (.tmp 11) = .int .u64 q := hr (11, some 3) (by simp); have hk := he.1; clear hr he
      go_simp
    exact VFrom.nil
  case hS => exact hid ((Kp.refl Nb W).drew)
  case hend =>
    intro w5 h5
    have k5 := h5.out
    have Q4 := hid (H4.out.kept k5 (fun h => h))
    have K5 := hid (KW.out.trans k5 (fun _ _ h => h))
    have LN5 : Hid (N + 1 < w5.heap.size) := hid Q4.out.lt
    have Q5 : Hid (Blk (w5.alloc (.cells #[.int .i64 0, .int .i64 0, .int .i64 0] 31)) w5.heap.size 31 (plcL t m 0)) := hid (by rw [plcL_zero]; exact Blk.new w5 31 [.int .i64 0, .int .i64 0, .int .i64 0])
    have Q6 := hid (Q4.out.alloc (.cells #[.int .i64 0, .int .i64 0, .int .i64 0] 31))
    have K6 := hid (K5.out.alloc (.cells #[.int .i64 0, .int .i64 0, .int .i64 0] 31))
    clear h5 k5 H3 H4 KW CS CH HY Q4 K5
    simp only [putAll, List.zip_cons_cons, List.zip_nil_right, List.foldl_cons, List.foldl_nil, Act.put, List.setIfInBounds_toArray, List.set_cons_zero, List.set_cons_succ]
    go_wp2
    generalize hA : w5.heap.size = A at *
    have LA : Hid (w.heap.size ≤ A) := hid (by have := LN.out; have := LN5.out; omega)
    obtain ⟨w6, h6⟩ : ∃ W, W = w5.alloc (.cells #[.int .i64 0, .int .i64 0, .int .i64 0] 31) := ⟨_, rfl⟩
    rw [← h6] at Q5 Q6 K6 ⊢
    have Q4 := Q6
    have K5 := K6
    clear h6 hA Q6 K6
    go_loopw [5, 7] (RplR w6 A t m q) (fun _ i _ => 3 - (intOf i).toNat)
    case atStart => exact ⟨0, by omega, rfl, rfl, Q5, Kp.refl _ _⟩
    case round =>
      clear Q5
      obtain ⟨k, hk, rfl, rfl, HA, HK⟩ := hrel
      rcases k with _ | _ | _ | k
      · have c0 := HA.out.cell 0
        have f0 := HA.out.frozen 0
        simp only [plcL, List.getElem?_cons_zero] at c0
        obtain ⟨u, hu⟩ : ∃ u, qd q 0 = u := ⟨_, rfl⟩
        have UR : 0 ≤ u ∧ u < 18446744073709551616 := by
          rw [← hu, qd_eq]
          have := QR.out
          exact ⟨Int.ediv_nonneg this.1 (Int.pow_nonneg (by decide)), Int.lt_of_le_of_lt (Int.ediv_le_self _ this.1) this.2⟩
        have PV : Hid (wrap64 (0 + (wrap64 (u.tmod 2097152)).tmod (t : Int)) = ((plc t m 0 : Nat) : Int)) := hid (by
          rw [plc_val (0) u t UR.1 HT.out.1 HT.out.2 (by omega) (by omega), ← hu, qd_eq]
          unfold plc
          rw [HQ.out]
          simp)
        have HW : Hid (IntKind.u64.wrap (u / 2097152) = qd q 1) := hid (by
          have e : qd q 1 = u / 2097152 := by rw [← hu]; rfl
          rw [e, IntKind.wrap_u64]
          have := UR.2
          have := UR.1
          omega)
        rw [show qd q (0) = u from hu]
        have U1 : u.tdiv 2097152 = u / 2097152 := Int.tdiv_eq_ediv_of_nonneg UR.1
        clear hu UR
        go_wp2
        have HA3 : Hid (Blk (wr.setCell ⟨A, 0, none⟩ (.int .i64 ((plc t m 0 : Nat) : Int))) A 31 (plcL t m 1)) := by rw [← plcL_0]; exact HA.out.set 0 _
        have HK3 := hid (HK.out.set 0 (.int .i64 ((plc t m 0 : Nat) : Int)))
        have pv := PV.out
        rw [Int.zero_add] at pv
        rw [pv, HW.out]
        exact ⟨⟨1, by omega, rfl, rfl, HA3, HK3⟩, by simp [intOf]⟩
      · have c0 := HA.out.cell 1
        have f0 := HA.out.frozen 1
        simp only [plcL, List.getElem?_cons_zero, List.getElem?_cons_succ] at c0
        obtain ⟨u, hu⟩ : ∃ u, qd q 1 = u := ⟨_, rfl⟩
        have UR : 0 ≤ u ∧ u < 18446744073709551616 := by
          rw [← hu, qd_eq]
          have := QR.out
          exact ⟨Int.ediv_nonneg this.1 (Int.pow_nonneg (by decide)), Int.lt_of_le_of_lt (Int.ediv_le_self _ this.1) this.2⟩
        have PV : Hid (wrap64 ((t : Int) + (wrap64 (u.tmod 2097152)).tmod (t : Int)) = ((plc t m 1 : Nat) : Int)) := hid (by
          rw [plc_val ((t : Int)) u t UR.1 HT.out.1 HT.out.2 (by omega) (by omega), ← hu, qd_eq]
          unfold plc
          rw [HQ.out]
          simp)
        have HW : Hid (IntKind.u64.wrap (u / 2097152) = qd q 2) := hid (by
          have e : qd q 2 = u / 2097152 := by rw [← hu]; rfl
          rw [e, IntKind.wrap_u64]
          have := UR.2
          have := UR.1
          omega)
        rw [show qd q (0 + 1) = u from hu]
        have U1 : u.tdiv 2097152 = u / 2097152 := Int.tdiv_eq_ediv_of_nonneg UR.1
        clear hu UR
        go_wp2
        have HA3 : Hid (Blk (wr.setCell ⟨A, 1, none⟩ (.int .i64 ((plc t m 1 : Nat) : Int))) A 31 (plcL t m 2)) := by rw [← plcL_1]; exact HA.out.set 1 _
        have HK3 := hid (HK.out.set 1 (.int .i64 ((plc t m 1 : Nat) : Int)))
        have pv := PV.out
        skip
        rw [pv, HW.out]
        exact ⟨⟨2, by omega, rfl, rfl, HA3, HK3⟩, by simp [intOf]⟩
      · have c0 := HA.out.cell 2
        have f0 := HA.out.frozen 2
        simp only [plcL, List.getElem?_cons_zero, List.getElem?_cons_succ] at c0
        obtain ⟨u, hu⟩ : ∃ u, qd q 2 = u := ⟨_, rfl⟩
        have UR : 0 ≤ u ∧ u < 18446744073709551616 := by
          rw [← hu, qd_eq]
          have := QR.out
          exact ⟨Int.ediv_nonneg this.1 (Int.pow_nonneg (by decide)), Int.lt_of_le_of_lt (Int.ediv_le_self _ this.1) this.2⟩
        have PV : Hid (wrap64 (2 * (t : Int) + (wrap64 (u.tmod 2097152)).tmod (t : Int)) = ((plc t m 2 : Nat) : Int)) := hid (by
          rw [plc_val (2 * (t : Int)) u t UR.1 HT.out.1 HT.out.2 (by omega) (by omega), ← hu, qd_eq]
          unfold plc
          rw [HQ.out]
          simp)
        have HW : Hid (IntKind.u64.wrap (u / 2097152) = qd q 3) := hid (by
          have e : qd q 3 = u / 2097152 := by rw [← hu]; rfl
          rw [e, IntKind.wrap_u64]
          have := UR.2
          have := UR.1
          omega)
        rw [show qd q (0 + 1 + 1) = u from hu]
        have U1 : u.tdiv 2097152 = u / 2097152 := Int.tdiv_eq_ediv_of_nonneg UR.1
        clear hu UR
        go_wp2
        have HA3 : Hid (Blk (wr.setCell ⟨A, 2, none⟩ (.int .i64 ((plc t m 2 : Nat) : Int))) A 31 (plcL t m 3)) := by rw [← plcL_2]; exact HA.out.set 2 _
        have HK3 := hid (HK.out.set 2 (.int .i64 ((plc t m 2 : Nat) : Int)))
        have pv := PV.out
        skip
        rw [pv, HW.out]
        exact ⟨⟨3, by omega, rfl, rfl, HA3, HK3⟩, by simp [intOf]⟩
      · have hk3 : k = 0 := by omega
        subst hk3
        have HP := hid (show Blk wr A 31 (plcL t m 3) from HA.out)
        have Q6 := hid (Q4.out.kept HK.out (fun h => by have h' : N + 1 = A := h; have := LN5.out; omega))
        have K6 := hid (K5.out.trans HK.out (fun i hi h => by have h' : i = A := h; have := LA.out; omega))
        have TH : Hid (wr.there (N + 1) 0 (plcL t m 3).toArray.size) := hid (by rw [List.size_toArray, plcL_len]; exact Q6.out.there 0 3 (Nat.le_refl _))
        have SI : Hid ((Try.prog.info? 31).map (·.size) = some (plcL t m 3).toArray.size) := hid (by rw [List.size_toArray, plcL_len]; exact arr3_info)
        have SL : Hid ((Try.prog.info? 31).map (·.size) = some (plcL t m 3).length) := hid (by rw [plcL_len]; exact arr3_info)
        have ON : Hid ((plcL t m 3).toArray.all (·.oneCell') = true) := hid (by simp [plcL, Value.oneCell'])
        have HF : Hid (Blk (wr.setCells (N + 1) 0 (plcL t m 3)) (N + 1) 31 (plcL t m 3)) := hid (row_set Q6.out (plcL_len t m 3))
        have K9 : Hid (Kp Nb w (wr.setCells (N + 1) 0 (plcL t m 3))) := hid (Kp.setCells (fun h => by have := LN.out; omega) _ 0 _ K6.out)
        obtain ⟨P, hP⟩ : ∃ P, P = plcL t m 3 := ⟨_, rfl⟩
        rw [← hP] at HP TH SI SL ON HF K9
        have HPE := hid hP
        clear hP HA hk K6 Q6 T1 T2 T3 T4 T5 T6
        go_wp2_with (first
          | (refine wpList_load_mid (by rfl) 31 (.tmp 6) (by rfl) A 0 (by rfl) P _ (range_of HP.out) Try.underlying31 rfl SL.out ?_)
          | (refine wpList_store_mid (by rfl) 31 (.tmp 4) (.tmp 31) (by rfl) (N + 1) 0 P.toArray (by rfl) (by rfl) TH.out SI.out ON.out ?_))
        have hl := row_loadVar (P := Try.prog) Try.underlying31 rfl SL.out HF.out 0 (fun j _ => by rw [Nat.zero_add])
        refine bodyPost_ret (v := .agg P.toArray) (results_cell rfl _ (N + 1) (by rfl) _ hl) ?_ ?_
        · rfl
        · have hv : (.agg P.toArray : Value) = plcV t m := by rw [HPE.out]
          exact ⟨congrArg Ending.returned hv, K9.out⟩


end Go.Proofs.Yteedceepoindeaa

namespace Go.Proofs.Yteedceepoindeaa
open Go.RowKit Go.Shelf
attribute [local go_sem] Oper.semAt_some

theorem rows_own {w : World} {base : Nat} {v : Value} {cs : List Cel} (h : w.ownsRow base 41 18 v cs.length (rws cs)) (ho : AllOk cs) : RowsSl cl c0 18 w v cs := by
  by_cases hn : 0 < cs.length
  · obtain ⟨g, cap, rest, rfl, -, hb, h1, h2⟩ := own_blk h hn
    refine .inr ⟨g, 0, cap, rfl, h1, h2, fun i hi => ?_⟩
    rw [Nat.zero_add]
    exact flat_range hb ho.len i hi (cl_length (ho.at i))
  · have e : cs = [] := List.length_eq_zero_iff.1 (by omega)
    subst e
    obtain ⟨p, q, rfl⟩ := own_shape h
    exact .inl ⟨⟨_, _, rfl⟩, rfl⟩
theorem AllOk.take {cs : List Cel} (h : AllOk cs) (n : Nat) : AllOk (cs.take n) := fun q hq => h q (List.mem_of_mem_take hq)
theorem gcells_any (B C : Nat) (cs : List Cel) (m : Int) (w : World) (h : SkAt w B C cs) (hbig : cs.length ≤ 100000) :
    Calls Try.prog 23 #[.pointer (some ⟨B, 0, none⟩), .int .i64 m] w fun e w' => ∃ v, e = .returned v ∧ RowsSl cl c0 18 w' v (cs.take m.toNat) ∧ Kp Nb w w' :=
  (callsIn_wide.1 (gcells_in 3 (Nat.le_refl _) B C cs m w h hbig)).mono fun _ _ ⟨v, he, h1, hB⟩ => ⟨v, he, rows_own h1 (h.ok.take _), Kp.of_below hB⟩

set_option maxHeartbeats 1000000 in
theorem rfits_any (n : Int) (w : World) (h0 : -9223372036854775808 ≤ n) (h1 : n < 9223372036854775808) : Calls Try.prog 10 #[.int .i64 n] w fun e w' => e = .returned (.bool (fitB n)) ∧ w = w' := by
  go_enter Try.func10, Try.ntmps10
  by_cases a : 2 < n
  · by_cases b : n < 1537
    · by_cases c : n % 3 = 0
      · have e : Hid (fitB n = true) := hid (by unfold fitB; simp; omega)
        have d1 : decide (n > 2) = true := decide_eq_true (by omega)
        have d2 : decide (n < 1537) = true := decide_eq_true (by omega)
        have e1 : n.tmod 3 = 0 := by rw [Int.tmod_eq_emod_of_nonneg (by omega)]; exact c
        have e2 : IntKind.i64.wrap (n.tmod 3) = 0 := by rw [e1]; rfl
        clear a b c h0 h1
        go_wp2
        go_ret
        rw [e.out]; exact ⟨rfl, rfl⟩
      · have e : Hid (fitB n = false) := hid (by unfold fitB; simp; omega)
        have d1 : decide (n > 2) = true := decide_eq_true (by omega)
        have d2 : decide (n < 1537) = true := decide_eq_true (by omega)
        obtain ⟨r, hr⟩ : ∃ r, n.tmod 3 = r := ⟨_, rfl⟩
        have e1 : (r == 0) = false := by rw [beq_eq_false_iff_ne, ← hr, Int.tmod_eq_emod_of_nonneg (by omega)]; exact c
        clear a b c h0 h1
        go_wp2
        go_ret
        rw [e.out]; exact ⟨rfl, rfl⟩
    · have e : Hid (fitB n = false) := hid (by unfold fitB; simp; omega)
      go_wp2
      go_ret
      rw [e.out]; exact ⟨rfl, rfl⟩
  · have e : Hid (fitB n = false) := hid (by unfold fitB; simp; omega)
    go_wp2
    go_ret
    rw [e.out]; exact ⟨rfl, rfl⟩

def sameB (a b : List Cel) : Bool := decide (a = b)
def SmR (a b : List Cel) (w : World) (i : Value) (wr : World) : Prop := ∃ k : Nat, k ≤ a.length ∧ i = .int .i64 k ∧ Hid (a.take k = b.take k) ∧ Hid (Kp Nb w wr)
theorem same_snoc {a b : List Cel} {k : Nat} (ha : k < a.length) (hb : k < b.length) (h : a.take k = b.take k) (he : celAt a k = celAt b k) : a.take (k + 1) = b.take (k + 1) := by
  rw [List.take_add_one, List.take_add_one, h]
  unfold celAt at he
  rw [List.getElem?_eq_getElem ha, List.getElem?_eq_getElem hb] at he ⊢
  simp only [Option.getD_some] at he
  rw [he]
set_option maxRecDepth 100000 in
set_option maxHeartbeats 1000000 in
theorem rsame_any (u v : Value) (a b : List Cel) (w : World) (hu : RowsSl cl c0 18 w u a) (hv : RowsSl cl c0 18 w v b) (oa : AllOk a) (ob : AllOk b) (la : a.length ≤ 100000) :
    Calls Try.prog 26 #[u, v] w fun e w' => e = .returned (.bool (sameB a b)) ∧ Kp Nb w w' := by
  obtain ⟨y1, d1, rfl⟩ := hu.shape
  obtain ⟨y2, d2, rfl⟩ := hv.shape
  have HU := hid hu
  have HV := hid hv
  have OA := hid oa
  have OB := hid ob
  have LA := hid la
  clear hu hv oa ob
  go_enter Try.func26, Try.ntmps26
  by_cases hl : a.length = b.length
  · have HL := hid hl
    have hl' : ((a.length : Nat) : Int) = b.length := by omega
    go_wp2
    go_loopw [13] (SmR a b w) (fun i _ => a.length - (intOf i).toNat)
    case atStart => exact ⟨0, by omega, rfl, hid rfl, hid (Kp.refl _ _)⟩
    case round =>
      obtain ⟨k, hk, rfl, HE, HW⟩ := hrel
      by_cases hlt : k < a.length
      · have hlb : k < b.length := by have := HL.out; omega
        rcases HU.out with ⟨_, he⟩ | ⟨A, oa, ca, e1, f1, f2, f3⟩
        · rw [he] at hlt; simp at hlt
        rcases HV.out with ⟨_, he⟩ | ⟨B, ob, cb, e2, g1, g2, g3⟩
        · rw [he] at hlb; simp at hlb
        injection e1 with e1 e3 e4
        injection e2 with e2 e5 e6
        subst e1 e4 e2 e6
        have XA : Hid (wr.rangeAt A (oa + k * 18) (cl (celAt a k))) := hid (range_kept (f3 k hlt) HW.out)
        have XB : Hid (wr.rangeAt B (ob + k * 18) (cl (celAt b k))) := hid (range_kept (g3 k hlb) HW.out)
        have XO := hid (OA.out.at k)
        have YO := hid (OB.out.at k)
        have EQ := hid (eq_cells (celAt a k) (celAt b k) XO.out.mark.len YO.out.mark.len)
        have HS : Hid (celAt a k = celAt b k → a.take (k + 1) = b.take (k + 1)) := hid (same_snoc hlt hlb HE.out)
        have HN : Hid (celAt a k ≠ celAt b k → sameB a b = false) := hid (fun h => decide_eq_false (fun e => h (by rw [e])))
        have HKA := hid hlt
        unfold maxLen at f2 g2
        have FA : Hid (k < a.length ∧ k < b.length ∧ a.length ≤ d1 ∧ b.length ≤ d2 ∧ d1 ≤ 9223372036854775807 ∧ d2 ≤ 9223372036854775807) := hid ⟨hlt, hlb, f1, g1, by omega, by omega⟩
        clear f1 f2 f3 g1 g2 g3 e3 e5 hlt hlb HU HV HE
        generalize celAt a k = x at XA XO EQ HS HN
        generalize celAt b k = y at XB YO EQ HS HN
        obtain ⟨d, hd⟩ : ∃ d, decide (x = y) = d := ⟨_, rfl⟩
        rw [hd] at EQ
        have HD := hid hd
        clear hd
        have hx := FA.out
        go_upto_region 6 with fail
        refine region_vals2 [none, none, none, none, none, none, none, none, none, none, none, none, none, none, none, none, some 0, some 1, some 2, some 3, some 4, some 5, some 6, some 7, some 8, none] [[(0, none)], [(5, none)], [(16, some 0), (17, some 1)], [(18, some 2)], [(1, none)], [(5, none)], [(20, some 4), (21, some 5)], [(22, some 6)], [(19, some 3), (23, some 7)]] [some 16, some 17, some 18, some 19, some 20, some 21, some 22, some 23, some 24] [.slice (some ⟨A, oa, none⟩) a.length d1, .int .i64 (k : Int), .pointer (some ⟨A, oa + k * 18, none⟩), cv x, .slice (some ⟨B, ob, none⟩) b.length d2, .int .i64 (k : Int), .pointer (some ⟨B, ob + k * 18, none⟩), cv y, .bool (!d)] (fun w' => Hid (Kp Nb wr w')) (by kernel_rfl) (by kernel_rfl) (by kernel_rfl) ?hS (VFrom.all (n := 9) (by kernel_rfl) ?hstep) ?hend
        case hstep =>
          refine VFrom.cons (VStep.val _ rfl _ rfl (.slice (some ⟨A, oa, none⟩) a.length d1) rfl trivial (fun ev wq hS he hr => ?_)) ?_
          · have r0 : ev (.tmp 0) = .slice (some ⟨A, oa, none⟩) a.length d1 := hr (0, none) (by simp); have hk := he.1; clear hr he
            go_simp
          refine VFrom.cons (VStep.val _ rfl _ rfl (.int .i64 (k : Int)) rfl trivial (fun ev wq hS he hr => ?_)) ?_
          · have r0 : ev (.tmp 5) = .int .i64 (k : Int) := hr (5, none) (by simp); have hk := he.1; clear hr he
            go_simp
          refine VFrom.cons (VStep.val _ rfl _ rfl (.pointer (some ⟨A, oa + k * 18, none⟩)) rfl trivial (fun ev wq hS he hr => ?_)) ?_
          · have r0 : ev (.tmp 16) = .slice (some ⟨A, oa, none⟩) a.length d1 := hr (16, some 0) (by simp); have r1 : ev (.tmp 17) = .int .i64 (k : Int) := hr (17, some 1) (by simp); have hk := he.1; clear hr he
            have e1 := FA.out
            go_simp
          refine VFrom.cons (VStep.val _ rfl _ rfl (cv x) rfl trivial (fun ev wq hS he hr => ?_)) ?_
          · have r0 : ev (.tmp 18) = .pointer (some ⟨A, oa + k * 18, none⟩) := hr (18, some 2) (by simp); have hk := he.1; clear hr he
            exact exec_load rfl r0 (load_cell XO.out (range_kept XA.out hS.out))
          refine VFrom.cons (VStep.val _ rfl _ rfl (.slice (some ⟨B, ob, none⟩) b.length d2) rfl trivial (fun ev wq hS he hr => ?_)) ?_
          · have r0 : ev (.tmp 1) = .slice (some ⟨B, ob, none⟩) b.length d2 := hr (1, none) (by simp); have hk := he.1; clear hr he
            go_simp
          refine VFrom.cons (VStep.val _ rfl _ rfl (.int .i64 (k : Int)) rfl trivial (fun ev wq hS he hr => ?_)) ?_
          · have r0 : ev (.tmp 5) = .int .i64 (k : Int) := hr (5, none) (by simp); have hk := he.1; clear hr he
            go_simp
          refine VFrom.cons (VStep.val _ rfl _ rfl (.pointer (some ⟨B, ob + k * 18, none⟩)) rfl trivial (fun ev wq hS he hr => ?_)) ?_
          · have r0 : ev (.tmp 20) = .slice (some ⟨B, ob, none⟩) b.length d2 := hr (20, some 4) (by simp); have r1 : ev (.tmp 21) = .int .i64 (k : Int) := hr (21, some 5) (by simp); have hk := he.1; clear hr he
            have e1 := FA.out
            go_simp
          refine VFrom.cons (VStep.val _ rfl _ rfl (cv y) rfl trivial (fun ev wq hS he hr => ?_)) ?_
          · have r0 : ev (.tmp 22) = .pointer (some ⟨B, ob + k * 18, none⟩) := hr (22, some 6) (by simp); have hk := he.1; clear hr he
            exact exec_load rfl r0 (load_cell YO.out (range_kept XB.out hS.out))
          refine VFrom.cons (VStep.val _ rfl _ rfl (.bool (!d)) rfl trivial (fun ev wq hS he hr => ?_)) ?_
          · have r0 : ev (.tmp 19) = cv x := hr (19, some 3) (by simp); have r1 : ev (.tmp 23) = cv y := hr (23, some 7) (by simp); have hk := he.1; clear hr he
            exact exec_neqCell rfl r0 r1 (EQ.out wq)
          exact VFrom.nil
        case hS => exact hid ((Kp.refl Nb wr).drew)
        case hend =>
          intro w6 h6
          have K6 := hid (HW.out.trans h6.out (fun _ _ h => h))
          clear h6
          simp only [putAll, List.zip_cons_cons, List.zip_nil_right, List.foldl_cons, List.foldl_nil, Act.put, List.setIfInBounds_toArray, List.set_cons_zero, List.set_cons_succ]
          cases d with
          | true =>
            have RE : Hid (SmR a b w (.int .i64 ((k : Int) + 1)) w6) := hid ⟨k + 1, by omega, by go_num, hid (HS.out (of_decide_eq_true HD.out)), K6⟩
            go_wp2
            go_roundw
            case rel => exact RE.out
            case measure => simp [intOf]; omega
          | false =>
            go_wp2
            go_ret
            exact ⟨by rw [HN.out (of_decide_eq_false HD.out)]; rfl, K6.out⟩
      · obtain rfl : k = a.length := by omega
        have hE := HE.out
        rw [List.take_length, HL.out, List.take_length] at hE
        have HE2 := hid hE
        clear hE HE
        go_wp2
        go_ret
        exact ⟨by rw [HE2.out]; unfold sameB; simp, HW.out⟩
  · have HL : Hid (sameB a b = false) := hid (decide_eq_false (fun e => hl (by rw [e])))
    have hl' : (((a.length : Nat) : Int) != ((b.length : Nat) : Int)) = true := by rw [bne_iff_ne]; omega
    clear hl
    go_wp2
    go_ret
    exact ⟨by rw [HL.out]; rfl, Kp.refl _ _⟩

end Go.Proofs.Yteedceepoindeaa

namespace Go.Proofs.Yteedceepoindeaa
open Go.RowKit Go.Shelf
attribute [local go_sem] Oper.semAt_some

/-- The first k cells less b's, the others as they were. -/
def subP (a b : List Cel) : Nat → List Cel
  | 0 => a
  | k + 1 => (subP a b k).set k (subC (celAt (subP a b k) k) (celAt b k))
theorem subP_length (a b : List Cel) : ∀ k, (subP a b k).length = a.length
  | 0 => rfl
  | k + 1 => by show ((subP a b k).set k _).length = _; rw [List.length_set, subP_length a b k]
theorem subP_ok {a b : List Cel} (ha : AllOk a) : ∀ k, AllOk (subP a b k)
  | 0 => ha
  | k + 1 => (subP_ok ha k).set k subC_ok
def subS (a b : List Cel) : List Cel := subP a b a.length
def SubR (w4 : World) (C n : Nat) (rest : List Value) (cs : Nat → List Cel) (i : Value) (wr : World) : Prop := ∃ k : Nat, k ≤ n ∧ i = .int .i64 k ∧ Hid (Blk wr C 41 (rws (cs k) ++ rest)) ∧ Hid (Kp (Jb C) w4 wr)

set_option maxRecDepth 100000 in
set_option maxHeartbeats 1000000 in
theorem ksub_nil1 (v : Value) (hv : v = .pointer none ∨ ∃ p, v = .pointer (some p)) (w : World) : Calls Try.prog 21 #[.pointer none, v] w fun e w' => e = .returned (.tuple #[.pointer none, .int .i64 1]) ∧ w = w' := by
  rcases hv with rfl | ⟨p, rfl⟩ <;>
  · go_enter Try.func21, Try.ntmps21
    go_wp2
    go_ret2
    exact ⟨rfl, rfl⟩

set_option maxRecDepth 100000 in
set_option maxHeartbeats 4000000 in
theorem ksub_any (B1 C1 B2 C2 : Nat) (a b : List Cel) (w : World) (h1 : SkAt w B1 C1 a) (h2 : SkAt w B2 C2 b) (hl : a.length = b.length) (hbig : a.length ≤ 100000) :
    Calls Try.prog 21 #[.pointer (some ⟨B1, 0, none⟩), .pointer (some ⟨B2, 0, none⟩)] w fun e w' => ∃ B C, e = .returned (.tuple #[.pointer (some ⟨B, 0, none⟩), .int .i64 0]) ∧ SkAt w' B C (subS a b) ∧ w.heap.size ≤ B ∧ w.heap.size ≤ C ∧ Kp Nb w w' := by
  obtain ⟨cap1, hb1, hs1⟩ := h1.sl
  obtain ⟨cap2, hb2, hs2⟩ := h2.sl
  obtain ⟨n, hn⟩ : ∃ n, a.length = n := ⟨_, rfl⟩
  have hn2 : b.length = n := by omega
  rw [hn] at hb1
  rw [hn2] at hb2
  have H1 := hid h1
  have H2 := hid h2
  have B1' := hid hb1
  have B2' := hid hb2
  have CL := hid (fun (w : World) (h : SkAt w B1 C1 a) => kclone_any B1 C1 a w h hbig)
  have HN := hid (show a.length = n ∧ b.length = n ∧ n ≤ 100000 from ⟨hn, hn2, by omega⟩)
  have hlt : n ≤ 100000 := by omega
  clear h1 h2 hs1 hs2 hl hbig hn hn2 hb1 hb2
  go_enter Try.func21, Try.ntmps21
  go_upto_region 3 with fail
  refine region_vals2 [none, none, none, none, none, none, none, none, none, none, none, none, none, none, none, some 0, some 1, some 2, some 3, some 4, some 5, some 6, some 7, some 8, some 9, some 10, none, none, none, none, none, none, none, none, none, none, none, none, none, none, none, none, none, none, none, none, none, none, none, none, none, none, none, none, none] [[(0, none)], [(15, some 0)], [(16, some 1)], [(17, some 2)], [(18, some 3)], [(1, none)], [(20, some 5)], [(21, some 6)], [(22, some 7)], [(23, some 8)], [(19, some 4), (24, some 9)]] [some 15, some 16, some 17, some 18, some 19, some 20, some 21, some 22, some 23, some 24, some 25] [.pointer (some ⟨B1, 0, none⟩), .pointer (some ⟨B1, 0, none⟩), .pointer (some ⟨B1, 0, none⟩), .slice (some ⟨C1, 0, none⟩) n cap1, .int .i64 (n : Int), .pointer (some ⟨B2, 0, none⟩), .pointer (some ⟨B2, 0, none⟩), .pointer (some ⟨B2, 0, none⟩), .slice (some ⟨C2, 0, none⟩) n cap2, .int .i64 (n : Int), .bool false] (fun w' => Hid (Kp Nb w w')) (by kernel_rfl) (by kernel_rfl) (by kernel_rfl) ?hS (VFrom.all (n := 11) (by kernel_rfl) ?hstep) ?hend
  case hstep =>
    refine VFrom.cons (VStep.val _ rfl _ rfl (.pointer (some ⟨B1, 0, none⟩)) rfl trivial (fun ev wq hS he hr => ?_)) ?_
    · have r0 : ev (.tmp 0) = .pointer (some ⟨B1, 0, none⟩) := hr (0, none) (by simp); have hk := he.1; clear hr he
      go_simp
    refine VFrom.cons (VStep.val _ rfl _ rfl (.pointer (some ⟨B1, 0, none⟩)) rfl trivial (fun ev wq hS he hr => ?_)) ?_
    · have r0 : ev (.tmp 15) = .pointer (some ⟨B1, 0, none⟩) := hr (15, some 0) (by simp); have hk := he.1; clear hr he
      go_simp
    refine VFrom.cons (VStep.val _ rfl _ rfl (.pointer (some ⟨B1, 0, none⟩)) rfl trivial (fun ev wq hS he hr => ?_)) ?_
    · have r0 : ev (.tmp 16) = .pointer (some ⟨B1, 0, none⟩) := hr (16, some 1) (by simp); have hk := he.1; clear hr he
      go_simp
    refine VFrom.cons (VStep.val _ rfl _ rfl (.slice (some ⟨C1, 0, none⟩) n cap1) rfl trivial (fun ev wq hS he hr => ?_)) ?_
    · have r0 : ev (.tmp 17) = .pointer (some ⟨B1, 0, none⟩) := hr (17, some 2) (by simp); have hk := he.1; clear hr he
      have c0 := (B1'.out.kept hS.out (fun h => h)).cell 0
      go_simp
    refine VFrom.cons (VStep.val _ rfl _ rfl (.int .i64 (n : Int)) rfl trivial (fun ev wq hS he hr => ?_)) ?_
    · have r0 : ev (.tmp 18) = .slice (some ⟨C1, 0, none⟩) n cap1 := hr (18, some 3) (by simp); have hk := he.1; clear hr he
      go_simp
    refine VFrom.cons (VStep.val _ rfl _ rfl (.pointer (some ⟨B2, 0, none⟩)) rfl trivial (fun ev wq hS he hr => ?_)) ?_
    · have r0 : ev (.tmp 1) = .pointer (some ⟨B2, 0, none⟩) := hr (1, none) (by simp); have hk := he.1; clear hr he
      go_simp
    refine VFrom.cons (VStep.val _ rfl _ rfl (.pointer (some ⟨B2, 0, none⟩)) rfl trivial (fun ev wq hS he hr => ?_)) ?_
    · have r0 : ev (.tmp 20) = .pointer (some ⟨B2, 0, none⟩) := hr (20, some 5) (by simp); have hk := he.1; clear hr he
      go_simp
    refine VFrom.cons (VStep.val _ rfl _ rfl (.pointer (some ⟨B2, 0, none⟩)) rfl trivial (fun ev wq hS he hr => ?_)) ?_
    · have r0 : ev (.tmp 21) = .pointer (some ⟨B2, 0, none⟩) := hr (21, some 6) (by simp); have hk := he.1; clear hr he
      go_simp
    refine VFrom.cons (VStep.val _ rfl _ rfl (.slice (some ⟨C2, 0, none⟩) n cap2) rfl trivial (fun ev wq hS he hr => ?_)) ?_
    · have r0 : ev (.tmp 22) = .pointer (some ⟨B2, 0, none⟩) := hr (22, some 7) (by simp); have hk := he.1; clear hr he
      have c0 := (B2'.out.kept hS.out (fun h => h)).cell 0
      go_simp
    refine VFrom.cons (VStep.val _ rfl _ rfl (.int .i64 (n : Int)) rfl trivial (fun ev wq hS he hr => ?_)) ?_
    · have r0 : ev (.tmp 23) = .slice (some ⟨C2, 0, none⟩) n cap2 := hr (23, some 8) (by simp); have hk := he.1; clear hr he
      go_simp
    refine VFrom.cons (VStep.val _ rfl _ rfl (.bool false) rfl trivial (fun ev wq hS he hr => ?_)) ?_
    · have r0 : ev (.tmp 19) = .int .i64 (n : Int) := hr (19, some 4) (by simp); have r1 : ev (.tmp 24) = .int .i64 (n : Int) := hr (24, some 9) (by simp); have hk := he.1; clear hr he
      go_simp
    exact VFrom.nil
  case hS => exact hid ((Kp.refl Nb w).drew)
  case hend =>
    intro w3 h3
    have K3 := hid h3.out
    have S1 := hid (H1.out.kept K3.out (fun h => h) (fun h => h))
    have S2 := hid (H2.out.kept K3.out (fun h => h) (fun h => h))
    clear h3
    simp only [putAll, List.zip_cons_cons, List.zip_nil_right, List.foldl_cons, List.foldl_nil, Act.put, List.setIfInBounds_toArray, List.set_cons_zero, List.set_cons_succ]
    go_wp2_with fail
    refine (CL.out _ S1.out).mono ?_
    rintro e w4 ⟨B, C, rfl, s4, lB, lC, k4⟩
    have S2' := hid (S2.out.kept k4 (fun h => h) (fun h => h))
    obtain ⟨cap, rest, hb4, hc4, hn4, hm4⟩ := s4.at'
    have HNE := hid s4.ne
    have AO := hid s4.ok
    have BO := hid S2'.out.ok
    have POS := hid s4.pos
    obtain ⟨cap2', hb5, hs5⟩ := S2'.out.sl
    rw [HN.out.1] at hb4 hn4
    rw [HN.out.2.1] at hb5
    have X4 : Hid (Blk w4 C 41 (rws (subP a b 0) ++ rest)) := hid hc4
    have B4 := hid hb4
    have HS5 := hid hs5
    have hcap : n ≤ cap ∧ cap ≤ 9223372036854775807 := ⟨hn4, by unfold maxLen at hm4; omega⟩
    have FC := hid hcap
    have LL := hid (show w.heap.size ≤ B ∧ w.heap.size ≤ C ∧ w3.heap.size ≤ B ∧ w3.heap.size ≤ C from ⟨Nat.le_trans K3.out.size lB, Nat.le_trans K3.out.size lC, lB, lC⟩)
    have K4 := hid (K3.out.trans k4 (fun _ _ h => h))
    have LB2 := hid hb5.lt
    have HC2 := hid (S2.out.lt)
    have c5 := hb5.cell 0
    simp only [List.getElem?_cons_zero] at c5
    have hs5' := hs5
    rcases hs5 with ⟨_, he⟩ | ⟨C2', o2, cp, e1, g1, g2, g3⟩
    · have := POS.out; have := HN.out; rw [he] at this; simp at this; omega
    injection e1 with e1 e2 e3
    injection e1 with e1
    injection e1 with e1 e4 e5
    subst e1 e4 e3
    have G3 := hid g3
    rw [HN.out.2.1] at g1
    clear s4 k4 hb4 hc4 hn4 hm4 hs5' lB lC S2 S2' HS5 hb5 e2 e5 g3
    go_wp2
    go_loopw [33] (SubR w4 C n rest (subP a b)) (fun i _ => n - (intOf i).toNat)
    case atStart => exact ⟨0, Nat.zero_le _, rfl, X4, hid (Kp.refl _ _)⟩
    case round =>
      clear X4 c5
      obtain ⟨k, hk, rfl, HA, HK⟩ := hrel
      by_cases hlt' : k < n
      · have XC : Hid (wr.rangeAt C2 (k * 18) (cl (celAt b k))) := hid (fun j v hv => HK.out.cell (by have h := G3.out k (by rw [HN.out.2.1]; exact hlt') j v hv; rw [Nat.zero_add] at h; exact h) (fun h => by have h' : C2 = C := h; have := HC2.out.2; have := LL.out; omega))
        have YO := hid (BO.out.at k)
        have OK := hid (subP_ok AO.out (b := b) k)
        have LEN : Hid ((subP a b k).length = n) := hid (by rw [subP_length, HN.out.1])
        have HQ : Hid (subP a b (k + 1) = (subP a b k).set k (subC (celAt (subP a b k) k) (celAt b k))) := hid rfl
        have XR := hid (flat_range (z := c0) HA.out OK.out.len k (by rw [LEN.out]; exact hlt') (cl_length (OK.out.at _)))
        have XR' : Hid (wr.rangeAt C (k * 18) (cl (celAt (subP a b k) k))) := XR
        have UO := hid (OK.out.at k)
        have B5 := hid (B4.out.kept HK.out (fun h => HNE.out h))
        clear XR
        generalize celAt (subP a b k) k = u at HQ XR' UO
        generalize celAt b k = X at HQ XC YO
        generalize subP a b k = ck at HA OK LEN HQ
        obtain ⟨Y, hY⟩ : ∃ Y, Y = subC u X := ⟨_, rfl⟩
        rw [← hY] at HQ
        have YO2 : Hid (CelOk Y) := hid (by rw [hY]; exact subC_ok)
        have CY : Hid (∀ w, Calls Try.prog 45 #[cv u, cv X] w fun e w' => e = .returned (cv Y) ∧ Kp Nb w w') := hid (fun w => by rw [hY]; exact csub_c u X w UO.out YO.out)
        obtain ⟨du, hu, hd⟩ := cell_under
        have HU := hid hu
        have CI := hid (cell_infoL X.1 X.2.1 X.2.2 YO.out.mark.len)
        have hz := Blk.new wr 41 (cl c0)
        obtain ⟨W2, hW2⟩ : ∃ W, W = (wr.alloc (.cells (cl c0).toArray 41)).setCells wr.heap.size 0 (cl X) := ⟨_, rfl⟩
        have kW : Kp Nb wr W2 := by rw [hW2]; exact Kp.setCells (fun h => absurd h (Nat.lt_irrefl _)) _ 0 _ ((Kp.refl Nb wr).alloc _)
        have TH := hid (cell_there hz (cl_length c0_ok) YO.out)
        have SI := hid (cell_sized YO.out)
        have ON := hid (all_oneCell_toArray (cellL_one X.1 X.2.1 X.2.2))
        have HZ : Hid (Blk W2 wr.heap.size 41 (cl X)) := hid (by rw [hW2]; exact row_set hz (by rw [cl_length c0_ok, cl_length YO.out]))
        have HA2 := hid (HA.out.kept kW (fun h => h))
        have XR2 := hid (range_kept XR'.out kW)
        have B6 := hid (B5.out.kept kW (fun h => h))
        have HK2 := hid (HK.out.trans kW (fun _ _ h => h.elim))
        clear hz kW HA XR' B5 HK hu hY
        have h0k : 0 ≤ (k : Int) := by omega
        go_upto_region 9 with (first
          | (refine wpList_load_mid (by rfl) 41 (.tmp 36) (by rfl) C2 (k * 18) (by rfl) (cl X) du XC.out HU.out hd CI.out ?_)
          | (refine wpList_store_mid (by rfl) 41 (.tmp 8) (.tmp 37) (by rfl) wr.heap.size 0 (cl X).toArray (by rfl) (by rfl) TH.out SI.out ON.out ?_))
        rw [show (wr.alloc (.cells #[.int .i64 0, .int .u8 0, .int .u8 0, .int .u8 0, .int .u8 0, .int .u8 0, .int .u8 0, .int .u8 0, .int .u8 0, .int .u8 0, .int .u8 0, .int .u8 0, .int .u8 0, .int .u8 0, .int .u8 0, .int .u8 0, .int .u8 0, .int .u64 0] 41)).setCells wr.heap.size 0 (cl X) = W2 from hW2.symm]
        clear hW2 TH SI ON h0k
        obtain ⟨M, hM⟩ : ∃ M, wr.heap.size = M := ⟨_, rfl⟩
        rw [hM] at HZ ⊢
        clear hM
        have PZ : Hid ((0 : Int) ≤ (k : Int)) := hid (by omega)
        have PL : Hid ((k : Int) < (n : Int)) := hid (by omega)
        have PT : Hid (((k : Nat) : Int).toNat = k) := hid (by omega)
        have HPN := hid hlt'
        refine region_vals_last (n := 15) [none, none, none, none, none, none, none, none, none, none, none, none, none, none, none, none, none, none, none, none, none, none, none, none, none, none, none, none, none, none, none, none, none, none, none, none, none, none, some 0, some 1, some 2, some 3, some 4, some 5, some 6, some 7, some 8, some 9, some 10, some 11, some 12, some 13, some 14, none, none] [[(6, none)], [(38, some 0)], [(39, some 1)], [(40, some 2)], [(7, none)], [(6, none)], [(43, some 5)], [(44, some 6)], [(45, some 7)], [(7, none)], [(46, some 8), (47, some 9)], [(48, some 10)], [(8, none)], [(49, some 11), (50, some 12)], [(41, some 3), (42, some 4)], [(52, some 14), (51, some 13)]] [some 38, some 39, some 40, some 41, some 42, some 43, some 44, some 45, some 46, some 47, some 48, some 49, some 50, some 51, some 52] [.pointer (some ⟨B, 0, none⟩), .pointer (some ⟨B, 0, none⟩), .pointer (some ⟨B, 0, none⟩), .slice (some ⟨C, 0, none⟩) n cap, .int .i64 (k : Int), .pointer (some ⟨B, 0, none⟩), .pointer (some ⟨B, 0, none⟩), .pointer (some ⟨B, 0, none⟩), .slice (some ⟨C, 0, none⟩) n cap, .int .i64 (k : Int), .pointer (some ⟨C, k * 18, none⟩), cv u, cv X, cv Y, .pointer (some ⟨C, k * 18, none⟩)] (fun w' => Hid (Kp Nb W2 w')) (by kernel_rfl) (by kernel_rfl) (by kernel_rfl) (by kernel_rfl) ({ dst := none, op := Op.store 41 (Operand.tmp 52) (Operand.tmp 51), type := 0, pos := "iblt.go:119", after := #[{ on := 14, ground := Ground.data }, { on := 13, ground := Ground.data }, { on := 13, ground := Ground.chain }, { on := 0, ground := Ground.phase }, { on := 1, ground := Ground.phase }, { on := 2, ground := Ground.phase }, { on := 3, ground := Ground.phase }, { on := 4, ground := Ground.phase }, { on := 5, ground := Ground.phase }, { on := 6, ground := Ground.phase }, { on := 7, ground := Ground.phase }, { on := 8, ground := Ground.phase }, { on := 9, ground := Ground.phase }, { on := 10, ground := Ground.phase }, { on := 11, ground := Ground.phase }, { on := 12, ground := Ground.phase }, { on := 13, ground := Ground.phase }], guard := none }) rfl rfl (by kernel_rfl) (by kernel_rfl) ?hS (?hstep : VFrom _ _ _ _ _ _ 0 15).start ?hend
        case hstep =>
          refine VFrom.cons (VStep.val _ rfl _ rfl (.pointer (some ⟨B, 0, none⟩)) rfl trivial (fun ev wq hS he hr => ?_)) ?_
          · have r0 : ev (.tmp 6) = .pointer (some ⟨B, 0, none⟩) := hr (6, none) (by simp); have hk := he.1; clear hr he
            go_simp
          refine VFrom.cons (VStep.val _ rfl _ rfl (.pointer (some ⟨B, 0, none⟩)) rfl trivial (fun ev wq hS he hr => ?_)) ?_
          · have r0 : ev (.tmp 38) = .pointer (some ⟨B, 0, none⟩) := hr (38, some 0) (by simp); have hk := he.1; clear hr he
            go_simp
          refine VFrom.cons (VStep.val _ rfl _ rfl (.pointer (some ⟨B, 0, none⟩)) rfl trivial (fun ev wq hS he hr => ?_)) ?_
          · have r0 : ev (.tmp 39) = .pointer (some ⟨B, 0, none⟩) := hr (39, some 1) (by simp); have hk := he.1; clear hr he
            go_simp
          refine VFrom.cons (VStep.val _ rfl _ rfl (.slice (some ⟨C, 0, none⟩) n cap) rfl trivial (fun ev wq hS he hr => ?_)) ?_
          · have r0 : ev (.tmp 40) = .pointer (some ⟨B, 0, none⟩) := hr (40, some 2) (by simp); have hk := he.1; clear hr he
            have c0 := (B6.out.kept hS.out (fun h => h)).cell 0
            go_simp
          refine VFrom.cons (VStep.val _ rfl _ rfl (.int .i64 (k : Int)) rfl trivial (fun ev wq hS he hr => ?_)) ?_
          · have r0 : ev (.tmp 7) = .int .i64 (k : Int) := hr (7, none) (by simp); have hk := he.1; clear hr he
            go_simp
          refine VFrom.cons (VStep.val _ rfl _ rfl (.pointer (some ⟨B, 0, none⟩)) rfl trivial (fun ev wq hS he hr => ?_)) ?_
          · have r0 : ev (.tmp 6) = .pointer (some ⟨B, 0, none⟩) := hr (6, none) (by simp); have hk := he.1; clear hr he
            go_simp
          refine VFrom.cons (VStep.val _ rfl _ rfl (.pointer (some ⟨B, 0, none⟩)) rfl trivial (fun ev wq hS he hr => ?_)) ?_
          · have r0 : ev (.tmp 43) = .pointer (some ⟨B, 0, none⟩) := hr (43, some 5) (by simp); have hk := he.1; clear hr he
            go_simp
          refine VFrom.cons (VStep.val _ rfl _ rfl (.pointer (some ⟨B, 0, none⟩)) rfl trivial (fun ev wq hS he hr => ?_)) ?_
          · have r0 : ev (.tmp 44) = .pointer (some ⟨B, 0, none⟩) := hr (44, some 6) (by simp); have hk := he.1; clear hr he
            go_simp
          refine VFrom.cons (VStep.val _ rfl _ rfl (.slice (some ⟨C, 0, none⟩) n cap) rfl trivial (fun ev wq hS he hr => ?_)) ?_
          · have r0 : ev (.tmp 45) = .pointer (some ⟨B, 0, none⟩) := hr (45, some 7) (by simp); have hk := he.1; clear hr he
            have c0 := (B6.out.kept hS.out (fun h => h)).cell 0
            go_simp
          refine VFrom.cons (VStep.val _ rfl _ rfl (.int .i64 (k : Int)) rfl trivial (fun ev wq hS he hr => ?_)) ?_
          · have r0 : ev (.tmp 7) = .int .i64 (k : Int) := hr (7, none) (by simp); have hk := he.1; clear hr he
            go_simp
          refine VFrom.cons (VStep.val _ rfl _ rfl (.pointer (some ⟨C, k * 18, none⟩)) rfl trivial (fun ev wq hS he hr => ?_)) ?_
          · have r0 : ev (.tmp 46) = .slice (some ⟨C, 0, none⟩) n cap := hr (46, some 8) (by simp); have r1 : ev (.tmp 47) = .int .i64 (k : Int) := hr (47, some 9) (by simp); have hk := he.1; clear hr he
            have e1 := PZ.out; have e2 := PL.out; have e3 := PT.out; have e4 := FC.out
            go_simp
          refine VFrom.cons (VStep.val _ rfl _ rfl (cv u) rfl trivial (fun ev wq hS he hr => ?_)) ?_
          · have r0 : ev (.tmp 48) = .pointer (some ⟨C, k * 18, none⟩) := hr (48, some 10) (by simp); have hk := he.1; clear hr he
            exact exec_load rfl r0 (load_cell UO.out (range_kept XR2.out hS.out))
          refine VFrom.cons (VStep.val _ rfl _ rfl (cv X) rfl trivial (fun ev wq hS he hr => ?_)) ?_
          · have r0 : ev (.tmp 8) = .pointer (some ⟨M, 0, none⟩) := hr (8, none) (by simp); have hk := he.1; clear hr he
            exact exec_load rfl r0 (load_cell YO.out (range_of (HZ.out.kept hS.out (fun h => h))))
          refine VFrom.cons (VStep.call _ rfl _ rfl (cv Y) rfl trivial 45 #[cv u, cv X] (fun ev wq hS he hr => ?_) (fun wq hS => ?_)) ?_
          · have r0 : ev (.tmp 49) = cv u := hr (49, some 11) (by simp); have r1 : ev (.tmp 50) = cv X := hr (50, some 12) (by simp); have hk := he.1; have hf := he.2; clear hr he
            go_simp
          · exact (CY.out wq).mono fun e w' ⟨h1, h2⟩ => ⟨h1, hS.out.trans h2 (fun _ _ h => h)⟩
          refine VFrom.cons (VStep.val _ rfl _ rfl (.pointer (some ⟨C, k * 18, none⟩)) rfl trivial (fun ev wq hS he hr => ?_)) ?_
          · have r0 : ev (.tmp 41) = .slice (some ⟨C, 0, none⟩) n cap := hr (41, some 3) (by simp); have r1 : ev (.tmp 42) = .int .i64 (k : Int) := hr (42, some 4) (by simp); have hk := he.1; clear hr he
            have e1 := PZ.out; have e2 := PL.out; have e3 := PT.out; have e4 := FC.out
            go_simp
          exact VFrom.nil
        case hS => exact hid ((Kp.refl Nb W2).drew)
        case hend =>
          intro af wy haf kh
          have HE := HA2.out.kept kh.out (fun h => h)
          have HA3 : Hid (Blk (wy.setCells C (k * 18) (cl Y)) C 41 (rws (subP a b (k + 1)) ++ rest)) := hid (by rw [HQ.out]; exact flat_put HE OK.out.len k Y (by rw [LEN.out]; exact HPN.out) (cl_length YO2.out))
          have HK3 : Hid (Kp (Jb C) w4 (wy.setCells C (k * 18) (cl Y))) := hid (Kp.setCells (S := Jb C) (fun _ => show C = C from rfl) _ _ _ (HK2.out.trans kh.out (fun _ _ h => h.elim)))
          refine cv_put (x := Y) (o := k * 18) (ad := .tmp 52) (v := .tmp 51) YO2.out (flat_there HE OK.out.len k (by rw [LEN.out]; exact HPN.out)) rfl (by rw [haf.out]; kernel_rfl) (by rw [haf.out]; kernel_rfl) ?_
          rw [haf.out]
          clear haf kh HE
          simp only [putAll, List.zip_cons_cons, List.zip_nil_right, List.foldl_cons, List.foldl_nil, Act.put, List.setIfInBounds_toArray, List.set_cons_zero, List.set_cons_succ]
          go_wp2
          go_roundw
          case rel => exact ⟨k + 1, by omega, by go_num, HA3, HK3⟩
          case measure => simp [intOf]; omega
      · obtain rfl : k = n := by omega
        have B5 := B4.out.kept HK.out (fun h => HNE.out h)
        have S7 : Hid (SkAt wr B C (subS a b)) := hid ⟨subP_ok AO.out _, ⟨cap, rest, by rw [show (subS a b).length = a.length from subP_length _ _ _, HN.out.1]; exact B5, by unfold subS; rw [HN.out.1]; exact HA.out, by rw [show (subS a b).length = a.length from subP_length _ _ _, HN.out.1]; exact FC.out.1, by unfold maxLen; exact FC.out.2⟩, by rw [show (subS a b).length = a.length from subP_length _ _ _]; exact POS.out, HNE.out⟩
        have K7 := hid (K4.out.trans HK.out (fun i hi h => by have h' : i = C := h; have := LL.out; omega))
        clear B5 HA HK
        go_wp2
        go_ret2
        exact ⟨B, C, rfl, S7.out, LL.out.1, LL.out.2.1, K7.out⟩

end Go.Proofs.Yteedceepoindeaa

namespace Go.Proofs.Yteedceepoindeaa
open Go.RowKit Go.Shelf
attribute [local go_sem] Oper.semAt_some

set_option maxRecDepth 100000 in
set_option maxHeartbeats 4000000 in
theorem rput_any (s : Int) (t : Nat) (v : Value) (cs : List Cel) (m : List Int) (w : World) (h : RowsSl cl c0 18 w v cs) (ho : AllOk cs) (hm : MarkOk m) (hn : cs.length = 3 * t) (h0 : 0 < t) (h1 : t ≤ 512) :
    Calls Try.prog 24 #[v, markV m, .int .i64 s] w fun e w' => ∃ g cap rest, e = .returned (.slice (some ⟨g, 0, none⟩) cs.length cap) ∧ w.heap.size ≤ g ∧ Blk w' g 41 (rws (updP (signC s) t m cs 3) ++ rest) ∧ cs.length ≤ cap ∧ cap ≤ maxLen ∧ Kp Nb w w' := by
  rcases h with ⟨_, rfl⟩ | ⟨blk, off, cap, rfl, hc, hm', hcell⟩
  · simp at hn; omega
  obtain ⟨i0, z, hi, hz0, hz1, hz2, hz3⟩ := cell_info3
  have A := hid (rws_cell ho hcell)
  have HLR := hid (flatR_length cs ho.len)
  have HOK := hid ho
  have HM := hid hm
  obtain ⟨n, hnn⟩ : ∃ n, n = cs.length := ⟨_, rfl⟩
  have HNN := hid hnn
  have HT : Hid (0 < t ∧ t ≤ 512) := hid ⟨h0, h1⟩
  have HN3 : Hid (n = 3 * t) := hid (by rw [hnn, hn])
  obtain ⟨X, hX⟩ : ∃ X, X = ofC m := ⟨_, rfl⟩
  have XO : Hid (CelOk X) := hid (by rw [hX]; exact ofC_ok hm)
  have HXE := hid hX
  have CO : Hid (∀ w, Calls Try.prog 48 #[markV m] w fun e w' => e = .returned (cv X) ∧ Kp Nb w w') := hid (fun w => by rw [hX]; exact rof_any m w HM.out)
  have CPL : Hid (∀ w, Calls Try.prog 16 #[.int .i64 (n : Int), markV m] w fun e w' => e = .returned (plcV t m) ∧ Kp Nb w w') := hid (fun w => by
    have h := rplaces_any t m w HM.out h0 h1
    rw [← hn, ← hnn] at h
    exact h)
  rw [← hnn] at hc ⊢
  have FB := hid (show n ≤ 1536 ∧ 0 < n ∧ n ≤ maxLen from ⟨by omega, by omega, by unfold maxLen; omega⟩)
  obtain ⟨W, hW⟩ : ∃ W, W = w.alloc (.cells (markL m).toArray 23) := ⟨_, rfl⟩
  have H3 : Hid (Blk W w.heap.size 23 (markL m)) := hid (by rw [hW]; exact Blk.new w _ _)
  have K3 : Hid (Kp Nb w W) := hid (by rw [hW]; exact (Kp.refl Nb w).alloc _)
  have HSZ : Hid (W.heap.size = w.heap.size + 1) := hid (by rw [hW]; simp)
  clear hcell ho hm hn h0 h1 hX hnn hm' hc
  go_enter Try.func24, Try.ntmps24
  go_upto_region 1 with fail
  rw [show w.alloc (.cells (markL m).toArray 23) = W from hW.symm]
  clear hW
  go_wp2_with (at_builtin; refine wpList_append_own _ rfl _ _ 35 rfl W.heap.size 41 i0 z 18 32 Try.underlying35 hi hz0 hz1 hz2 hz3 (by decide) _ _ _ rfl (World.ownsRow_made W #[] 0 (Nat.le_refl _) (Nat.zero_le _) rfl) ⟨blk, off, none⟩ n cap (rws cs) rfl ?qc1 ?qc2 ?qc3 ?qc4 ?qc5 ?qc6 ?_)
  case qc1 => rw [HNN.out]; exact HLR.out
  case qc2 =>
    intro j u hj
    refine Lib.cell?_alloc_some _ ?_
    rw [add_mid]
    exact K3.out.cell (A.out j u hj) (fun h => h)
  case qc3 => exact rws_one
  case qc4 => rw [Nat.zero_add]; exact FB.out.2.2
  case qc5 => have := FB.out; omega
  case qc6 => simp
  intro v' w1 hown hgrow hnil
  have hk := ((Kp.refl Nb W).alloc (.cells #[] 41)).grown hgrow (fun k hk h => by simp [Value.ownBlock] at hk; omega)
  obtain ⟨C, cp, rest, rfl, hg, hb, hn, hx⟩ := own_blk (by simpa using hown) FB.out.2.1
  have B4 := hid hb
  have H4 := hid (H3.out.kept hk (fun h => h))
  have K4 := hid (K3.out.trans hk (fun _ _ h => h))
  have LL := hid (show w.heap.size < C from by have := HSZ.out; omega)
  have FC : Hid (n ≤ cp ∧ cp ≤ maxLen) := hid ⟨hn, hx⟩
  unfold maxLen at hx
  obtain ⟨N, hN⟩ : ∃ N, w.heap.size = N := ⟨_, rfl⟩
  have LN : Hid (w.heap.size ≤ C ∧ N < C) := hid ⟨by have := LL.out; omega, by have := LL.out; omega⟩
  rw [hN] at H4 ⊢
  clear hN hown hgrow hnil hg hb hk H3 K3 HSZ A HLR
  go_wp2_with (refine wpList_load_mid (by rfl) 23 (.tmp 4) (by rfl) N 0 (by rfl) (markL m) _ (range_of H4.out) under_mark rfl (mark_infoL m HM.out.len) ?_)
  refine (CPL.out _).mono ?_
  rintro e w6 ⟨rfl, k6⟩
  have H6 := hid (H4.out.kept k6 (fun h => h))
  have C6 : Hid (Blk w6 C 41 (rws (updP (signC s) t m cs 0) ++ rest)) := hid (B4.out.kept k6 (fun h => h))
  have K6 := hid (K4.out.trans k6 (fun _ _ h => h))
  clear k6 H4 B4 K4 CPL
  go_wp2
  go_loopw [17] (UpdR w6 C rest (updP (signC s) t m cs)) (fun i _ => 3 - (intOf i).toNat)
  case atStart => exact ⟨0, by omega, rfl, C6, Kp.refl _ _⟩
  case round =>
    clear C6
    obtain ⟨k, hk, rfl, HA, HK⟩ := hrel
    by_cases hlt : k < 3
    · have IX := hid (idx_plc t m k hlt)
      have hp := plc_lt t m k HT.out.1 hlt
      have PN : plc t m k < n := by rw [HN3.out]; exact hp
      have OK := hid (updP_ok (g := signC s) (fun _ _ => signC_ok) t m HOK.out k)
      have LEN : Hid ((updP (signC s) t m cs k).length = n) := hid (by rw [updP_length, HNN.out])
      have HQ : Hid (updP (signC s) t m cs (k + 1) = (updP (signC s) t m cs k).set (plc t m k) (signC s (celAt (updP (signC s) t m cs k) (plc t m k)) X)) := hid (by rw [HXE.out]; rfl)
      have XR := hid (flat_range (z := c0) HA.out OK.out.len (plc t m k) (by rw [LEN.out]; exact PN) (cl_length (OK.out.at _)))
      have UO := hid (OK.out.at (plc t m k))
      have XR' : Hid (wr.rangeAt C (plc t m k * 18) (cl (celAt (updP (signC s) t m cs k) (plc t m k)))) := XR
      clear XR hp
      generalize celAt (updP (signC s) t m cs k) (plc t m k) = u at HQ XR' UO
      generalize plc t m k = p at HQ XR' IX PN
      generalize updP (signC s) t m cs k = ck at HA OK LEN HQ
      obtain ⟨Y, hY⟩ : ∃ Y, Y = signC s u X := ⟨_, rfl⟩
      rw [← hY] at HQ
      have YO : Hid (CelOk Y) := hid (by rw [hY]; exact signC_ok)
      have CY : Hid (∀ w, Calls Try.prog 47 #[cv u, cv X, .int .i64 s] w fun e w' => e = .returned (cv Y) ∧ Kp Nb w w') := hid (fun w => by rw [hY]; exact radd_any s u X w UO.out XO.out)
      have X7 := hid (H6.out.kept HK.out (fun h => by have h' : N = C := h; have := LN.out; omega))
      have PZ : Hid ((0 : Int) ≤ (p : Int)) := hid (by omega)
      have PL : Hid ((p : Int) < (n : Int)) := hid (by omega)
      have PT : Hid (((p : Nat) : Int).toNat = p) := hid (by omega)
      have HPN := hid PN
      have i1 := IX.out
      clear hY PN
      go_upto_region 5 with fail
      refine region_vals_last (n := 11) [none, none, none, none, none, none, none, none, none, none, none, none, none, none, none, none, none, none, none, none, some 0, some 1, some 2, some 3, some 4, some 5, some 6, some 7, some 8, some 9, some 10, none, none] [[(7, none)], [(9, none)], [(7, none)], [(9, none)], [(22, some 2), (23, some 3)], [(24, some 4)], [(4, none)], [(26, some 6)], [(2, none)], [(25, some 5), (27, some 7), (28, some 8)], [(20, some 0), (21, some 1)], [(30, some 10), (29, some 9)]] [some 20, some 21, some 22, some 23, some 24, some 25, some 26, some 27, some 28, some 29, some 30] [.slice (some ⟨C, 0, none⟩) n cp, .int .i64 (p : Int), .slice (some ⟨C, 0, none⟩) n cp, .int .i64 (p : Int), .pointer (some ⟨C, p * 18, none⟩), cv u, markV m, cv X, .int .i64 s, cv Y, .pointer (some ⟨C, p * 18, none⟩)] (fun w' => Hid (Kp Nb wr w')) (by kernel_rfl) (by kernel_rfl) (by kernel_rfl) (by kernel_rfl) ({ dst := none, op := Op.store 41 (Operand.tmp 30) (Operand.tmp 29), type := 0, pos := "ref.go:28", after := #[{ on := 10, ground := Ground.data }, { on := 9, ground := Ground.data }, { on := 9, ground := Ground.chain }, { on := 0, ground := Ground.phase }, { on := 1, ground := Ground.phase }, { on := 2, ground := Ground.phase }, { on := 3, ground := Ground.phase }, { on := 4, ground := Ground.phase }, { on := 5, ground := Ground.phase }, { on := 6, ground := Ground.phase }, { on := 7, ground := Ground.phase }, { on := 8, ground := Ground.phase }, { on := 9, ground := Ground.phase }], guard := none }) rfl rfl (by kernel_rfl) (by kernel_rfl) ?hS (?hstep : VFrom _ _ _ _ _ _ 0 11).start ?hend
      case hstep =>
        refine VFrom.cons (VStep.val _ rfl _ rfl (.slice (some ⟨C, 0, none⟩) n cp) rfl trivial (fun ev wq hS he hr => ?_)) ?_
        · have r0 : ev (.tmp 7) = .slice (some ⟨C, 0, none⟩) n cp := hr (7, none) (by simp); have hk := he.1; clear hr he
          go_simp
        refine VFrom.cons (VStep.val _ rfl _ rfl (.int .i64 (p : Int)) rfl trivial (fun ev wq hS he hr => ?_)) ?_
        · have r0 : ev (.tmp 9) = .int .i64 (p : Int) := hr (9, none) (by simp); have hk := he.1; clear hr he
          go_simp
        refine VFrom.cons (VStep.val _ rfl _ rfl (.slice (some ⟨C, 0, none⟩) n cp) rfl trivial (fun ev wq hS he hr => ?_)) ?_
        · have r0 : ev (.tmp 7) = .slice (some ⟨C, 0, none⟩) n cp := hr (7, none) (by simp); have hk := he.1; clear hr he
          go_simp
        refine VFrom.cons (VStep.val _ rfl _ rfl (.int .i64 (p : Int)) rfl trivial (fun ev wq hS he hr => ?_)) ?_
        · have r0 : ev (.tmp 9) = .int .i64 (p : Int) := hr (9, none) (by simp); have hk := he.1; clear hr he
          go_simp
        refine VFrom.cons (VStep.val _ rfl _ rfl (.pointer (some ⟨C, p * 18, none⟩)) rfl trivial (fun ev wq hS he hr => ?_)) ?_
        · have r0 : ev (.tmp 22) = .slice (some ⟨C, 0, none⟩) n cp := hr (22, some 2) (by simp); have r1 : ev (.tmp 23) = .int .i64 (p : Int) := hr (23, some 3) (by simp); have hk := he.1; clear hr he
          have e1 := PZ.out; have e2 := PL.out; have e3 := PT.out; have e4 := FC.out; unfold maxLen at e4
          go_simp
        refine VFrom.cons (VStep.val _ rfl _ rfl (cv u) rfl trivial (fun ev wq hS he hr => ?_)) ?_
        · have r0 : ev (.tmp 24) = .pointer (some ⟨C, p * 18, none⟩) := hr (24, some 4) (by simp); have hk := he.1; clear hr he
          exact exec_load rfl r0 (load_cell UO.out (range_kept XR'.out hS.out))
        refine VFrom.cons (VStep.val _ rfl _ rfl (markV m) rfl trivial (fun ev wq hS he hr => ?_)) ?_
        · have r0 : ev (.tmp 4) = .pointer (some ⟨N, 0, none⟩) := hr (4, none) (by simp); have hk := he.1; clear hr he
          exact exec_load rfl r0 (load_mark HM.out (range_of (X7.out.kept hS.out (fun h => h))))
        refine VFrom.cons (VStep.call _ rfl _ rfl (cv X) rfl trivial 48 #[markV m] (fun ev wq hS he hr => ?_) (fun wq hS => ?_)) ?_
        · have r0 : ev (.tmp 26) = markV m := hr (26, some 6) (by simp); have hk := he.1; have hf := he.2; clear hr he
          go_simp
        · exact (CO.out wq).mono fun e w' ⟨h1, h2⟩ => ⟨h1, hS.out.trans h2 (fun _ _ h => h)⟩
        refine VFrom.cons (VStep.val _ rfl _ rfl (.int .i64 s) rfl trivial (fun ev wq hS he hr => ?_)) ?_
        · have r0 : ev (.tmp 2) = .int .i64 s := hr (2, none) (by simp); have hk := he.1; clear hr he
          go_simp
        refine VFrom.cons (VStep.call _ rfl _ rfl (cv Y) rfl trivial 47 #[cv u, cv X, .int .i64 s] (fun ev wq hS he hr => ?_) (fun wq hS => ?_)) ?_
        · have r0 : ev (.tmp 25) = cv u := hr (25, some 5) (by simp); have r1 : ev (.tmp 27) = cv X := hr (27, some 7) (by simp); have r2 : ev (.tmp 28) = .int .i64 s := hr (28, some 8) (by simp); have hk := he.1; have hf := he.2; clear hr he
          go_simp
        · exact (CY.out wq).mono fun e w' ⟨h1, h2⟩ => ⟨h1, hS.out.trans h2 (fun _ _ h => h)⟩
        refine VFrom.cons (VStep.val _ rfl _ rfl (.pointer (some ⟨C, p * 18, none⟩)) rfl trivial (fun ev wq hS he hr => ?_)) ?_
        · have r0 : ev (.tmp 20) = .slice (some ⟨C, 0, none⟩) n cp := hr (20, some 0) (by simp); have r1 : ev (.tmp 21) = .int .i64 (p : Int) := hr (21, some 1) (by simp); have hk := he.1; clear hr he
          have e1 := PZ.out; have e2 := PL.out; have e3 := PT.out; have e4 := FC.out; unfold maxLen at e4
          go_simp
        exact VFrom.nil
      case hS => exact hid ((Kp.refl Nb wr).drew)
      case hend =>
        intro af wy haf kh
        have HE := HA.out.kept kh.out (fun h => h)
        have HA3 : Hid (Blk (wy.setCells C (p * 18) (cl Y)) C 41 (rws (updP (signC s) t m cs (k + 1)) ++ rest)) := hid (by rw [HQ.out]; exact flat_put HE OK.out.len p Y (by rw [LEN.out]; exact HPN.out) (cl_length YO.out))
        have HK3 : Hid (Kp (Jb C) w6 (wy.setCells C (p * 18) (cl Y))) := hid (Kp.setCells (S := Jb C) (fun _ => show C = C from rfl) _ _ _ (HK.out.trans kh.out (fun _ _ h => h.elim)))
        refine cv_put (x := Y) (o := p * 18) (ad := .tmp 30) (v := .tmp 29) YO.out (flat_there HE OK.out.len p (by rw [LEN.out]; exact HPN.out)) rfl (by rw [haf.out]; kernel_rfl) (by rw [haf.out]; kernel_rfl) ?_
        rw [haf.out]
        clear haf kh HE
        simp only [putAll, List.zip_cons_cons, List.zip_nil_right, List.foldl_cons, List.foldl_nil, Act.put, List.setIfInBounds_toArray, List.set_cons_zero, List.set_cons_succ]
        go_wp2
        go_roundw
        case rel => exact ⟨k + 1, by omega, by go_num, HA3, HK3⟩
        case measure => simp [intOf]; omega
    · obtain rfl : k = 3 := by omega
      have K7 := hid (K6.out.trans HK.out (fun i hi h => by have h' : i = C := h; have := LN.out; omega))
      clear HK
      go_wp2
      go_ret
      exact ⟨C, cp, rest, rfl, LN.out.1, HA.out, FC.out.1, FC.out.2, K7.out⟩

theorem sign_one : signC 1 = addC := funext fun x => funext fun y => signC_one x y
theorem sign_neg : signC (-1) = subC := funext fun x => funext fun y => signC_neg x y
theorem rput_sl (s : Int) (t : Nat) (v : Value) (cs : List Cel) (m : List Int) (w : World) (h : RowsSl cl c0 18 w v cs) (ho : AllOk cs) (hm : MarkOk m) (hn : cs.length = 3 * t) (h0 : 0 < t) (h1 : t ≤ 512) :
    Calls Try.prog 24 #[v, markV m, .int .i64 s] w fun e w' => ∃ v', e = .returned v' ∧ RowsSl cl c0 18 w' v' (updP (signC s) t m cs 3) ∧ Kp Nb w w' :=
  (rput_any s t v cs m w h ho hm hn h0 h1).mono fun e w' ⟨g, cap, rest, he, _, hb, hc, hx, hk⟩ => by
    refine ⟨_, he, .inr ⟨g, 0, cap, by rw [updP_length], by rw [updP_length]; exact hc, hx, fun i hi => ?_⟩, hk⟩
    have ok := updP_ok (g := signC s) (fun _ _ => signC_ok) t m ho 3
    rw [Nat.zero_add]
    exact flat_range hb ok.len i hi (cl_length (ok.at i))
def RofR (w : World) (t : Nat) (ms : List (List Int)) (i u : Value) (wr : World) : Prop := ∃ k : Nat, k ≤ ms.length ∧ i = .int .i64 k ∧ Hid (RowsSl cl c0 18 wr u (ofS t (ms.take k))) ∧ Hid (AllOk (ofS t (ms.take k))) ∧ Hid (Kp Nb w wr)
set_option maxRecDepth 100000 in
set_option maxHeartbeats 4000000 in
theorem rsof_any (t : Nat) (v : Value) (ms : List (List Int)) (w : World) (h0 : 0 < t) (h1 : t ≤ 512) (hs : MkSl w v ms) :
    Calls Try.prog 37 #[.int .i64 ((3 * t : Nat) : Int), v] w fun e w' => ∃ v', e = .returned v' ∧ RowsSl cl c0 18 w' v' (ofS t ms) ∧ Kp Nb w w' := by
  obtain ⟨y, d, rfl⟩ := hs.shape
  obtain ⟨n, hn⟩ : ∃ n, 3 * t = n := ⟨_, rfl⟩
  rw [hn]
  have MK := make_zero w n (by omega)
  have HS := hid hs
  have HN := hid hn
  have HT : Hid (0 < t ∧ t ≤ 512) := hid ⟨h0, h1⟩
  obtain ⟨zs, hz⟩ : ∃ zs, zs = rws (zeroS n) := ⟨_, rfl⟩
  rw [← hz] at MK
  obtain ⟨W, hW⟩ : ∃ W, W = w.alloc (.cells zs.toArray 41) := ⟨_, rfl⟩
  have S0 : Hid (RowsSl cl c0 18 W (.slice (some ⟨w.heap.size, 0, none⟩) n n) (ofS t (ms.take 0))) := hid (by
    have hb : Blk W w.heap.size 41 (rws (zeroS n) ++ []) := by rw [List.append_nil, ← hz, hW]; exact Blk.new w _ _
    unfold ofS
    rw [List.take_zero, hn]
    refine .inr ⟨_, 0, n, by rw [List.foldl_nil, zeroS_length], by rw [List.foldl_nil, zeroS_length]; exact Nat.le_refl _, by unfold maxLen; omega, fun i hi => ?_⟩
    rw [Nat.zero_add]
    exact flat_range hb (zeroS_ok n).len i hi (cl_length ((zeroS_ok n).at i)))
  have O0 : Hid (AllOk (ofS t (ms.take 0))) := hid (by unfold ofS; rw [List.take_zero]; exact zeroS_ok _)
  have K0 : Hid (Kp Nb w W) := hid (by rw [hW]; exact (Kp.refl Nb w).alloc _)
  have HM := hid hs.1
  clear hs hn h0 h1 hz
  go_enter Try.func37, Try.ntmps37
  go_wp2
  rw [show w.alloc (.cells zs.toArray 41) = W from hW.symm]
  clear hW MK
  go_loopw [12, 5] (RofR w t ms) (fun i _ _ => ms.length - (intOf i).toNat)
  case atStart => exact ⟨0, by omega, rfl, S0, O0, K0⟩
  case round =>
    clear S0 K0 O0
    obtain ⟨k, hk, rfl, HA, OK, HK⟩ := hrel
    by_cases hlt : k < ms.length
    · have hC := HS.out.kept HK.out
      rcases hC.2 with ⟨_, e0⟩ | ⟨blk, off, cap, e1, hc, hm, hcell⟩
      · rw [e0] at hlt
        exact absurd hlt (Nat.not_lt_zero _)
      · injection e1 with e1 _ e2
        subst e1 e2
        have HR := hid (hcell k hlt)
        have M1 := hid (hC.1 k)
        have HQ := hid (ofS_snoc t ms k hlt)
        have HL := hid (ofS_length t (ms.take k))
        unfold maxLen at hm
        generalize markAt ms k = z at HR M1 HQ
        generalize ofS t (ms.take k) = cs at HA HQ HL OK
        have hz := Blk.new wr 23 (markL (List.replicate 16 0))
        obtain ⟨W2, hW2⟩ : ∃ W, W = (wr.alloc (.cells (markL (List.replicate 16 0)).toArray 23)).setCells wr.heap.size 0 (markL z) := ⟨_, rfl⟩
        have kW : Kp Nb wr W2 := by rw [hW2]; exact Kp.setCells (fun h => absurd h (Nat.lt_irrefl _)) _ 0 _ ((Kp.refl Nb wr).alloc _)
        have TH := hid (mark_there hz (by rw [markL_length]; rfl) M1.out)
        have SI := hid (mark_sized M1.out)
        have ON := hid (all_oneCell_toArray (markL_one z))
        have HZ : Hid (Blk W2 wr.heap.size 23 (markL z)) := hid (by rw [hW2]; exact row_set hz (by rw [markL_length, markL_length, M1.out.len]; rfl))
        have HA1 := hid (HA.out.kept kW)
        have HK1 := hid (HK.out.trans kW (fun _ _ h => h))
        have CP := hid (rput_sl 1 t _ cs z W2 HA1.out OK.out M1.out HL.out HT.out.1 HT.out.2)
        clear hz kW hcell hC
        go_upto_region 5 with (first
          | (refine wpList_load_mid (by rfl) 23 (.tmp 14) (by rfl) blk (off + k * 16) (by rfl) (markL z) _ HR.out under_mark rfl (mark_infoL z M1.out.len) ?_)
          | (refine wpList_store_mid (by rfl) 23 (.tmp 7) (.tmp 15) (by rfl) wr.heap.size 0 (markL z).toArray (by rfl) (by rfl) TH.out SI.out ON.out ?_))
        rw [show (wr.alloc (.cells #[.int .u8 0, .int .u8 0, .int .u8 0, .int .u8 0, .int .u8 0, .int .u8 0, .int .u8 0, .int .u8 0, .int .u8 0, .int .u8 0, .int .u8 0, .int .u8 0, .int .u8 0, .int .u8 0, .int .u8 0, .int .u8 0] 23)).setCells wr.heap.size 0 (markL z) = W2 from hW2.symm]
        clear hW2 TH SI ON
        go_wp2_with (refine wpList_load_mid (by rfl) 23 (.tmp 7) (by rfl) wr.heap.size 0 (by rfl) (markL z) _ (range_of HZ.out) under_mark rfl (mark_infoL z M1.out.len) ?_)
        refine CP.out.mono ?_
        rintro e w3 ⟨v3, rfl, s3, k3⟩
        obtain ⟨y3, d3, rfl⟩ := s3.shape
        have HA3 : Hid (RowsSl cl c0 18 w3 (.slice y3 (updP (signC 1) t z cs 3).length d3) (ofS t (ms.take (k + 1)))) := hid (by rw [HQ.out, ← sign_one]; exact s3)
        have OK3 : Hid (AllOk (ofS t (ms.take (k + 1)))) := hid (by rw [HQ.out]; exact updP_ok (fun _ _ => addC_ok) t z OK.out 3)
        have HK3 := hid (HK1.out.trans k3 (fun _ _ h => h))
        clear s3 k3 HA1 HK1 CP
        go_wp2
        go_roundw
        case rel => exact ⟨k + 1, by omega, by go_num, HA3, OK3, HK3⟩
        case measure => simp [intOf]; omega
    · obtain rfl : k = ms.length := by omega
      have HA3 := HA.out
      rw [List.take_length] at HA3
      have HA4 := hid HA3
      obtain ⟨y3, d3, rfl⟩ := HA3.shape
      clear HA HA3
      go_wp2
      go_ret
      exact ⟨_, rfl, HA4.out, HK.out⟩

end Go.Proofs.Yteedceepoindeaa
