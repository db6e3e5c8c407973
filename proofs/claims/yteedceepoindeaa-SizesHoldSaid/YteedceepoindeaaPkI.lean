/-
  Layer 11: a sketch's cells gone through (Cells), the iterator. Conditions: cells are what their kinds hold.
  Layer 11: a sketch's first cells (the statements' own Cells). Conditions: no more than 100000 cells.
  Layer 11: Cells as a slice; the reference's Fits, Same; places for what doesn't fit. Conditions: ints; no more than 100000 cells.
-/
import Derived.Test.YteedceepoindeaaIbE
import Derived.Test.YteedceepoindeaaColl
import Derived.RangeFuncNested
import Derived.RangeFuncBound
import Derived.RangeFuncCalls
import Derived.RangeFuncLeaves
import Derived.Shelf.Abstract
import Derived.Shelf.RegionOpen
import Derived.OwnWalkIn
import Derived.TacticsInMore
import Derived.LoopNIn
import Derived.LoopIn
import Derived.Test.YteedceepoindeaaIbCr
namespace Go.Proofs.Yteedceepoindeaa
open Go.RowKit Go.Shelf
attribute [local go_sem] Oper.semAt_some

section
variable {F : Fence} {n : Nat} {P : Program} {w w' : World} {ops : Array Oper} {rest : List Oper} {o : Oper} {a : Act} {Q : Exit → Act → World → Prop}
theorem wpListIn_load (hg : o.guard = none) (T : TypeId) (x : Operand) (hop : o.op = .load T x) {p : Addr} (hx : a.eval x = .pointer (some p)) {v : Value} (hl : (Instr.loadAt T (.pointer (some p))).run P w = .ok v w)
    (hK : wpListIn F n P ops Q rest (a.put o.dst v) w) : wpListIn F n P ops Q (o :: rest) a w := by
  refine wpListIn_plain hg fun K hK' => ?_
  unfold Oper.wpIn
  refine ⟨?_, ?_⟩
  · simp [Oper.about, hop]
  · rw [Oper.semAt_plain F _ _ (by rw [hop]; intro c hc'; cases hc')]
    simp only [execOp, hop, hx, Sem.run_bind, Sem.run_pure, Result.andThen_ok, hl]
    exact hK' _ _ hK
theorem wpListIn_store (hg : o.guard = none) (T : TypeId) (x y : Operand) (hop : o.op = .store T x y) {p : Addr} (hx : a.eval x = .pointer (some p)) {v : Value} (hy : a.eval y = v) (hl : (Instr.storeAt T (.pointer (some p)) v).run P w = .ok () w')
    (hK : wpListIn F n P ops Q rest (a.put o.dst undef) w') : wpListIn F n P ops Q (o :: rest) a w := by
  refine wpListIn_plain hg fun K hK' => ?_
  unfold Oper.wpIn
  refine ⟨?_, ?_⟩
  · simp [Oper.about, hop]
  · rw [Oper.semAt_plain F _ _ (by rw [hop]; intro c hc'; cases hc')]
    simp only [execOp, hop, hx, hy, Sem.run_bind, Sem.run_pure, Result.andThen_ok, hl]
    exact hK' _ _ hK
end

theorem range_snoc {α : Type} (f : Nat → α) (k : Nat) : (List.range (k + 1)).map f = (List.range k).map f ++ [f k] := by simp [List.range_succ]
theorem range_take (cs : List Cel) (k : Nat) (h : k ≤ cs.length) : (List.range k).map (celAt cs) = cs.take k := by
  apply List.ext_getElem
  · simp; omega
  · intro i h1 h2
    simp only [List.length_map, List.length_range] at h1
    simp only [List.getElem_map, List.getElem_range, List.getElem_take]
    unfold celAt
    rw [List.getElem?_eq_getElem (by omega)]
    rfl
theorem Blk.keptL {Cs : List Nat} {w w' : World} {B t : Nat} {vs : List Value} (h : Blk w B t vs) (k : KpL Cs w w') (hB : B ∈ Cs) : Blk w' B t vs := (k B hB).trans h
theorem SkAt.keptL {Cs : List Nat} {w w' : World} {B C : Nat} {cs : List Cel} (h : SkAt w B C cs) (k : KpL Cs w w') (hB : B ∈ Cs) (hC : C ∈ Cs) : SkAt w' B C cs := by
  obtain ⟨cap, rest, h1, h2, h3⟩ := h.at'
  exact ⟨h.ok, ⟨cap, rest, h1.keptL k hB, h2.keptL k hC, h3⟩, h.pos, h.ne⟩

set_option maxRecDepth 100000 in
set_option maxHeartbeats 2000000 in
theorem cells1_in (m : Nat) (hm : 1 ≤ m) (l Bb B C : Nat) (cs : List Cel) (hbig : cs.length ≤ 100000) (J Jx : List Nat → World → Prop)
    (hY : ∀ (pre : List Nat) (x : Nat) (W : World), J pre W → pre.length < cs.length → YieldAt Fence.wide (m - 1) Try.prog l #[.int .i64 (x : Int), cv (celAt cs x)] W fun r W' =>
      (r = .returned (.bool true) ∧ J (pre ++ [x]) W' ∧ KpL [Bb, B, C] W W') ∨ (r = .returned (.bool false) ∧ Jx (pre ++ [x]) W'))
    (W : World) (hE : W.cell? ⟨Bb, 0, none⟩ = some (.pointer (some ⟨B, 0, none⟩))) (hs : SkAt W B C cs) (h0 : J [] W) :
    CallsIn Fence.wide m Try.prog 65 #[.func (.yield l) #[] #[], .pointer (some ⟨Bb, 0, none⟩)] W fun r W' => (∃ v, r = .returned v) ∧
      ((∃ ys, ys = List.range cs.length ∧ J ys W') ∨ (∃ pre, (∃ k, k ≤ cs.length ∧ pre = List.range k) ∧ Jx pre W')) := by
  have HY := hid hY
  have HE := hid hE
  have HJ := hid h0
  have HB := hid hbig
  have HS := hid hs
  have CZ : Hid (Calls Try.prog 14 #[.pointer (some ⟨B, 0, none⟩)] W fun e w' => e = .returned (.int .i64 cs.length) ∧ W = w') := hid (size_any B C cs W hs)
  have cE := HE.out
  clear hs hY hE h0 hbig
  refine callsIn_of_wp Try.func65 rfl trivial ?_ rfl
  simp only [Try.ntmps65, List.size_toArray, List.length_cons, List.length_nil, Nat.reduceAdd, Nat.reduceSub, Array.replicate_succ, Array.replicate_zero, List.push_toArray, List.append_toArray, List.nil_append, List.cons_append]
  gi_wp2_with (refine ⟨trivial, ?_⟩; gi_at_call 14; refine (callsIn_wide.2 CZ.out).mono ?_; rintro r w' ⟨rfl, rfl⟩)
  gi_loopw [6] (fun i wr => ∃ k : Nat, k ≤ cs.length ∧ i = .int .i64 k ∧ Hid (J (List.range k) wr) ∧ Hid (KpL [Bb, B, C] W wr)) (fun i _ => cs.length - (intOf i).toNat)
  case atStart => exact ⟨0, Nat.zero_le _, rfl, HJ, fun _ _ => rfl⟩
  case round =>
    obtain ⟨k, hk, rfl, hJk, hK⟩ := hrel
    have cE2 := (hK.out.cell (b := Bb) (by simp) 0).trans HE.out
    by_cases hlt : k < cs.length
    · obtain ⟨cap, hb, hs⟩ := (HS.out.keptL hK.out (by simp) (by simp)).sl
      have cB := hb.cell 0
      simp only [List.getElem?_cons_zero] at cB
      rcases hs with ⟨_, he⟩ | ⟨blk, off, cap', e1, hc, hm', hcell⟩
      · rw [he] at hlt; simp at hlt
      injection e1 with e1 e2 e3
      injection e1 with e1
      injection e1 with e1 e4 e5
      subst e1 e4 e3
      have HR := hcell k hlt
      rw [Nat.zero_add] at HR
      have HL := hid (load_cell (HS.out.ok.at k) HR)
      unfold maxLen at hm'
      obtain ⟨fn, tmps, assign, body, hy, hR⟩ := HY.out _ k wr hJk.out (by rw [List.length_range]; exact hlt)
      have HRR := hid hR
      have HT : Hid (List.range (k + 1) = List.range k ++ [k]) := hid List.range_succ
      obtain ⟨x, hx⟩ : ∃ x, celAt cs k = x := ⟨_, rfl⟩
      rw [hx] at HL hy
      have HLT := hid hlt
      clear hb hcell hR hx HR e5 e2
      gi_wp2_with (refine wpListIn_load rfl 41 (.tmp 16) rfl (p := ⟨C, k * 18, none⟩) (by rfl) HL.out ?_)
      refine HRR.out.mono ?_
      rintro r W3 (⟨rfl, hJ3, hK3⟩ | ⟨rfl, hJx3⟩)
      · have HJ3 : Hid (J (List.range (k + 1)) W3) := hid (by rw [HT.out]; exact hJ3)
        have HK3 := hid (kpL_t hK.out hK3)
        clear hJ3 hK3 hy cE2 cB hJk hK
        gi_wp2
        all_goals
          go_roundw
          case rel => exact ⟨k + 1, HLT.out, by go_num, HJ3, HK3⟩
          case measure => have := HLT.out; simp [intOf]; omega
      · have HJ3 : Hid (Jx (List.range (k + 1)) W3) := hid (by rw [HT.out]; exact hJx3)
        gi_wp2
        refine bodyPost_ret (results_none rfl _ _ _) rfl ?_
        exact ⟨⟨_, rfl⟩, .inr ⟨_, ⟨k + 1, HLT.out, rfl⟩, HJ3.out⟩⟩
    · obtain rfl : k = cs.length := by omega
      gi_wp2
      go_end0
      exact ⟨⟨_, rfl⟩, .inl ⟨_, rfl, hJk.out⟩⟩

theorem SkAt.keptC {w w' : World} {B C : Nat} {cs : List Cel} (h : SkAt w B C cs) (k : Below w.heap.size w w') : SkAt w' B C cs := by
  obtain ⟨cap, rest, h1, h2, h3⟩ := h.at'
  exact ⟨h.ok, ⟨cap, rest, (k.block B h1.lt).trans h1, (k.block C h2.lt).trans h2, h3⟩, h.pos, h.ne⟩
theorem cells_stops (n : Nat) (hn : 1 ≤ n) (Bb B C : Nat) (cs : List Cel) (hbig : cs.length ≤ 100000) (w : World) (bE : Boxed w Bb 25 (.pointer (some ⟨B, 0, none⟩))) (hs : SkAt w B C cs) :
    SeqStopsK Fence.wide n Try.prog 65 #[.pointer (some ⟨Bb, 0, none⟩)] (fun x : Nat => #[Value.int .i64 (x : Int), cv (celAt cs x)]) (KpL [Bb, B, C]) (fun ys => ys = List.range cs.length) (fun pre => ∃ k, k ≤ cs.length ∧ pre = List.range k) cs.length w := fun l J Jx W hW _ _ hY h0 =>
  cells1_in n hn l Bb B C cs hbig J Jx hY W ((hW.cell (p := ⟨Bb, 0, none⟩) bE.lt).trans bE.cell) (hs.keptC hW) h0

set_option maxHeartbeats 1000000 in
theorem cells0_any (B C : Nat) (cs : List Cel) (w : World) (h : SkAt w B C cs) (hbig : cs.length ≤ 100000) :
    Calls Try.prog 46 #[.pointer (some ⟨B, 0, none⟩)] w fun r w' => ∃ Bb B' C', r = .returned (.func (.func 65) #[] #[.pointer (some ⟨Bb, 0, none⟩)]) ∧ Boxed w' Bb 25 (.pointer (some ⟨B', 0, none⟩)) ∧ SkAt w' B' C' cs ∧ w.heap.size ≤ Bb ∧ w.heap.size ≤ B' ∧ w.heap.size ≤ C' ∧ Bb < w'.heap.size ∧ Kp Nb w w' := by
  have CC := hid (kclone_any B C cs w h hbig)
  clear h hbig
  go_enter Try.func46, Try.ntmps46
  go_wp2_with fail
  refine CC.out.mono ?_
  rintro e w1 ⟨B', C', rfl, s1, hB, hC, k1⟩
  obtain ⟨W, hW⟩ : ∃ W, W = w1.alloc (.cells #[.pointer (some ⟨B', 0, none⟩)] 25) := ⟨_, rfl⟩
  have b1 : Boxed W w1.heap.size 25 (.pointer (some ⟨B', 0, none⟩)) := by rw [hW]; exact Boxed.new w1 _ _
  have kW : Kp Nb w1 W := by rw [hW]; exact (Kp.refl Nb w1).alloc _
  have B1 := hid b1
  have S1 := hid (s1.kept kW (fun h => h) (fun h => h))
  have KW := hid (k1.trans kW (fun _ _ h => h))
  have HL := hid (show w.heap.size ≤ w1.heap.size ∧ w.heap.size ≤ B' ∧ w.heap.size ≤ C' ∧ w1.heap.size < W.heap.size from ⟨k1.size, hB, hC, b1.lt⟩)
  clear b1 kW s1 k1 hB hC CC
  go_wp2
  rw [show w1.alloc (.cells #[.pointer (some ⟨B', 0, none⟩)] 25) = W from hW.symm]
  clear hW
  go_ret
  exact ⟨_, B', C', rfl, B1.out, S1.out, HL.out.1, HL.out.2.1, HL.out.2.2.1, HL.out.2.2.2, KW.out⟩

end Go.Proofs.Yteedceepoindeaa

namespace Go.Proofs.Yteedceepoindeaa
open Go.RowKit Go.Shelf
attribute [local go_sem] Oper.semAt_some

theorem blk_turn {w w' : World} {B t : Nat} {vs : List Value} (h : Blk w B t vs) {row : Option Nat} (hg : w.grownBy w' row) (hr : ∀ r, row = some r → ∃ o, w.heap[r]? = some o ∧ o.isCells = false) : Blk w' B t vs := by
  refine (hg.block B h.lt (fun e => ?_)).trans h
  obtain ⟨o, ho, hc⟩ := hr _ e.symm
  rw [show w.heap[B]? = _ from h] at ho
  cases ho
  cases hc

def GcI (w : World) (Z : Nat) (cs : List Cel) (m : Int) (pre : List Nat) (W : World) : Prop :=
  ((∃ v, Boxed W (w.heap.size + 1) 35 v ∧ W.ownsRow Z 41 18 v pre.length (rws (pre.map (celAt cs))) ∧ pre.length ≤ m.toNat) ∧ Boxed W w.heap.size 3 (.int .i64 m) ∧ Z ≤ W.heap.size) ∧ Below w.heap.size w W
def GcX (w : World) (Z : Nat) (cs : List Cel) (m : Int) (c : Code) (pre' : List Nat) (W : World) : Prop :=
  (c = .exit 0 ∧ ∃ pre x, pre' = pre ++ [x] ∧ (∃ v, Boxed W (w.heap.size + 1) 35 v ∧ W.ownsRow Z 41 18 v pre.length (rws (pre.map (celAt cs)))) ∧ (pre.length = m.toNat ∨ x ≠ pre.length)) ∧ Below w.heap.size w W
theorem gcI_own (w : World) (Z : Nat) (cs : List Cel) (m : Int) {B : Nat} (hB : w.heap.size ≤ B) : OwnFrom B (GcI w Z cs m) :=
  OwnFrom.and (Own.from (fun s A W row hs hg hr => ⟨holdsRow_own Z (w.heap.size + 1) 35 41 18 (fun pre : List Nat => pre.length) (fun pre => rws (pre.map (celAt cs))) (fun pre _ => pre.length ≤ m.toNat) s A W row hs.1 hg hr, blk_turn hs.2.1 hg hr, Nat.le_trans hs.2.2 hg.size⟩) _) (ownFrom_below (Nat.le_refl _) hB)
theorem gcX_own (w : World) (Z : Nat) (cs : List Cel) (m : Int) (c : Code) {B : Nat} (hB : w.heap.size ≤ B) : OwnFrom B (GcX w Z cs m c) :=
  OwnFrom.and (Own.from (fun s A W row hs hg hr => by
    obtain ⟨hc, pre, x, e1, ⟨v, e2, e3⟩, e4⟩ := hs
    obtain ⟨v', f1, f2, -⟩ := holdsRow_own Z (w.heap.size + 1) 35 41 18 (fun pre : List Nat => pre.length) (fun pre => rws (pre.map (celAt cs))) (fun _ _ => True) pre A W row ⟨v, e2, e3, trivial⟩ hg hr
    exact ⟨hc, pre, x, e1, ⟨v', f1, f2⟩, e4⟩) _) (ownFrom_below (Nat.le_refl _) hB)
theorem rws_append (a b : List Cel) : rws (a ++ b) = rws a ++ rws b := flatR_append a b
theorem ownsRow_kp {w w' : World} {base e size k : Nat} {v : Value} {xs : List Value} (h : w.ownsRow base e size v k xs) (hk : Kp Nb w w') : w'.ownsRow base e size v k xs :=
  ownsRow_same h (fun g hg => by obtain ⟨-, o, ho, -⟩ := row_cells h hg; exact hk.heap (Array.getElem?_eq_some_iff.1 ho).1 (fun h => h))
theorem GcI.kept {w W W' : World} {Z : Nat} {cs : List Cel} {m : Int} {pre : List Nat} (h : GcI w Z cs m pre W) (k : Kp Nb W W') : GcI w Z cs m pre W' := by
  obtain ⟨⟨⟨v, b1, o1, hl⟩, b2, hz⟩, hB⟩ := h
  exact ⟨⟨⟨v, (k.heap b1.lt (fun h => h)).trans b1, ownsRow_kp o1 k, hl⟩, (k.heap b2.lt (fun h => h)).trans b2, Nat.le_trans hz k.size⟩, hB.trans (k.below hB.size (fun _ _ h => h))⟩
theorem range_end {k x : Nat} {pre : List Nat} (h : List.range k = pre ++ [x]) : k = pre.length + 1 ∧ pre = List.range pre.length ∧ x = pre.length := by
  have hk : k = pre.length + 1 := by have := congrArg List.length h; simpa using this
  subst hk
  rw [List.range_succ] at h
  have := List.append_inj' h rfl
  exact ⟨rfl, this.1.symm, by have h2 := this.2; injection h2 with h2 _; exact h2.symm⟩

theorem wpListIn_val {F : Fence} {n : Nat} {P : Program} {ops : Array Oper} {rest : List Oper} {o : Oper} {a : Act} {w w' : World} {Q : Exit → Act → World → Prop} (hg : o.guard = none) (hd : ∀ c, o.op ≠ .defer c) (ha : ∀ ev : Operand → Value, o.about P w ev = none) (v : Value)
    (h1 : (execOp a.eval o).run P w = .ok (.value v) w') (hK : wpListIn F n P ops Q rest (a.put o.dst v) w') : wpListIn F n P ops Q (o :: rest) a w := by
  refine wpListIn_plain hg fun K hK' => ?_
  unfold Oper.wpIn
  refine ⟨?_, ?_⟩
  · intro f hf; rw [ha] at hf; cases hf
  · rw [Oper.semAt_plain F _ _ hd, h1]
    exact hK' _ _ hK
theorem make_cell1 (x : Cel) (hx : CelOk x) (w : World) : (Instr.buildSlice 35 1 #[(0, cv x)]).run Try.prog w = .ok (.slice (some ⟨w.heap.size, 0, none⟩) 1 1) (w.alloc (.cells (cl x).toArray 41 (0, 0))) := by
  obtain ⟨n, a, q⟩ := x
  obtain ⟨a0, a1, a2, a3, a4, a5, a6, a7, a8, a9, a10, a11, a12, a13, a14, a15, rfl⟩ := sixteen a hx.mark.len
  kernel_rfl
theorem cells_new (w : World) (t : TypeId) (vs : List Value) (j : Nat) (u : Value) (h : vs[j]? = some u) : (w.alloc (.cells vs.toArray t (0, 0))).cell? (Addr.add ⟨w.heap.size, 0, none⟩ j) = some u := by
  have := (Blk.new w t vs).cell j
  rw [h] at this
  rw [add_mid, Nat.zero_add]
  exact this
theorem gc_step {W w1 : World} {n₀ Z Bx t e size k m : Nat} {v v' : Value} {xs ys : List Value} {tmp : Obj} (hv : Boxed W Bx t v) (hte : t ≠ e) (hrow : W.ownsRow Z e size v k xs) (hn : n₀ ≤ Bx) (hB : Bx < Z) (hZ : Z ≤ W.heap.size)
    (hown' : w1.ownsRow Z e size v' m ys) (hgrow : (W.alloc tmp).grownBy w1 v.ownBlock) :
    Boxed w1 Bx t v ∧ Boxed (w1.setCell ⟨Bx, 0, none⟩ v') Bx t v' ∧ (w1.setCell ⟨Bx, 0, none⟩ v').ownsRow Z e size v' m ys ∧ KeepsOthers W (w1.setCell ⟨Bx, 0, none⟩ v') ∧ Below n₀ W (w1.setCell ⟨Bx, 0, none⟩ v') ∧
      ∀ b, b < Z → b ≠ Bx → (w1.setCell ⟨Bx, 0, none⟩ v').heap[b]? = W.heap[b]? := by
  obtain ⟨h1, h2, -, h4, h5⟩ := hv.appended (n₀ := n₀) hte (ownsRow_le hrow (by omega)) (by omega) hn (ownsRow_le hown' (by omega)) hgrow
  refine ⟨h1, h2, ownsRow_setCell_below hown' hB v', h4, h5, fun b hb hne => ?_⟩
  rw [Below.heap_setCell _ _ _ _ hne]
  refine (hgrow.block b (by simp; omega) (fun e' => ?_)).trans (Below.heap_alloc _ _ _ (by omega))
  obtain ⟨hbb, -⟩ := row_cells hrow e'.symm
  omega

set_option maxRecDepth 100000 in
set_option maxHeartbeats 4000000 in
theorem gcells_in (n : Nat) (hn : 3 ≤ n) (B C : Nat) (cs : List Cel) (m : Int) (w : World) (h : SkAt w B C cs) (hbig : cs.length ≤ 100000) :
    CallsIn Fence.wide n Try.prog 23 #[.pointer (some ⟨B, 0, none⟩), .int .i64 m] w fun r w' => ∃ v, r = .returned v ∧
      w'.ownsRow w.heap.size 41 18 v (cs.take m.toNat).length (rws (cs.take m.toNat)) ∧ Below w.heap.size w w' := by
  have h1 : 1 ≤ n := by omega
  have CC : Hid (∀ wx, Kp Nb w wx → Calls Try.prog 46 #[.pointer (some ⟨B, 0, none⟩)] wx fun r w' => ∃ Bb B' C', r = .returned (.func (.func 65) #[] #[.pointer (some ⟨Bb, 0, none⟩)]) ∧ Boxed w' Bb 25 (.pointer (some ⟨B', 0, none⟩)) ∧ SkAt w' B' C' cs ∧ wx.heap.size ≤ Bb ∧ wx.heap.size ≤ B' ∧ wx.heap.size ≤ C' ∧ Bb < w'.heap.size ∧ Kp Nb wx w') :=
    hid fun wx k => cells0_any B C cs wx (h.kept k (fun h => h) (fun h => h)) hbig
  have HBIG := hid hbig
  have HOK := hid h.ok
  clear h hbig
  refine callsIn_of_wp_marks Try.func23 rfl trivial ?_ rfl
  simp only [Try.ntmps23, List.size_toArray, List.length_cons, List.length_nil, Nat.reduceAdd, Nat.reduceSub, Array.replicate_succ, Array.replicate_zero, List.push_toArray, List.append_toArray, List.nil_append, List.cons_append]
  gi_wp2_with (refine ⟨trivial, ?_⟩; gi_at_call 46; refine (callsIn_wide.2 (CC.out _ (((Kp.refl Nb w).alloc _).alloc _))).mono ?_; rintro r W0 ⟨Bb, B', C', rfl, c3, s3, l1, l2, l3, l4, k0⟩)
  have b0 := Boxed.new w 3 (.int .i64 m)
  have b1 := Boxed.new (w.alloc (.cells #[.int .i64 m] 3)) 35 (.slice none 0 0)
  simp only [World.size_alloc] at b1 l1 l2 l3
  have d0 := b0.alloc (.cells #[.slice none 0 0] 35)
  have c0' : Boxed W0 w.heap.size 3 (.int .i64 m) := (k0.heap (by simp; omega) (fun h => h)).trans d0
  have c1' : Boxed W0 (w.heap.size + 1) 35 (.slice none 0 0) := (k0.heap (by simp) (fun h => h)).trans b1
  have hB0 : Below w.heap.size w W0 := ((((Kp.refl Nb w).alloc _).alloc _).trans k0 (fun _ _ h => h)).below (Nat.le_refl _) (fun _ _ h => h)
  obtain ⟨Z, hZ0⟩ : ∃ Z, Z = W0.heap.size := ⟨_, rfl⟩
  have hl := s3.lt
  have HL := hid (show w.heap.size + 1 + 1 ≤ Bb ∧ w.heap.size + 1 + 1 ≤ B' ∧ w.heap.size + 1 + 1 ≤ C' ∧ Bb < Z ∧ B' < Z ∧ C' < Z ∧ W0.heap.size = Z from ⟨l1, l2, l3, by omega, by omega, by omega, hZ0.symm⟩)
  have HB0 := hid hB0
  have HI0 : Hid (GcI w Z cs m [] W0) := hid ⟨⟨⟨_, c1', World.ownsRow_nil _ _ _ _, Nat.zero_le _⟩, c0', by omega⟩, hB0⟩
  have HC3 := hid c3
  have HS3 := hid s3
  clear hZ0 hB0 b0 b1 d0 c0' c1' k0 s3 c3 l1 l2 l3 l4 hl
  refine wpIn_rangeFunc_ownH rfl h1 (gf := 65) (lb := #[.pointer (some ⟨Bb, 0, none⟩)]) rfl trivial (enters_of Try.func65 (by kernel_rfl) rfl)
    (cells_stops (n - 1) (by omega) Bb B' C' cs HBIG.out W0 HC3.out HS3.out) kpL_t (kpL_b (fun b hb => by have := HL.out; simp only [List.mem_cons, List.not_mem_nil, or_false] at hb; omega)) (Below.refl _ _) (fun _ => rfl)
    (GcI w Z cs m) (GcX w Z cs m) (gcI_own w Z cs m HB0.out.size) (fun c => gcX_own w Z cs m c HB0.out.size) HI0.out
    (fun x a' W => (∃ N, Z ≤ N ∧ a' = { tmps := #[.pointer (some ⟨B, 0, none⟩), .int .i64 m, undef, .pointer (some ⟨w.heap.size, 0, none⟩), .slice none 0 0, .pointer (some ⟨w.heap.size + 1, 0, none⟩), .int .i64 (x : Int), .pointer (some ⟨N, 0, none⟩), .pointer (some ⟨B, 0, none⟩), .func (.func 65) #[] #[.pointer (some ⟨Bb, 0, none⟩)], .int .i64 (x : Int), cv (celAt cs x), undef, undef, undef, undef, undef, undef, undef, undef, undef, undef, undef, undef, undef, undef, undef], defers := [] } ∧ Blk W N 41 (cl (celAt cs x))))
    (fun x a' => Own.from (fun _ A W row hs hg hr => by obtain ⟨N, h1, h2, h3⟩ := hs; exact ⟨N, h1, h2, blk_turn h3 hg hr⟩) _) ?assign ?body ?done ?stop
  case assign =>
    intro l pre x W K hI hK
    have HI := hid hI
    have HZ := hid hI.1.2.2
    have CO := HOK.out.at x
    clear hI
    obtain ⟨W1, hW1⟩ : ∃ W1, W1 = W.alloc (.cells (cl c0).toArray 41) := ⟨_, rfl⟩
    have HB1 : Hid (Blk W1 W.heap.size 41 (cl c0)) := hid (by rw [hW1]; exact Blk.new _ _ _)
    have hzl : (cl c0).length = 18 := cl_length c0_ok
    have TH : Hid (W1.there W.heap.size 0 (cl (celAt cs x)).length) := hid (HB1.out.there 0 _ (by rw [hzl, cl_length CO]; omega))
    have hrun : ∀ (ev : Operand → Value) (o : Oper), o.op = .alloc 41 → (execOp ev o).run Try.prog W = .ok (.value (.pointer (some ⟨W.heap.size, 0, none⟩))) W1 := fun ev o ho => by
      unfold execOp; rw [ho, hW1]; kernel_rfl
    have HST := hid (store_cell CO TH.out)
    have HR := hid hrun
    obtain ⟨W2, hW2⟩ : ∃ W2, W2 = W1.setCells W.heap.size 0 (cl (celAt cs x)) := ⟨_, rfl⟩
    rw [← hW2] at HST
    have HB2 : Hid (Blk W2 W.heap.size 41 (cl (celAt cs x))) := hid (by rw [hW2]; exact row_set HB1.out (by rw [hzl, cl_length CO]))
    have HK2 : Hid (Kp Nb W W2) := hid (by rw [hW2]; exact Kp.setCells (S := Nb) (fun h => absurd h (Nat.lt_irrefl _)) _ _ _ (by rw [hW1]; exact (Kp.refl Nb W).alloc _))
    clear hrun hW1 hW2 TH
    gi_wp2_with (first
      | (refine wpListIn_val (by rfl) (by intro c hc; cases hc) (fun _ => rfl) (.pointer (some ⟨W.heap.size, 0, none⟩)) (HR.out _ _ (by rfl)) ?_)
      | (refine wpListIn_store rfl 41 (.tmp 7) (.tmp 11) rfl (p := ⟨W.heap.size, 0, none⟩) (by rfl) (by rfl) HST.out ?_))
    refine hK _ _ ⟨HK2.out.size, fun k o _ ho _ => (HK2.out.heap (Array.getElem?_eq_some_iff.1 ho).1 (fun h => h)).trans ho⟩ (fun b hb => HK2.out.heap (by have := HL.out; have := HZ.out; simp only [List.mem_cons, List.not_mem_nil, or_false] at hb; omega) (fun h => h)) (HI.out.kept HK2.out) ⟨W.heap.size, HZ.out, by rfl, HB2.out⟩
  case body =>
    rintro l pre x a' W hl - hI ⟨N, hN, rfl, hNB⟩ hlt
    obtain ⟨⟨⟨v, b1, o1, hlen⟩, b2, hz⟩, hB⟩ := hI
    obtain ⟨p1, q1, rfl⟩ := own_shape o1
    have c1 := b1.cell
    have c2 := b2.cell
    have HC := hid b1
    have HC2 := hid b2
    have HO1 := hid o1
    have HLEN := hid hlen
    have HZ := hid hz
    have HBW := hid hB
    have HNB := hid hNB
    have CO := HOK.out.at x
    have HLT := hid hlt
    have hpl : pre.length < 100000 := by have := HBIG.out; omega
    clear b1 b2 o1 hlen hz hB hNB hN hl hlt
    by_cases hge : m ≤ (pre.length : Int)
    · gi_wp2
      exact ⟨KeepsFrom.refl _ _, ⟨rfl, pre, x, rfl, ⟨_, HC.out, HO1.out⟩, .inl (by have := HLEN.out; omega)⟩, HBW.out⟩
    · by_cases hx : x = pre.length
      · subst hx
        have HLD := hid (load_cell CO (HNB.out.range 0 _ (fun j _ => by rw [Nat.zero_add])))
        have HMK := hid (make_cell1 _ CO W)
        have HLC : Hid ((cl (celAt cs pre.length)).length = 18) := hid (cl_length CO)
        have HON : Hid (∀ u ∈ cl (celAt cs pre.length), u.oneCell' = true) := hid (cellL_one _ _ _)
        obtain ⟨i0, z0, hi, hz0, hz1, hz2, hz3⟩ := cell_info3
        have HSX := hid (show pre.length + 1 ≤ maxLen ∧ (pre.length + 1) * 32 ≤ 140737488355328 ∧ Z ≤ W.heap.size + 1 ∧ w.heap.size + 1 < Z from ⟨by unfold maxLen; omega, by omega, by have := HZ.out; omega, by have := HL.out; omega⟩)
        obtain ⟨y, hy⟩ : ∃ y, celAt cs pre.length = y := ⟨_, rfl⟩
        rw [hy] at HLD HMK HLC HON CO
        gi_wp2_with (first
          | (refine wpListIn_load rfl 41 (.tmp 7) rfl (p := ⟨N, 0, none⟩) (by rfl) HLD.out ?_)
          | (refine wpListIn_val (by rfl) (by intro c hc; cases hc) (fun _ => rfl) _ (exec_buildSlice rfl (qs := #[(0, cv y)]) (by simp [Act.eval, Act.put]) HMK.out) ?_)
          | (gi_at_builtin; refine wpListIn_append_own _ rfl _ _ 35 rfl Z 41 i0 z0 18 32 Try.underlying35 hi hz0 hz1 hz2 hz3 (by decide) _ _ _ rfl (HO1.out.alloc _) ⟨W.heap.size, 0, none⟩ 1 1 (cl y) rfl HLC.out (cells_new _ _ _) HON.out HSX.out.1 HSX.out.2.1 (by simp; exact HSX.out.2.2.1) ?_; intro v' w1 hown' hgrow _; obtain ⟨g', cap', rfl⟩ := ownsRow_succ hown'; obtain ⟨hv1, hv2, hr2, hk2, hb2, hh2⟩ := gc_step (n₀ := w.heap.size) HC.out (by decide) HO1.out (Nat.le_succ _) HSX.out.2.2.2 HZ.out hown' hgrow; have hc1 := hv1.cell; have hf1 := hv1.frozen; have HV1 := hid hv2; have HV2 := hid hr2; have HV3 := hid hk2; have HV4 := hid hb2; have HV5 := hid hh2; clear hv1 hv2 hr2 hk2 hb2 hh2 hown' hgrow))
        have hb0 : Boxed (w1.setCell ⟨w.heap.size + 1, 0, none⟩ (.slice (some ⟨g', 0, none⟩) (pre.length + 1) cap')) w.heap.size 3 (.int .i64 m) := (HV5.out w.heap.size (by have := HL.out; omega) (by omega)).trans HC2.out
        refine ⟨HV3.out.from _, fun b hb => HV5.out b (by have := HL.out; simp only [List.mem_cons, List.not_mem_nil, or_false] at hb; omega) (by have := HL.out; simp only [List.mem_cons, List.not_mem_nil, or_false] at hb; omega), ⟨⟨_, HV1.out, ?_, ?_⟩, hb0, Nat.le_trans HZ.out HV3.out.size⟩, HBW.out.trans HV4.out⟩
        · have e : rws ([pre.length].map (celAt cs)) = cl y := by simp [rws, flatR, hy]
          rw [List.map_append, rws_append, List.length_append, e]
          exact HV2.out
        · simp; omega
      · gi_wp2
        exact ⟨KeepsFrom.refl _ _, ⟨rfl, pre, x, rfl, ⟨_, HC.out, HO1.out⟩, .inr hx⟩, HBW.out⟩
  case done =>
    rintro D ys W hD rfl ⟨⟨⟨v, b1, o1, hlen⟩, b2, hz⟩, hB⟩ hK
    rw [range_take cs cs.length (Nat.le_refl _), List.take_length, List.length_range] at o1
    rw [List.length_range] at hlen
    obtain ⟨p1, q1, rfl⟩ := own_shape o1
    have c1 := b1.cell
    have HO1 := hid (ownsRow_le (base' := w.heap.size) o1 (by have := HL.out; omega))
    have HBW := hid hB
    have HD := hid hD
    have HK := hid hK
    have HE : Hid (cs.take m.toNat = cs) := hid (List.take_of_length_le hlen)
    clear b1 b2 o1 hlen hz hB hD hK
    gi_wp2
    refine ⟨by simp, .inl ⟨_, _, rfl, run_takeDeferred HK.out, ?_⟩⟩
    refine ⟨_, results_tmp rfl _ _ _, _, rfl, ?_⟩
    rw [HE.out]
    exact ⟨ownsRow_putObj (W := W) HO1.out _ HK.out rfl, HBW.out.trans (belowK_b (w := w) (Nat.le_refl _) W D _ _ (by have := HL.out; have := HD.out; omega) HK.out rfl rfl)⟩
  case stop =>
    rintro D c pre' W hD ⟨k, hk, rfl⟩ ⟨⟨rfl, pre, x, e1, ⟨v, b1, o1⟩, hlen⟩, hB⟩ hK
    obtain ⟨e2, e3, e4⟩ := range_end e1
    have hlen' : pre.length = m.toNat := by rcases hlen with h | h; exact h; exact absurd e4 h
    have e5 : pre.map (celAt cs) = cs.take m.toNat := by rw [e3, hlen']; exact range_take cs _ (by omega)
    rw [e5] at o1
    have e6 : pre.length = (cs.take m.toNat).length := by rw [← e5, List.length_map]
    rw [e6] at o1
    obtain ⟨lx, hlx⟩ : ∃ lx, cs.take m.toNat = lx := ⟨_, rfl⟩
    rw [hlx] at o1
    have HLX := hid hlx
    obtain ⟨p1, q1, rfl⟩ := own_shape o1
    have c1 := b1.cell
    have HO1 := hid (ownsRow_le (base' := w.heap.size) o1 (by have := HL.out; omega))
    have HBW := hid hB
    have HD := hid hD
    have HK := hid hK
    clear hlx b1 o1 hB hD hK e1 e2 e3 e4 e5 e6 hlen hlen'
    gi_wp2
    refine ⟨by simp, .inl ⟨_, _, rfl, run_takeDeferred HK.out, ?_⟩⟩
    refine ⟨_, results_tmp rfl _ _ _, _, rfl, ?_⟩
    rw [HLX.out]
    exact ⟨ownsRow_putObj (W := W) HO1.out _ HK.out rfl, HBW.out.trans (belowK_b (w := w) (Nat.le_refl _) W D _ _ (by have := HL.out; have := HD.out; omega) HK.out rfl rfl)⟩

end Go.Proofs.Yteedceepoindeaa

namespace Go.Proofs.Yteedceepoindeaa
open Go.RowKit Go.Shelf
attribute [local go_sem] Oper.semAt_some

theorem rows_own {w : World} {base : Nat} {v : Value} {cs : List Cel} (h : w.ownsRow base 41 18 v cs.length (rws cs)) (ho : AllOk cs) : RowsSl cl c0 18 w v cs := by
  by_cases hn : 0 < cs.length
  · obtain ⟨g, cap, rest, rfl, -, hb, h1, h2⟩ := own_blk h hn
    refine .inr ⟨g, 0, cap, rfl, h1, h2, fun i hi => ?_⟩
    rw [Nat.zero_add]
    exact flat_range hb ho.len i hi (cl_length (ho.at i))
  · have e : cs = [] := List.length_eq_zero_iff.1 (by omega)
    subst e
    obtain ⟨p, q, rfl⟩ := own_shape h
    exact .inl ⟨⟨_, _, rfl⟩, rfl⟩
theorem AllOk.take {cs : List Cel} (h : AllOk cs) (n : Nat) : AllOk (cs.take n) := fun q hq => h q (List.mem_of_mem_take hq)
theorem gcells_any (B C : Nat) (cs : List Cel) (m : Int) (w : World) (h : SkAt w B C cs) (hbig : cs.length ≤ 100000) :
    Calls Try.prog 23 #[.pointer (some ⟨B, 0, none⟩), .int .i64 m] w fun e w' => ∃ v, e = .returned v ∧ RowsSl cl c0 18 w' v (cs.take m.toNat) ∧ Kp Nb w w' :=
  (callsIn_wide.1 (gcells_in 3 (Nat.le_refl _) B C cs m w h hbig)).mono fun _ _ ⟨v, he, h1, hB⟩ => ⟨v, he, rows_own h1 (h.ok.take _), Kp.of_below hB⟩

set_option maxHeartbeats 1000000 in
theorem rfits_any (n : Int) (w : World) (h0 : -9223372036854775808 ≤ n) (h1 : n < 9223372036854775808) : Calls Try.prog 10 #[.int .i64 n] w fun e w' => e = .returned (.bool (fitB n)) ∧ w = w' := by
  go_enter Try.func10, Try.ntmps10
  by_cases a : 2 < n
  · by_cases b : n < 1537
    · by_cases c : n % 3 = 0
      · have e : Hid (fitB n = true) := hid (by unfold fitB; simp; omega)
        have d1 : decide (n > 2) = true := decide_eq_true (by omega)
        have d2 : decide (n < 1537) = true := decide_eq_true (by omega)
        have e1 : n.tmod 3 = 0 := by rw [Int.tmod_eq_emod_of_nonneg (by omega)]; exact c
        have e2 : IntKind.i64.wrap (n.tmod 3) = 0 := by rw [e1]; rfl
        clear a b c h0 h1
        go_wp2
        go_ret
        rw [e.out]; exact ⟨rfl, rfl⟩
      · have e : Hid (fitB n = false) := hid (by unfold fitB; simp; omega)
        have d1 : decide (n > 2) = true := decide_eq_true (by omega)
        have d2 : decide (n < 1537) = true := decide_eq_true (by omega)
        obtain ⟨r, hr⟩ : ∃ r, n.tmod 3 = r := ⟨_, rfl⟩
        have e1 : (r == 0) = false := by rw [beq_eq_false_iff_ne, ← hr, Int.tmod_eq_emod_of_nonneg (by omega)]; exact c
        clear a b c h0 h1
        go_wp2
        go_ret
        rw [e.out]; exact ⟨rfl, rfl⟩
    · have e : Hid (fitB n = false) := hid (by unfold fitB; simp; omega)
      go_wp2
      go_ret
      rw [e.out]; exact ⟨rfl, rfl⟩
  · have e : Hid (fitB n = false) := hid (by unfold fitB; simp; omega)
    go_wp2
    go_ret
    rw [e.out]; exact ⟨rfl, rfl⟩

def sameB (a b : List Cel) : Bool := decide (a = b)
def SmR (a b : List Cel) (w : World) (i : Value) (wr : World) : Prop := ∃ k : Nat, k ≤ a.length ∧ i = .int .i64 k ∧ Hid (a.take k = b.take k) ∧ Hid (Kp Nb w wr)
theorem same_snoc {a b : List Cel} {k : Nat} (ha : k < a.length) (hb : k < b.length) (h : a.take k = b.take k) (he : celAt a k = celAt b k) : a.take (k + 1) = b.take (k + 1) := by
  rw [List.take_add_one, List.take_add_one, h]
  unfold celAt at he
  rw [List.getElem?_eq_getElem ha, List.getElem?_eq_getElem hb] at he ⊢
  simp only [Option.getD_some] at he
  rw [he]
set_option maxRecDepth 100000 in
set_option maxHeartbeats 1000000 in
theorem rsame_any (u v : Value) (a b : List Cel) (w : World) (hu : RowsSl cl c0 18 w u a) (hv : RowsSl cl c0 18 w v b) (oa : AllOk a) (ob : AllOk b) (la : a.length ≤ 100000) :
    Calls Try.prog 26 #[u, v] w fun e w' => e = .returned (.bool (sameB a b)) ∧ Kp Nb w w' := by
  obtain ⟨y1, d1, rfl⟩ := hu.shape
  obtain ⟨y2, d2, rfl⟩ := hv.shape
  have HU := hid hu
  have HV := hid hv
  have OA := hid oa
  have OB := hid ob
  have LA := hid la
  clear hu hv oa ob
  go_enter Try.func26, Try.ntmps26
  by_cases hl : a.length = b.length
  · have HL := hid hl
    have hl' : ((a.length : Nat) : Int) = b.length := by omega
    go_wp2
    go_loopw [13] (SmR a b w) (fun i _ => a.length - (intOf i).toNat)
    case atStart => exact ⟨0, by omega, rfl, hid rfl, hid (Kp.refl _ _)⟩
    case round =>
      obtain ⟨k, hk, rfl, HE, HW⟩ := hrel
      by_cases hlt : k < a.length
      · have hlb : k < b.length := by have := HL.out; omega
        rcases HU.out with ⟨_, he⟩ | ⟨A, oa, ca, e1, f1, f2, f3⟩
        · rw [he] at hlt; simp at hlt
        rcases HV.out with ⟨_, he⟩ | ⟨B, ob, cb, e2, g1, g2, g3⟩
        · rw [he] at hlb; simp at hlb
        injection e1 with e1 e3 e4
        injection e2 with e2 e5 e6
        subst e1 e4 e2 e6
        have XA : Hid (wr.rangeAt A (oa + k * 18) (cl (celAt a k))) := hid (range_kept (f3 k hlt) HW.out)
        have XB : Hid (wr.rangeAt B (ob + k * 18) (cl (celAt b k))) := hid (range_kept (g3 k hlb) HW.out)
        have XO := hid (OA.out.at k)
        have YO := hid (OB.out.at k)
        have EQ := hid (eq_cells (celAt a k) (celAt b k) XO.out.mark.len YO.out.mark.len)
        have HS : Hid (celAt a k = celAt b k → a.take (k + 1) = b.take (k + 1)) := hid (same_snoc hlt hlb HE.out)
        have HN : Hid (celAt a k ≠ celAt b k → sameB a b = false) := hid (fun h => decide_eq_false (fun e => h (by rw [e])))
        have HKA := hid hlt
        unfold maxLen at f2 g2
        have FA : Hid (k < a.length ∧ k < b.length ∧ a.length ≤ d1 ∧ b.length ≤ d2 ∧ d1 ≤ 9223372036854775807 ∧ d2 ≤ 9223372036854775807) := hid ⟨hlt, hlb, f1, g1, by omega, by omega⟩
        clear f1 f2 f3 g1 g2 g3 e3 e5 hlt hlb HU HV HE
        generalize celAt a k = x at XA XO EQ HS HN
        generalize celAt b k = y at XB YO EQ HS HN
        obtain ⟨d, hd⟩ : ∃ d, decide (x = y) = d := ⟨_, rfl⟩
        rw [hd] at EQ
        have HD := hid hd
        clear hd
        have hx := FA.out
        go_upto_region 6 with fail
        refine region_vals2 [none, none, none, none, none, none, none, none, none, none, none, none, none, none, none, none, some 0, some 1, some 2, some 3, some 4, some 5, some 6, some 7, some 8, none] [[(0, none)], [(5, none)], [(16, some 0), (17, some 1)], [(18, some 2)], [(1, none)], [(5, none)], [(20, some 4), (21, some 5)], [(22, some 6)], [(19, some 3), (23, some 7)]] [some 16, some 17, some 18, some 19, some 20, some 21, some 22, some 23, some 24] [.slice (some ⟨A, oa, none⟩) a.length d1, .int .i64 (k : Int), .pointer (some ⟨A, oa + k * 18, none⟩), cv x, .slice (some ⟨B, ob, none⟩) b.length d2, .int .i64 (k : Int), .pointer (some ⟨B, ob + k * 18, none⟩), cv y, .bool (!d)] (fun w' => Hid (Kp Nb wr w')) (by kernel_rfl) (by kernel_rfl) (by kernel_rfl) ?hS (VFrom.all (n := 9) (by kernel_rfl) ?hstep) ?hend
        case hstep =>
          refine VFrom.cons (VStep.val _ rfl _ rfl (.slice (some ⟨A, oa, none⟩) a.length d1) rfl trivial (fun ev wq hS he hr => ?_)) ?_
          · have r0 : ev (.tmp 0) = .slice (some ⟨A, oa, none⟩) a.length d1 := hr (0, none) (by simp); have hk := he.1; clear hr he
            go_simp
          refine VFrom.cons (VStep.val _ rfl _ rfl (.int .i64 (k : Int)) rfl trivial (fun ev wq hS he hr => ?_)) ?_
          · have r0 : ev (.tmp 5) = .int .i64 (k : Int) := hr (5, none) (by simp); have hk := he.1; clear hr he
            go_simp
          refine VFrom.cons (VStep.val _ rfl _ rfl (.pointer (some ⟨A, oa + k * 18, none⟩)) rfl trivial (fun ev wq hS he hr => ?_)) ?_
          · have r0 : ev (.tmp 16) = .slice (some ⟨A, oa, none⟩) a.length d1 := hr (16, some 0) (by simp); have r1 : ev (.tmp 17) = .int .i64 (k : Int) := hr (17, some 1) (by simp); have hk := he.1; clear hr he
            have e1 := FA.out
            go_simp
          refine VFrom.cons (VStep.val _ rfl _ rfl (cv x) rfl trivial (fun ev wq hS he hr => ?_)) ?_
          · have r0 : ev (.tmp 18) = .pointer (some ⟨A, oa + k * 18, none⟩) := hr (18, some 2) (by simp); have hk := he.1; clear hr he
            exact exec_load rfl r0 (load_cell XO.out (range_kept XA.out hS.out))
          refine VFrom.cons (VStep.val _ rfl _ rfl (.slice (some ⟨B, ob, none⟩) b.length d2) rfl trivial (fun ev wq hS he hr => ?_)) ?_
          · have r0 : ev (.tmp 1) = .slice (some ⟨B, ob, none⟩) b.length d2 := hr (1, none) (by simp); have hk := he.1; clear hr he
            go_simp
          refine VFrom.cons (VStep.val _ rfl _ rfl (.int .i64 (k : Int)) rfl trivial (fun ev wq hS he hr => ?_)) ?_
          · have r0 : ev (.tmp 5) = .int .i64 (k : Int) := hr (5, none) (by simp); have hk := he.1; clear hr he
            go_simp
          refine VFrom.cons (VStep.val _ rfl _ rfl (.pointer (some ⟨B, ob + k * 18, none⟩)) rfl trivial (fun ev wq hS he hr => ?_)) ?_
          · have r0 : ev (.tmp 20) = .slice (some ⟨B, ob, none⟩) b.length d2 := hr (20, some 4) (by simp); have r1 : ev (.tmp 21) = .int .i64 (k : Int) := hr (21, some 5) (by simp); have hk := he.1; clear hr he
            have e1 := FA.out
            go_simp
          refine VFrom.cons (VStep.val _ rfl _ rfl (cv y) rfl trivial (fun ev wq hS he hr => ?_)) ?_
          · have r0 : ev (.tmp 22) = .pointer (some ⟨B, ob + k * 18, none⟩) := hr (22, some 6) (by simp); have hk := he.1; clear hr he
            exact exec_load rfl r0 (load_cell YO.out (range_kept XB.out hS.out))
          refine VFrom.cons (VStep.val _ rfl _ rfl (.bool (!d)) rfl trivial (fun ev wq hS he hr => ?_)) ?_
          · have r0 : ev (.tmp 19) = cv x := hr (19, some 3) (by simp); have r1 : ev (.tmp 23) = cv y := hr (23, some 7) (by simp); have hk := he.1; clear hr he
            exact exec_neqCell rfl r0 r1 (EQ.out wq)
          exact VFrom.nil
        case hS => exact hid ((Kp.refl Nb wr).drew)
        case hend =>
          intro w6 h6
          have K6 := hid (HW.out.trans h6.out (fun _ _ h => h))
          clear h6
          simp only [putAll, List.zip_cons_cons, List.zip_nil_right, List.foldl_cons, List.foldl_nil, Act.put, List.setIfInBounds_toArray, List.set_cons_zero, List.set_cons_succ]
          cases d with
          | true =>
            have RE : Hid (SmR a b w (.int .i64 ((k : Int) + 1)) w6) := hid ⟨k + 1, by omega, by go_num, hid (HS.out (of_decide_eq_true HD.out)), K6⟩
            go_wp2
            go_roundw
            case rel => exact RE.out
            case measure => simp [intOf]; omega
          | false =>
            go_wp2
            go_ret
            exact ⟨by rw [HN.out (of_decide_eq_false HD.out)]; rfl, K6.out⟩
      · obtain rfl : k = a.length := by omega
        have hE := HE.out
        rw [List.take_length, HL.out, List.take_length] at hE
        have HE2 := hid hE
        clear hE HE
        go_wp2
        go_ret
        exact ⟨by rw [HE2.out]; unfold sameB; simp, HW.out⟩
  · have HL : Hid (sameB a b = false) := hid (decide_eq_false (fun e => hl (by rw [e])))
    have hl' : (((a.length : Nat) : Int) != ((b.length : Nat) : Int)) = true := by rw [bne_iff_ne]; omega
    clear hl
    go_wp2
    go_ret
    exact ⟨by rw [HL.out]; rfl, Kp.refl _ _⟩

end Go.Proofs.Yteedceepoindeaa
