/-
  Layer 22: a ledger's rows gone through (Rows), the iterator. Conditions: rows of 64 bits.
-/
import Derived.Test.YtjipcmhknikcgaaDoorLgD
import Derived.Test.YtjipcmhknikcgaaDoorColl
import Derived.Test.YtjipcmhknikcgaaDoorSeqW
import Derived.RangeFuncNested
import Derived.RangeFuncBound
import Derived.RangeFuncCalls
import Derived.RangeFuncLeaves
import Derived.Shelf.Abstract
import Derived.Shelf.RegionOpen
import Derived.OwnWalkIn
import Derived.TacticsInMore
import Derived.LoopNIn
import Derived.LoopIn
namespace Go.Proofs.YtjipcmhknikcgaaDoor
open Go.RowKit Go.Shelf
attribute [local go_sem] Oper.semAt_some

section
variable {F : Fence} {n : Nat} {P : Program} {w w' : World} {ops : Array Oper} {rest : List Oper} {o : Oper} {a : Act} {Q : Exit → Act → World → Prop}
theorem wpListIn_valL (hw : Region.wanted o (yielded ops a.tmps) = true) (hd : ∀ c, o.op ≠ .defer c) (ha : o.about P w a.eval = none) (v : Value) (hl : (execOp a.eval o).run P w = .ok (.value v) w)
    (hK : wpListIn F n P ops Q rest (a.put o.dst v) w) : wpListIn F n P ops Q (o :: rest) a w := by
  refine wpListIn_step fun K hK' => ?_
  rw [if_pos hw]
  unfold Oper.wpIn
  refine ⟨?_, ?_⟩
  · intro f hf; rw [ha] at hf; cases hf
  · rw [Oper.semAt_plain F _ _ hd]
    rw [hl]
    exact hK' _ _ hK
theorem wpListIn_storeL (hg : o.guard = none) (T : TypeId) (x y : Operand) (hop : o.op = .store T x y) {p : Addr} (hx : a.eval x = .pointer (some p)) {v : Value} (hy : a.eval y = v) (hl : (Instr.storeAt T (.pointer (some p)) v).run P w = .ok () w')
    (hK : wpListIn F n P ops Q rest (a.put o.dst undef) w') : wpListIn F n P ops Q (o :: rest) a w := by
  refine wpListIn_plain hg fun K hK' => ?_
  unfold Oper.wpIn
  refine ⟨?_, ?_⟩
  · simp [Oper.about, hop]
  · rw [Oper.semAt_plain F _ _ (by rw [hop]; intro c hc'; cases hc')]
    simp only [execOp, hop, hx, hy, Sem.run_bind, Sem.run_pure, Result.andThen_ok, hl]
    exact hK' _ _ hK
end
abbrev ArT : Nat := 55
set_option maxRecDepth 100000 in
theorem index_all (q0 q1 q2 q3 q4 q5 q6 q7 q8 q9 q10 q11 q12 q13 : RwQ) (w : World) :
    (Instr.index ArT (.agg (flatR rL [q0, q1, q2, q3, q4, q5, q6, q7, q8, q9, q10, q11, q12, q13]).toArray) (.int .i64 ((0 : Nat) : Int))).run Tryd.prog w = .ok (rV q0) w ∧
    (Instr.index ArT (.agg (flatR rL [q0, q1, q2, q3, q4, q5, q6, q7, q8, q9, q10, q11, q12, q13]).toArray) (.int .i64 ((1 : Nat) : Int))).run Tryd.prog w = .ok (rV q1) w ∧
    (Instr.index ArT (.agg (flatR rL [q0, q1, q2, q3, q4, q5, q6, q7, q8, q9, q10, q11, q12, q13]).toArray) (.int .i64 ((2 : Nat) : Int))).run Tryd.prog w = .ok (rV q2) w ∧
    (Instr.index ArT (.agg (flatR rL [q0, q1, q2, q3, q4, q5, q6, q7, q8, q9, q10, q11, q12, q13]).toArray) (.int .i64 ((3 : Nat) : Int))).run Tryd.prog w = .ok (rV q3) w ∧
    (Instr.index ArT (.agg (flatR rL [q0, q1, q2, q3, q4, q5, q6, q7, q8, q9, q10, q11, q12, q13]).toArray) (.int .i64 ((4 : Nat) : Int))).run Tryd.prog w = .ok (rV q4) w ∧
    (Instr.index ArT (.agg (flatR rL [q0, q1, q2, q3, q4, q5, q6, q7, q8, q9, q10, q11, q12, q13]).toArray) (.int .i64 ((5 : Nat) : Int))).run Tryd.prog w = .ok (rV q5) w ∧
    (Instr.index ArT (.agg (flatR rL [q0, q1, q2, q3, q4, q5, q6, q7, q8, q9, q10, q11, q12, q13]).toArray) (.int .i64 ((6 : Nat) : Int))).run Tryd.prog w = .ok (rV q6) w ∧
    (Instr.index ArT (.agg (flatR rL [q0, q1, q2, q3, q4, q5, q6, q7, q8, q9, q10, q11, q12, q13]).toArray) (.int .i64 ((7 : Nat) : Int))).run Tryd.prog w = .ok (rV q7) w ∧
    (Instr.index ArT (.agg (flatR rL [q0, q1, q2, q3, q4, q5, q6, q7, q8, q9, q10, q11, q12, q13]).toArray) (.int .i64 ((8 : Nat) : Int))).run Tryd.prog w = .ok (rV q8) w ∧
    (Instr.index ArT (.agg (flatR rL [q0, q1, q2, q3, q4, q5, q6, q7, q8, q9, q10, q11, q12, q13]).toArray) (.int .i64 ((9 : Nat) : Int))).run Tryd.prog w = .ok (rV q9) w ∧
    (Instr.index ArT (.agg (flatR rL [q0, q1, q2, q3, q4, q5, q6, q7, q8, q9, q10, q11, q12, q13]).toArray) (.int .i64 ((10 : Nat) : Int))).run Tryd.prog w = .ok (rV q10) w ∧
    (Instr.index ArT (.agg (flatR rL [q0, q1, q2, q3, q4, q5, q6, q7, q8, q9, q10, q11, q12, q13]).toArray) (.int .i64 ((11 : Nat) : Int))).run Tryd.prog w = .ok (rV q11) w ∧
    (Instr.index ArT (.agg (flatR rL [q0, q1, q2, q3, q4, q5, q6, q7, q8, q9, q10, q11, q12, q13]).toArray) (.int .i64 ((12 : Nat) : Int))).run Tryd.prog w = .ok (rV q12) w ∧
    (Instr.index ArT (.agg (flatR rL [q0, q1, q2, q3, q4, q5, q6, q7, q8, q9, q10, q11, q12, q13]).toArray) (.int .i64 ((13 : Nat) : Int))).run Tryd.prog w = .ok (rV q13) w :=
  ⟨by kernel_rfl, by kernel_rfl, by kernel_rfl, by kernel_rfl, by kernel_rfl, by kernel_rfl, by kernel_rfl, by kernel_rfl, by kernel_rfl, by kernel_rfl, by kernel_rfl, by kernel_rfl, by kernel_rfl, by kernel_rfl⟩
theorem index_row (rs : List RwQ) (hl : rs.length = 14) (k : Nat) (hk : k < 14) (w : World) : (Instr.index ArT (.agg (flatR rL rs).toArray) (.int .i64 (k : Int))).run Tryd.prog w = .ok (rV (rowAt rs k)) w := by
  match rs, hl with
  | [q0, q1, q2, q3, q4, q5, q6, q7, q8, q9, q10, q11, q12, q13], _ =>
    obtain ⟨e0, e1, e2, e3, e4, e5, e6, e7, e8, e9, e10, e11, e12, e13⟩ := index_all q0 q1 q2 q3 q4 q5 q6 q7 q8 q9 q10 q11 q12 q13 w
    rcases k with _ | _ | _ | _ | _ | _ | _ | _ | _ | _ | _ | _ | _ | _ | k
    · exact e0
    · exact e1
    · exact e2
    · exact e3
    · exact e4
    · exact e5
    · exact e6
    · exact e7
    · exact e8
    · exact e9
    · exact e10
    · exact e11
    · exact e12
    · exact e13
    · omega
theorem eq_rows (x y : RwQ) (w : World) : Sem.run Tryd.prog (Op.equalIn 10000 29 (rV x) (rV y)) w = .ok (decide (x = y)) w := by
  obtain ⟨x1, x2⟩ := x
  obtain ⟨y1, y2⟩ := y
  have hd : decide (((x1, x2) : RwQ) = (y1, y2)) = (decide (x1 = y1) && decide (x2 = y2)) := by simp only [Prod.mk.injEq, Bool.decide_and]
  rw [hd]
  clear hd
  dsimp only [rV, rL]
  by_cases h1 : x1 = y1
  · subst h1
    by_cases h2 : x2 = y2
    · subst h2; go_simp
    · have g : (x2 == y2) = false := beq_eq_false_iff_ne.2 h2
      rw [decide_eq_false h2]
      clear h2
      go_simp
  · have g : (x1 == y1) = false := beq_eq_false_iff_ne.2 h1
    rw [decide_eq_false h1]
    clear h1
    go_simp
theorem exec_neqRow {ev : Operand → Value} {o : Oper} {x y : Operand} {t' : TypeId} {p q : RwQ} {w : World} (ho : o.op = .binOp .neq 29 x y t') (hx : ev x = rV p) (hy : ev y = rV q) : (execOp ev o).run Tryd.prog w = .ok (.value (.bool (!decide (p = q)))) w := by
  obtain ⟨xs, hxs⟩ : ∃ xs : Array Value, (rL p).toArray = xs := ⟨_, rfl⟩
  obtain ⟨ys, hys⟩ : ∃ ys : Array Value, (rL q).toArray = ys := ⟨_, rfl⟩
  have h : Sem.run Tryd.prog (Op.equal 29 (.agg xs) (.agg ys)) w = .ok (decide (p = q)) w := by rw [← hxs, ← hys]; exact eq_rows p q w
  obtain ⟨b, hb⟩ : ∃ b, decide (p = q) = b := ⟨_, rfl⟩
  rw [hb] at h ⊢
  rw [show rV p = .agg xs from congrArg Value.agg hxs] at hx
  rw [show rV q = .agg ys from congrArg Value.agg hys] at hy
  have h1 : Sem.run Tryd.prog (eqGuard .neq 29 x y (.agg xs) (.agg ys)) w = .ok () w := by go_simp
  have h2 : Sem.run Tryd.prog (binOp .neq 29 (.agg xs) (.agg ys)) w = .ok (.bool (!b)) w := by
    show Sem.run Tryd.prog (do pure (Value.bool (!(← Op.equal 29 (.agg xs) (.agg ys))))) w = _
    simp only [Sem.run_bind, Sem.run_pure, Result.andThen_ok, h]
  unfold execOp
  simp only [ho, hx, hy, Sem.run_bind, Sem.run_pure, Result.andThen_ok, h1, h2]
theorem exec_index {P : Program} {ev : Operand → Value} {o : Oper} {T : TypeId} {x y : Operand} {v i u : Value} {w : World} (ho : o.op = .index T x y) (hx : ev x = v) (hy : ev y = i) (hl : (Instr.index T v i).run P w = .ok u w) : (execOp ev o).run P w = .ok (.value u) w := by
  unfold execOp
  simp only [ho, hx, hy, Sem.run_bind, Sem.run_pure, Result.andThen_ok, hl]
theorem exec_neq_no {ev : Operand → Value} {o : Oper} {x y : Operand} {t' : TypeId} {p q : RwQ} {w : World} (hpq : Hid (p = q)) (ho : o.op = .binOp .neq 29 x y t') (hx : ev x = rV p) (hy : ev y = rV q) : (execOp ev o).run Tryd.prog w = .ok (.value (.bool false)) w := by
  have h := exec_neqRow (w := w) ho hx hy
  rwa [decide_eq_true hpq.out] at h
theorem exec_neq_yes {ev : Operand → Value} {o : Oper} {x y : Operand} {t' : TypeId} {p q : RwQ} {w : World} (hpq : Hid (¬ p = q)) (ho : o.op = .binOp .neq 29 x y t') (hx : ev x = rV p) (hy : ev y = rV q) : (execOp ev o).run Tryd.prog w = .ok (.value (.bool true)) w := by
  have h := exec_neqRow (w := w) ho hx hy
  rwa [decide_eq_false hpq.out] at h
/-- The kinds (less one) below k that have something. -/
def nzT (rs : List RwQ) (k : Nat) : List Nat := (List.range k).filter fun i => !decide (rowAt rs i = (0, 0))
theorem nzT_no (rs : List RwQ) (k : Nat) (h : rowAt rs k = (0, 0)) : nzT rs (k + 1) = nzT rs k := by
  unfold nzT
  rw [List.range_succ, List.filter_append]
  simp [h]
theorem nzT_yes (rs : List RwQ) (k : Nat) (h : ¬ rowAt rs k = (0, 0)) : nzT rs (k + 1) = nzT rs k ++ [k] := by
  unfold nzT
  rw [List.range_succ, List.filter_append]
  simp [h]
/-- Blocks that stay: none is asked for. -/
def Kp0 (_ _ : World) : Prop := True
set_option maxRecDepth 100000 in
set_option maxHeartbeats 4000000 in
theorem rows1_in (m : Nat) (hm : 1 ≤ m) (l Ba : Nat) (rs : List RwQ) (hrl : rs.length = 14) (J Jx : List Nat → World → Prop)
    (hJ : ∀ pre W W', J pre W → Kp Nb W W' → J pre W')
    (hY : ∀ (pre : List Nat) (x : Nat) (W : World), J pre W → pre.length < 14 → x < 14 → YieldAt Fence.wide (m - 1) Tryd.prog l #[.int .i64 ((x : Int) + 1), rV (rowAt rs x)] W fun r W' =>
      Kp0 W W' ∧ ((r = .returned (.bool true) ∧ J (pre ++ [x]) W') ∨ (r = .returned (.bool false) ∧ Jx (pre ++ [x]) W')))
    (W : World) (hs : Blk W Ba ArT (flatR rL rs)) (h0 : J [] W) :
    CallsIn Fence.wide m Tryd.prog 30 #[.func (.yield l) #[] #[], .pointer (some ⟨Ba, 0, none⟩)] W fun r W' => (∃ v, r = .returned v) ∧
      ((∃ xs, xs = nzT rs 14 ∧ J xs W') ∨ (∃ pre, (∃ k, k ≤ 14 ∧ pre = nzT rs k) ∧ Jx pre W')) := by
  have HY := hid hY
  have HJK := hid hJ
  have HJ := hid h0
  have HRL := hid hrl
  obtain ⟨vs, hvs⟩ : ∃ v, (flatR rL rs).toArray = v := ⟨_, rfl⟩
  have HI : Hid (∀ (k : Nat), k < 14 → ∀ w, (Instr.index ArT (.agg vs) (.int .i64 (k : Int))).run Tryd.prog w = .ok (rV (rowAt rs k)) w) := hid (fun k hk w => by rw [← hvs]; exact index_row rs hrl k hk w)
  have HL : Hid ((Instr.loadAt ArT (.pointer (some ⟨Ba, 0, none⟩))).run Tryd.prog W = .ok (.agg vs) W) := hid (by
    rw [← hvs]
    exact run_loadAt_mid W Ba 0 ArT (flatR rL rs) _ (range_ofL hs) Tryd.underlying55 rfl (by rw [flatR_length rs (fun q _ => rl_len q), hrl]; kernel_rfl))
  clear hY hJ h0 hrl hvs hs
  refine callsIn_of_wp Tryd.func30 rfl trivial ?_ rfl
  simp only [Tryd.ntmps30, List.size_toArray, List.length_cons, List.length_nil, Nat.reduceAdd, Nat.reduceSub, Array.replicate_succ, Array.replicate_zero, List.push_toArray, List.append_toArray, List.nil_append, List.cons_append]
  gi_wp2_with (refine wpListIn_valL rfl (by intro c hc; cases hc) (by simp [Oper.about]) _ (exec_loadL rfl rfl HL.out) ?_)
  gi_loopw [6] (fun i wr => ∃ k : Nat, k ≤ 14 ∧ i = .int .i64 k ∧ Hid (J (nzT rs k) wr)) (fun i _ => 14 - (intOf i).toNat)
  case atStart => exact ⟨0, Nat.zero_le _, rfl, HJ⟩
  case round =>
    obtain ⟨k, hk, rfl, hJk⟩ := hrel
    by_cases hlt : k < 14
    · have HIk := hid (HI.out k hlt)
      obtain ⟨x, hx⟩ : ∃ x, rowAt rs k = x := ⟨_, rfl⟩
      rw [hx] at HIk
      have HX := hid hx
      have HLT := hid hlt
      obtain ⟨M5, hM5⟩ : ∃ N, wr.heap.size = N := ⟨_, rfl⟩
      obtain ⟨W5, hW5⟩ : ∃ W, W = (wr.alloc (.cells #[.int .u64 0, .int .u64 0] 29)).setCells M5 0 (rL x) := ⟨_, rfl⟩
      have hb0 : Blk (wr.alloc (.cells #[.int .u64 0, .int .u64 0] 29)) M5 29 (rL (0, 0)) := by rw [← hM5]; exact Blk.new wr 29 (rL (0, 0))
      have HST : Hid ((Instr.storeAt 29 (.pointer (some ⟨M5, 0, none⟩)) (rV x)).run Tryd.prog (wr.alloc (.cells #[.int .u64 0, .int .u64 0] 29)) = .ok () W5) := hid (by
        rw [hW5]
        exact rw_store x (hb0.there 0 2 (Nat.le_refl _)))
      have BM5 : Blk W5 M5 29 (rL x) := by rw [hW5]; exact row_set hb0 rfl
      have K5 : Hid (Kp Nb wr W5) := hid (by
        rw [hW5]
        exact Kp.setCells (fun h => by omega) _ _ _ ((Kp.refl Nb wr).alloc _))
      have HL5 := hid (rw_load x (range_ofL BM5))
      have J5 := hid (HJK.out _ _ _ hJk.out K5.out)
      clear hW5 hb0 BM5 hx
      by_cases h0 : x = (0, 0)
      · have HT : Hid (nzT rs (k + 1) = nzT rs k) := hid (nzT_no rs k (by rw [HX.out]; exact h0))
        have HNE := hid h0
        clear h0
        gi_wp2_with (first
        | (refine wpListIn_valL (by rfl) (by intro c hc; cases hc) (by simp [Oper.about]) _ (exec_index rfl rfl rfl (HIk.out _)) ?_)
        | (refine wpListIn_storeL rfl 29 (.tmp 4) (.tmp 9) rfl (p := ⟨M5, 0, none⟩) (by rfl) (v := rV x) (by rfl) HST.out ?_)
        | (refine wpListIn_valL (by first | rfl | kernel_rfl) (by intro c hc; cases hc) (by simp [Oper.about]) _ (exec_loadL (T := 29) (a := ⟨M5, 0, none⟩) rfl rfl HL5.out) ?_)
        | (refine wpListIn_valL (by rfl) (by intro c hc; cases hc) (by simp [Oper.about]) _ (exec_build (qs := #[]) rfl rfl (build_row0 _)) ?_)
        | (refine wpListIn_valL (by rfl) (by intro c hc; cases hc) (by simp [Oper.about]) _ (exec_neq_no HNE rfl rfl rfl) ?_)
        | (refine wpListIn_skip (by rfl) (by first | rfl | kernel_rfl | (simp [Oper.about]; done) | (simp [Oper.about]; rfl)) ?_))
        go_roundw
        case rel => exact ⟨k + 1, HLT.out, by go_num, by rw [HT.out]; exact J5⟩
        case measure => have := HLT.out; simp [intOf]; omega
      · have HT : Hid (nzT rs (k + 1) = nzT rs k ++ [k]) := hid (nzT_yes rs k (by rw [HX.out]; exact h0))
        have HNE := hid h0
        have HLEN : (nzT rs k).length < 14 := by
          have h := List.length_filter_le (fun i => !decide (rowAt rs i = (0, 0))) (List.range k)
          rw [List.length_range] at h
          unfold nzT
          omega
        obtain ⟨fn, tmps, assign, body, hy, hR⟩ := HY.out (nzT rs k) k W5 J5.out HLEN HLT.out
        rw [HX.out] at hy
        have HRR := hid hR
        clear hR HLEN h0
        gi_wp2_with (first
        | (refine wpListIn_valL (by rfl) (by intro c hc; cases hc) (by simp [Oper.about]) _ (exec_index rfl rfl rfl (HIk.out _)) ?_)
        | (refine wpListIn_storeL rfl 29 (.tmp 4) (.tmp 9) rfl (p := ⟨M5, 0, none⟩) (by rfl) (v := rV x) (by rfl) HST.out ?_)
        | (refine wpListIn_valL (by first | rfl | kernel_rfl) (by intro c hc; cases hc) (by simp [Oper.about]) _ (exec_loadL (T := 29) (a := ⟨M5, 0, none⟩) rfl rfl HL5.out) ?_)
        | (refine wpListIn_valL (by rfl) (by intro c hc; cases hc) (by simp [Oper.about]) _ (exec_build (qs := #[]) rfl rfl (build_row0 _)) ?_)
        | (refine wpListIn_valL (by rfl) (by intro c hc; cases hc) (by simp [Oper.about]) _ (exec_neq_yes HNE rfl rfl rfl) ?_))
        refine HRR.out.mono ?_
        rintro r W3 ⟨-, (⟨rfl, hJ3⟩ | ⟨rfl, hJx3⟩)⟩
        · have JX := hid hJ3
          clear hJ3 hy
          gi_wp2
          all_goals
            go_roundw
            case rel => exact ⟨k + 1, HLT.out, by go_num, by rw [HT.out]; exact JX⟩
            case measure => have := HLT.out; simp [intOf]; omega
        · have JX := hid hJx3
          clear hJx3 hy
          gi_wp2
          refine bodyPost_ret (results_none rfl _ _ _) rfl ?_
          exact ⟨⟨_, rfl⟩, .inr ⟨_, ⟨k + 1, HLT.out, rfl⟩, by rw [HT.out]; exact JX.out⟩⟩
    · obtain rfl : k = 14 := by omega
      gi_wp2
      go_end0
      exact ⟨⟨_, rfl⟩, .inl ⟨_, rfl, hJk.out⟩⟩

end Go.Proofs.YtjipcmhknikcgaaDoor
