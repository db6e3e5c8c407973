/-
  Layer 11: a sketch's cells gone through (Cells), the iterator. Conditions: cells are what their kinds hold.
-/
import Derived.Test.YteedceepoindeaaIbE
import Derived.Test.YteedceepoindeaaColl
import Derived.RangeFuncNested
import Derived.RangeFuncBound
import Derived.RangeFuncCalls
import Derived.RangeFuncLeaves
import Derived.Shelf.Abstract
import Derived.Shelf.RegionOpen
import Derived.OwnWalkIn
import Derived.TacticsInMore
import Derived.LoopNIn
import Derived.LoopIn
namespace Go.Proofs.Yteedceepoindeaa
open Go.RowKit Go.Shelf
attribute [local go_sem] Oper.semAt_some

section
variable {F : Fence} {n : Nat} {P : Program} {w w' : World} {ops : Array Oper} {rest : List Oper} {o : Oper} {a : Act} {Q : Exit → Act → World → Prop}
theorem wpListIn_load (hg : o.guard = none) (T : TypeId) (x : Operand) (hop : o.op = .load T x) {p : Addr} (hx : a.eval x = .pointer (some p)) {v : Value} (hl : (Instr.loadAt T (.pointer (some p))).run P w = .ok v w)
    (hK : wpListIn F n P ops Q rest (a.put o.dst v) w) : wpListIn F n P ops Q (o :: rest) a w := by
  refine wpListIn_plain hg fun K hK' => ?_
  unfold Oper.wpIn
  refine ⟨?_, ?_⟩
  · simp [Oper.about, hop]
  · rw [Oper.semAt_plain F _ _ (by rw [hop]; intro c hc'; cases hc')]
    simp only [execOp, hop, hx, Sem.run_bind, Sem.run_pure, Result.andThen_ok, hl]
    exact hK' _ _ hK
theorem wpListIn_store (hg : o.guard = none) (T : TypeId) (x y : Operand) (hop : o.op = .store T x y) {p : Addr} (hx : a.eval x = .pointer (some p)) {v : Value} (hy : a.eval y = v) (hl : (Instr.storeAt T (.pointer (some p)) v).run P w = .ok () w')
    (hK : wpListIn F n P ops Q rest (a.put o.dst undef) w') : wpListIn F n P ops Q (o :: rest) a w := by
  refine wpListIn_plain hg fun K hK' => ?_
  unfold Oper.wpIn
  refine ⟨?_, ?_⟩
  · simp [Oper.about, hop]
  · rw [Oper.semAt_plain F _ _ (by rw [hop]; intro c hc'; cases hc')]
    simp only [execOp, hop, hx, hy, Sem.run_bind, Sem.run_pure, Result.andThen_ok, hl]
    exact hK' _ _ hK
end

theorem range_snoc {α : Type} (f : Nat → α) (k : Nat) : (List.range (k + 1)).map f = (List.range k).map f ++ [f k] := by simp [List.range_succ]
theorem range_take (cs : List Cel) (k : Nat) (h : k ≤ cs.length) : (List.range k).map (celAt cs) = cs.take k := by
  apply List.ext_getElem
  · simp; omega
  · intro i h1 h2
    simp only [List.length_map, List.length_range] at h1
    simp only [List.getElem_map, List.getElem_range, List.getElem_take]
    unfold celAt
    rw [List.getElem?_eq_getElem (by omega)]
    rfl
theorem Blk.keptL {Cs : List Nat} {w w' : World} {B t : Nat} {vs : List Value} (h : Blk w B t vs) (k : KpL Cs w w') (hB : B ∈ Cs) : Blk w' B t vs := (k B hB).trans h
theorem SkAt.keptL {Cs : List Nat} {w w' : World} {B C : Nat} {cs : List Cel} (h : SkAt w B C cs) (k : KpL Cs w w') (hB : B ∈ Cs) (hC : C ∈ Cs) : SkAt w' B C cs := by
  obtain ⟨cap, rest, h1, h2, h3⟩ := h.at'
  exact ⟨h.ok, ⟨cap, rest, h1.keptL k hB, h2.keptL k hC, h3⟩, h.pos, h.ne⟩

set_option maxRecDepth 100000 in
set_option maxHeartbeats 2000000 in
theorem cells1_in (m : Nat) (hm : 1 ≤ m) (l Bb B C : Nat) (cs : List Cel) (hbig : cs.length ≤ 100000) (J Jx : List Nat → World → Prop)
    (hY : ∀ (pre : List Nat) (x : Nat) (W : World), J pre W → pre.length < cs.length → YieldAt Fence.wide (m - 1) Try.prog l #[.int .i64 (x : Int), cv (celAt cs x)] W fun r W' =>
      (r = .returned (.bool true) ∧ J (pre ++ [x]) W' ∧ KpL [Bb, B, C] W W') ∨ (r = .returned (.bool false) ∧ Jx (pre ++ [x]) W'))
    (W : World) (hE : W.cell? ⟨Bb, 0, none⟩ = some (.pointer (some ⟨B, 0, none⟩))) (hs : SkAt W B C cs) (h0 : J [] W) :
    CallsIn Fence.wide m Try.prog 65 #[.func (.yield l) #[] #[], .pointer (some ⟨Bb, 0, none⟩)] W fun r W' => (∃ v, r = .returned v) ∧
      ((∃ ys, ys = List.range cs.length ∧ J ys W') ∨ (∃ pre, (∃ k, k ≤ cs.length ∧ pre = List.range k) ∧ Jx pre W')) := by
  have HY := hid hY
  have HE := hid hE
  have HJ := hid h0
  have HB := hid hbig
  have HS := hid hs
  have CZ : Hid (Calls Try.prog 14 #[.pointer (some ⟨B, 0, none⟩)] W fun e w' => e = .returned (.int .i64 cs.length) ∧ W = w') := hid (size_any B C cs W hs)
  have cE := HE.out
  clear hs hY hE h0 hbig
  refine callsIn_of_wp Try.func65 rfl trivial ?_ rfl
  simp only [Try.ntmps65, List.size_toArray, List.length_cons, List.length_nil, Nat.reduceAdd, Nat.reduceSub, Array.replicate_succ, Array.replicate_zero, List.push_toArray, List.append_toArray, List.nil_append, List.cons_append]
  gi_wp2_with (refine ⟨trivial, ?_⟩; gi_at_call 14; refine (callsIn_wide.2 CZ.out).mono ?_; rintro r w' ⟨rfl, rfl⟩)
  gi_loopw [6] (fun i wr => ∃ k : Nat, k ≤ cs.length ∧ i = .int .i64 k ∧ Hid (J (List.range k) wr) ∧ Hid (KpL [Bb, B, C] W wr)) (fun i _ => cs.length - (intOf i).toNat)
  case atStart => exact ⟨0, Nat.zero_le _, rfl, HJ, fun _ _ => rfl⟩
  case round =>
    obtain ⟨k, hk, rfl, hJk, hK⟩ := hrel
    have cE2 := (hK.out.cell (b := Bb) (by simp) 0).trans HE.out
    by_cases hlt : k < cs.length
    · obtain ⟨cap, hb, hs⟩ := (HS.out.keptL hK.out (by simp) (by simp)).sl
      have cB := hb.cell 0
      simp only [List.getElem?_cons_zero] at cB
      rcases hs with ⟨_, he⟩ | ⟨blk, off, cap', e1, hc, hm', hcell⟩
      · rw [he] at hlt; simp at hlt
      injection e1 with e1 e2 e3
      injection e1 with e1
      injection e1 with e1 e4 e5
      subst e1 e4 e3
      have HR := hcell k hlt
      rw [Nat.zero_add] at HR
      have HL := hid (load_cell (HS.out.ok.at k) HR)
      unfold maxLen at hm'
      obtain ⟨fn, tmps, assign, body, hy, hR⟩ := HY.out _ k wr hJk.out (by rw [List.length_range]; exact hlt)
      have HRR := hid hR
      have HT : Hid (List.range (k + 1) = List.range k ++ [k]) := hid List.range_succ
      obtain ⟨x, hx⟩ : ∃ x, celAt cs k = x := ⟨_, rfl⟩
      rw [hx] at HL hy
      have HLT := hid hlt
      clear hb hcell hR hx HR e5 e2
      gi_wp2_with (refine wpListIn_load rfl 41 (.tmp 16) rfl (p := ⟨C, k * 18, none⟩) (by rfl) HL.out ?_)
      refine HRR.out.mono ?_
      rintro r W3 (⟨rfl, hJ3, hK3⟩ | ⟨rfl, hJx3⟩)
      · have HJ3 : Hid (J (List.range (k + 1)) W3) := hid (by rw [HT.out]; exact hJ3)
        have HK3 := hid (kpL_t hK.out hK3)
        clear hJ3 hK3 hy cE2 cB hJk hK
        gi_wp2
        all_goals
          go_roundw
          case rel => exact ⟨k + 1, HLT.out, by go_num, HJ3, HK3⟩
          case measure => have := HLT.out; simp [intOf]; omega
      · have HJ3 : Hid (Jx (List.range (k + 1)) W3) := hid (by rw [HT.out]; exact hJx3)
        gi_wp2
        refine bodyPost_ret (results_none rfl _ _ _) rfl ?_
        exact ⟨⟨_, rfl⟩, .inr ⟨_, ⟨k + 1, HLT.out, rfl⟩, HJ3.out⟩⟩
    · obtain rfl : k = cs.length := by omega
      gi_wp2
      go_end0
      exact ⟨⟨_, rfl⟩, .inl ⟨_, rfl, hJk.out⟩⟩

theorem SkAt.keptC {w w' : World} {B C : Nat} {cs : List Cel} (h : SkAt w B C cs) (k : Below w.heap.size w w') : SkAt w' B C cs := by
  obtain ⟨cap, rest, h1, h2, h3⟩ := h.at'
  exact ⟨h.ok, ⟨cap, rest, (k.block B h1.lt).trans h1, (k.block C h2.lt).trans h2, h3⟩, h.pos, h.ne⟩
theorem cells_stops (n : Nat) (hn : 1 ≤ n) (Bb B C : Nat) (cs : List Cel) (hbig : cs.length ≤ 100000) (w : World) (bE : Boxed w Bb 25 (.pointer (some ⟨B, 0, none⟩))) (hs : SkAt w B C cs) :
    SeqStopsK Fence.wide n Try.prog 65 #[.pointer (some ⟨Bb, 0, none⟩)] (fun x : Nat => #[Value.int .i64 (x : Int), cv (celAt cs x)]) (KpL [Bb, B, C]) (fun ys => ys = List.range cs.length) (fun pre => ∃ k, k ≤ cs.length ∧ pre = List.range k) cs.length w := fun l J Jx W hW _ _ hY h0 =>
  cells1_in n hn l Bb B C cs hbig J Jx hY W ((hW.cell (p := ⟨Bb, 0, none⟩) bE.lt).trans bE.cell) (hs.keptC hW) h0

set_option maxHeartbeats 1000000 in
theorem cells0_any (B C : Nat) (cs : List Cel) (w : World) (h : SkAt w B C cs) (hbig : cs.length ≤ 100000) :
    Calls Try.prog 46 #[.pointer (some ⟨B, 0, none⟩)] w fun r w' => ∃ Bb B' C', r = .returned (.func (.func 65) #[] #[.pointer (some ⟨Bb, 0, none⟩)]) ∧ Boxed w' Bb 25 (.pointer (some ⟨B', 0, none⟩)) ∧ SkAt w' B' C' cs ∧ w.heap.size ≤ Bb ∧ w.heap.size ≤ B' ∧ w.heap.size ≤ C' ∧ Bb < w'.heap.size ∧ Kp Nb w w' := by
  have CC := hid (kclone_any B C cs w h hbig)
  clear h hbig
  go_enter Try.func46, Try.ntmps46
  go_wp2_with fail
  refine CC.out.mono ?_
  rintro e w1 ⟨B', C', rfl, s1, hB, hC, k1⟩
  obtain ⟨W, hW⟩ : ∃ W, W = w1.alloc (.cells #[.pointer (some ⟨B', 0, none⟩)] 25) := ⟨_, rfl⟩
  have b1 : Boxed W w1.heap.size 25 (.pointer (some ⟨B', 0, none⟩)) := by rw [hW]; exact Boxed.new w1 _ _
  have kW : Kp Nb w1 W := by rw [hW]; exact (Kp.refl Nb w1).alloc _
  have B1 := hid b1
  have S1 := hid (s1.kept kW (fun h => h) (fun h => h))
  have KW := hid (k1.trans kW (fun _ _ h => h))
  have HL := hid (show w.heap.size ≤ w1.heap.size ∧ w.heap.size ≤ B' ∧ w.heap.size ≤ C' ∧ w1.heap.size < W.heap.size from ⟨k1.size, hB, hC, b1.lt⟩)
  clear b1 kW s1 k1 hB hC CC
  go_wp2
  rw [show w1.alloc (.cells #[.pointer (some ⟨B', 0, none⟩)] 25) = W from hW.symm]
  clear hW
  go_ret
  exact ⟨_, B', C', rfl, B1.out, S1.out, HL.out.1, HL.out.2.1, HL.out.2.2.1, HL.out.2.2.2, KW.out⟩

end Go.Proofs.Yteedceepoindeaa
