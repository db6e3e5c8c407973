/-
  Layer 15: the iterator of Lacks. Conditions: a filter in memory; at most 100,000 marks.
  Layer 15: the statements' own `lacks`. Conditions: a filter in memory; at most 100,000 marks.
-/
import Derived.Test.YtpgiinogfmhfiaaPkA
import Derived.Test.YtpgiinogfmhfiaaSeqW
import Derived.RangeFuncNested
import Derived.RangeFuncBound
import Derived.RangeFuncCalls
import Derived.RangeFuncLeaves
import Derived.Shelf.Abstract
import Derived.Shelf.RegionOpen
import Derived.OwnWalkIn
import Derived.TacticsInMore
import Derived.LoopNIn
import Derived.LoopIn
import Derived.Test.YtpgiinogfmhfiaaTwo
namespace Go.Proofs.Ytpgiinogfmhfiaa
open Go.RowKit Go.Shelf
attribute [local go_sem] Oper.semAt_some

section
variable {F : Fence} {n : Nat} {P : Program} {w w' : World} {ops : Array Oper} {rest : List Oper} {o : Oper} {a : Act} {Q : Exit → Act → World → Prop}
theorem wpListIn_loadL (hw : Region.wanted o (yielded ops a.tmps) = true) (T : TypeId) (x : Operand) (hop : o.op = .load T x) {p : Addr} (hx : a.eval x = .pointer (some p)) {v : Value} (hl : (Instr.loadAt T (.pointer (some p))).run P w = .ok v w)
    (hK : wpListIn F n P ops Q rest (a.put o.dst v) w) : wpListIn F n P ops Q (o :: rest) a w := by
  refine wpListIn_step fun K hK' => ?_
  rw [if_pos hw]
  unfold Oper.wpIn
  refine ⟨?_, ?_⟩
  · simp [Oper.about, hop]
  · rw [Oper.semAt_plain F _ _ (by rw [hop]; intro c hc'; cases hc')]
    simp only [execOp, hop, hx, Sem.run_bind, Sem.run_pure, Result.andThen_ok, hl]
    exact hK' _ _ hK
theorem wpListIn_storeL (hg : o.guard = none) (T : TypeId) (x y : Operand) (hop : o.op = .store T x y) {p : Addr} (hx : a.eval x = .pointer (some p)) {v : Value} (hy : a.eval y = v) (hl : (Instr.storeAt T (.pointer (some p)) v).run P w = .ok () w')
    (hK : wpListIn F n P ops Q rest (a.put o.dst undef) w') : wpListIn F n P ops Q (o :: rest) a w := by
  refine wpListIn_plain hg fun K hK' => ?_
  unfold Oper.wpIn
  refine ⟨?_, ?_⟩
  · simp [Oper.about, hop]
  · rw [Oper.semAt_plain F _ _ (by rw [hop]; intro c hc'; cases hc')]
    simp only [execOp, hop, hx, hy, Sem.run_bind, Sem.run_pure, Result.andThen_ok, hl]
    exact hK' _ _ hK
end
/-- Blocks that stay. -/
def KpB (S : Nat → Prop) (W W' : World) : Prop := W.heap.size ≤ W'.heap.size ∧ ∀ b, S b → W'.heap[b]? = W.heap[b]?
theorem KpB.trans {S : Nat → Prop} {A B C : World} (h : KpB S A B) (k : KpB S B C) : KpB S A C := ⟨Nat.le_trans h.1 k.1, fun b hb => (k.2 b hb).trans (h.2 b hb)⟩
def LkS (Bf Bl B C : Nat) (v : Value) : Nat → Prop := fun b => b = Bf ∨ b = Bl ∨ b = B ∨ b = C ∨ v.ownBlock = some b
theorem LkAt.keptB {w w' : World} {Bf Bl B C : Nat} {v : Value} {zs : List Int} {ms : List (List Int)} (h : LkAt w Bf Bl B C v zs ms) (k : KpB (LkS Bf Bl B C v) w w') : LkAt w' Bf Bl B C v zs ms := by
  refine ⟨(k.2 _ (.inl rfl)).trans h.bf, (k.2 _ (.inr (.inl rfl))).trans h.bl, ?_, h.sl.1, ?_⟩
  · obtain ⟨cap, rest, h1, h2, h3⟩ := h.fl.at'
    exact ⟨h.fl.ok, ⟨cap, rest, (k.2 _ (.inr (.inr (.inl rfl)))).trans h1, (k.2 _ (.inr (.inr (.inr (.inl rfl))))).trans h2, h3⟩, h.fl.size, h.fl.ne⟩
  · rcases h.sl.2 with h | ⟨blk, off, cap, rfl, hc, hm, hr⟩
    · exact .inl h
    · exact .inr ⟨blk, off, cap, rfl, hc, hm, fun i hi j u hu => (World.cell?_of_block (k.2 blk (.inr (.inr (.inr (.inr rfl)))))).trans (hr i hi j u hu)⟩
theorem KpB.nb {W W' : World} {Bf Bl B C : Nat} {v : Value} {zs : List Int} {ms : List (List Int)} (h : LkAt W Bf Bl B C v zs ms) (hv : ∀ g, v.ownBlock = some g → g < W.heap.size) (k : Kp Nb W W') : KpB (LkS Bf Bl B C v) W W' := ⟨k.size, fun b hb => by
  refine k.heap ?_ (fun h => h)
  rcases hb with rfl | rfl | rfl | rfl | hb
  · exact h.bf.lt
  · exact h.bl.lt
  · exact h.fl.lt.1
  · exact h.fl.lt.2
  · exact hv _ hb⟩
abbrev z16 : List Int := List.replicate 16 0

set_option maxRecDepth 100000 in
set_option maxHeartbeats 4000000 in
theorem lacks1_in (m : Nat) (hm : 1 ≤ m) (l Bf Bl B C : Nat) (v : Value) (zs : List Int) (ms : List (List Int)) (hbig : ms.length ≤ 100000) (J Jx : List Nat → World → Prop)
    (hJ : ∀ pre W W', J pre W → Kp Nb W W' → J pre W')
    (hY : ∀ (pre : List Nat) (x : Nat) (W : World), J pre W → pre.length < ms.length → YieldAt Fence.wide (m - 1) Try.prog l #[.int .i64 (x : Int), markV (markAt ms x)] W fun r W' =>
      KpB (LkS Bf Bl B C v) W W' ∧ ((r = .returned (.bool true) ∧ J (pre ++ [x]) W') ∨ (r = .returned (.bool false) ∧ Jx (pre ++ [x]) W')))
    (W : World) (hs : LkAt W Bf Bl B C v zs ms) (hv : ∀ g, v.ownBlock = some g → g < W.heap.size) (h0 : J [] W) :
    CallsIn Fence.wide m Try.prog 46 #[.func (.yield l) #[] #[], .pointer (some ⟨Bl, 0, none⟩), .pointer (some ⟨Bf, 0, none⟩)] W fun r W' => (∃ v, r = .returned v) ∧
      ((∃ xs, xs = lackT zs ms ms.length ∧ J xs W') ∨ (∃ pre, (∃ k, k ≤ ms.length ∧ pre = lackT zs ms k) ∧ Jx pre W')) := by
  have HY := hid hY
  have HJK := hid hJ
  have HJ := hid h0
  have HS := hid hs
  have HVB := hid hv
  obtain ⟨yv, dv, rfl⟩ := hs.sl.shape
  obtain ⟨n, hn⟩ : ∃ n, ms.length = n := ⟨_, rfl⟩
  rw [hn] at HY HS HVB hbig ⊢
  have HN := hid hn
  have cL := HS.out.bl.cell
  clear hs hv hY hJ h0 hn
  refine callsIn_of_wp Try.func46 rfl trivial ?_ rfl
  simp only [Try.ntmps46, List.size_toArray, List.length_cons, List.length_nil, Nat.reduceAdd, Nat.reduceSub, Array.replicate_succ, Array.replicate_zero, List.push_toArray, List.append_toArray, List.nil_append, List.cons_append]
  gi_wp2
  gi_loopw [8] (fun i wr => ∃ k : Nat, k ≤ n ∧ i = .int .i64 k ∧ Hid (J (lackT zs ms k) wr) ∧ Hid (KpB (LkS Bf Bl B C (.slice yv n dv)) W wr)) (fun i _ => n - (intOf i).toNat)
  case atStart => exact ⟨0, Nat.zero_le _, rfl, HJ, hid ⟨Nat.le_refl _, fun _ _ => rfl⟩⟩
  case round =>
    obtain ⟨k, hk, rfl, hJk, hK⟩ := hrel
    have HSk := hid (HS.out.keptB hK.out)
    by_cases hlt : k < n
    · have cF := HSk.out.bf.cell
      rcases HSk.out.sl.2 with ⟨⟨a, c, e0⟩, he⟩ | ⟨blk, off, cap', e1, hc, hm', hcell⟩
      · have := HN.out; rw [he] at this; simp at this; omega
      injection e1 with e1 e2 e3
      subst e1 e3
      have MO := hid (HSk.out.sl.1 k)
      have HR := hcell k (by rw [HN.out]; exact hlt)
      have HL := hid (load_mark MO.out HR)
      rw [HN.out] at hc
      unfold maxLen at hm'
      obtain ⟨x, hx⟩ : ∃ x, markAt ms k = x := ⟨_, rfl⟩
      rw [hx] at HL MO
      have HX := hid hx
      have HLT := hid hlt
      clear hcell HR hx e2
      obtain ⟨W5, hW5⟩ : ∃ W, W = (wr.alloc (.cells #[.int .u8 0, .int .u8 0, .int .u8 0, .int .u8 0, .int .u8 0, .int .u8 0, .int .u8 0, .int .u8 0, .int .u8 0, .int .u8 0, .int .u8 0, .int .u8 0, .int .u8 0, .int .u8 0, .int .u8 0, .int .u8 0] 24)).setCells wr.heap.size 0 (markL x) := ⟨_, rfl⟩
      obtain ⟨M5, hM5⟩ : ∃ N, wr.heap.size = N := ⟨_, rfl⟩
      have hb0 : Blk (wr.alloc (.cells #[.int .u8 0, .int .u8 0, .int .u8 0, .int .u8 0, .int .u8 0, .int .u8 0, .int .u8 0, .int .u8 0, .int .u8 0, .int .u8 0, .int .u8 0, .int .u8 0, .int .u8 0, .int .u8 0, .int .u8 0, .int .u8 0] 24)) wr.heap.size 24 (markL z16) := Blk.new wr 24 (markL z16)
      have HST : Hid ((Instr.storeAt 24 (.pointer (some ⟨wr.heap.size, 0, none⟩)) (markV x)).run Try.prog (wr.alloc (.cells #[.int .u8 0, .int .u8 0, .int .u8 0, .int .u8 0, .int .u8 0, .int .u8 0, .int .u8 0, .int .u8 0, .int .u8 0, .int .u8 0, .int .u8 0, .int .u8 0, .int .u8 0, .int .u8 0, .int .u8 0, .int .u8 0] 24)) = .ok () W5) := hid (by
        rw [hW5]
        exact store_mark MO.out (hb0.there 0 _ (by rw [markL_length, MO.out.len]; exact Nat.le_refl 16)))
      have BM5 : Hid (Blk W5 M5 24 (markL x)) := hid (by
        rw [hW5, ← hM5]
        exact row_set hb0 (by rw [markL_length, MO.out.len]; rfl))
      have K5 : Hid (Kp Nb wr W5) := hid (by
        rw [hW5]
        exact Kp.setCells (fun h => absurd h (Nat.lt_irrefl _)) _ _ _ ((Kp.refl Nb wr).alloc _))
      have HVW : Hid (∀ g, (Value.slice (some ⟨blk, off, none⟩) n dv).ownBlock = some g → g < wr.heap.size) := hid (fun g hg => Nat.lt_of_lt_of_le (HVB.out g hg) hK.out.1)
      have KB5 : Hid (KpB (LkS Bf Bl B C (.slice (some ⟨blk, off, none⟩) n dv)) wr W5) := hid (KpB.nb HSk.out HVW.out K5.out)
      have HS5 := hid (HSk.out.keptB KB5.out)
      have HL5 := hid (load_mark MO.out (range_of BM5.out))
      have cF5 := HS5.out.bf.cell
      have CM : Hid (Calls Try.prog 17 #[.pointer (some ⟨B, 0, none⟩), markV x] W5 fun e w' => e = .returned (.bool (mayB zs x)) ∧ Kp Nb W5 w') := hid (lmay_any B C zs x W5 HS5.out.fl MO.out)
      rw [hM5] at HST
      clear hW5 hb0 cF
      obtain ⟨b, hb⟩ : ∃ b, mayB zs x = b := ⟨_, rfl⟩
      rw [hb] at CM
      have HBB := hid hb
      clear hb
      cases b
      · have HT : Hid (lackT zs ms (k + 1) = lackT zs ms k ++ [k]) := hid (lackT_yes zs ms k (by rw [HX.out]; exact HBB.out))
        have HLEN : Hid ((lackT zs ms k).length < n) := hid (by
          have h := List.length_filter_le (fun i => !mayB zs (markAt ms i)) (List.range k)
          rw [List.length_range] at h
          unfold lackT
          omega)
        gi_wp2_with (first
          | (refine wpListIn_loadL rfl 24 (.tmp 11) rfl (p := ⟨blk, off + k * 16, none⟩) (by rfl) HL.out ?_)
          | (refine wpListIn_storeL rfl 24 (.tmp 5) (.tmp 12) rfl (p := ⟨M5, 0, none⟩) (by rfl) (v := markV x) (by rfl) HST.out ?_)
          | (refine wpListIn_loadL rfl 24 (.tmp 5) rfl (p := ⟨M5, 0, none⟩) (by rfl) HL5.out ?_)
          | (refine wpListIn_loadL (by first | rfl | kernel_rfl) 24 (.tmp 5) rfl (p := ⟨M5, 0, none⟩) (by rfl) HL6.out ?_)
          | (refine ⟨trivial, ?_⟩; gi_at_call 17; refine (callsIn_wide.2 CM.out).mono ?_; rintro r w2 ⟨rfl, k2⟩; have K6 := hid (K5.out.trans k2 (fun _ _ h => h)); have HL6 := hid (load_mark MO.out (range_of (BM5.out.kept k2 (fun h => h)))); obtain ⟨fn, tmps, assign, body, hy, hR⟩ := HY.out (lackT zs ms k) k w2 (HJK.out _ _ _ hJk.out K6.out) HLEN.out; rw [HX.out] at hy; have HRR := hid hR; clear hR k2 cF5))
        have KX6 := hid (hK.out.trans (KpB.nb HSk.out HVW.out K6.out))
        refine HRR.out.mono ?_
        rintro r W3 ⟨kk, (⟨rfl, hJ3⟩ | ⟨rfl, hJx3⟩)⟩
        · have JX := hid hJ3
          have KX := hid (KX6.out.trans kk)
          clear hJ3 kk hy
          gi_wp2
          all_goals
            go_roundw
            case rel => exact ⟨k + 1, HLT.out, by go_num, by rw [HT.out]; exact JX, KX⟩
            case measure => have := HLT.out; simp [intOf]; omega
        · have JX := hid hJx3
          clear hJx3 kk hy
          gi_wp2
          refine bodyPost_ret (results_none rfl _ _ _) rfl ?_
          exact ⟨⟨_, rfl⟩, .inr ⟨_, ⟨k + 1, HLT.out, rfl⟩, by rw [HT.out]; exact JX.out⟩⟩
      · have HT : Hid (lackT zs ms (k + 1) = lackT zs ms k) := hid (lackT_no zs ms k (by rw [HX.out]; exact HBB.out))
        gi_wp2_with (first
          | (refine wpListIn_loadL rfl 24 (.tmp 11) rfl (p := ⟨blk, off + k * 16, none⟩) (by rfl) HL.out ?_)
          | (refine wpListIn_storeL rfl 24 (.tmp 5) (.tmp 12) rfl (p := ⟨M5, 0, none⟩) (by rfl) (v := markV x) (by rfl) HST.out ?_)
          | (refine wpListIn_loadL rfl 24 (.tmp 5) rfl (p := ⟨M5, 0, none⟩) (by rfl) HL5.out ?_)
          | (refine ⟨trivial, ?_⟩; gi_at_call 17; refine (callsIn_wide.2 CM.out).mono ?_; rintro r w2 ⟨rfl, k2⟩; have K6 := hid (K5.out.trans k2 (fun _ _ h => h)); clear k2 cF5))
        have JX := hid (HJK.out _ _ _ hJk.out K6.out)
        have KX := hid (hK.out.trans (KpB.nb HSk.out HVW.out K6.out))
        refine ⟨(fun f h => by cases h), ?_⟩
        gi_wp2
        all_goals
          go_roundw
          case rel => exact ⟨k + 1, HLT.out, by go_num, by rw [HT.out]; exact JX, KX⟩
          case measure => have := HLT.out; simp [intOf]; omega
    · obtain rfl : k = n := by omega
      gi_wp2
      go_end0
      exact ⟨⟨_, rfl⟩, .inl ⟨_, rfl, hJk.out⟩⟩

/-- The iterator's contract. -/
theorem lacks_seq (n : Nat) (hn : 1 ≤ n) (Bf Bl B C : Nat) (v : Value) (zs : List Int) (ms : List (List Int)) (hbig : ms.length ≤ 100000) (w : World) (hs : LkAt w Bf Bl B C v zs ms) (hv : ∀ g, v.ownBlock = some g → g < w.heap.size) :
    SeqW Fence.wide n Try.prog 46 #[.pointer (some ⟨Bl, 0, none⟩), .pointer (some ⟨Bf, 0, none⟩)] (fun x : Nat => #[Value.int .i64 (x : Int), markV (markAt ms x)]) (KpB (LkS Bf Bl B C v)) (fun xs _ => xs = lackT zs ms ms.length) (fun pre _ => ∃ k, k ≤ ms.length ∧ pre = lackT zs ms k) ms.length w := fun l J Jx W hW hJ _ hY h0 => by
  have k : Kp Nb w W := Kp.of_below hW
  exact lacks1_in n hn l Bf Bl B C v zs ms hbig J Jx (fun pre A C hj hk => hJ pre A C none hj ⟨hk.os, hk.tape, hk.output, hk.size, fun i hi _ => hk.block i hi (fun h => h)⟩ (fun r e => by cases e)) hY W (hs.kept k) (fun g hg => Nat.lt_of_lt_of_le (hv g hg) k.size) h0

end Go.Proofs.Ytpgiinogfmhfiaa

namespace Go.Proofs.Ytpgiinogfmhfiaa
open Go.RowKit Go.Shelf
attribute [local go_sem] Oper.semAt_some

abbrev f1B (x : Nat) : List Value := [.int .i64 (x : Int)]
abbrev f2B (ms : List (List Int)) (x : Nat) : List Value := markL (markAt ms x)
theorem fiB_load (w : World) (B : Nat) (u : Value) (h : w.cell? ⟨B, 0, none⟩ = some u) : (Instr.loadAt 36 (.pointer (some ⟨B, 0, none⟩))).run Try.prog w = .ok u w := by go_simp
theorem fiB_make (w : World) (x : Int) : (Instr.buildSlice 36 1 #[(0, .int .i64 x)]).run Try.prog w = .ok (.slice (some ⟨w.heap.size, 0, none⟩) 1 1) (w.alloc (.cells #[.int .i64 x] 3 (0, 0))) := by go_simp
theorem fiB_store (w : World) (B g n cap : Nat) (u : Value) (h : w.cell? ⟨B, 0, none⟩ = some u) (hf : w.frozen? ⟨B, 0, none⟩ = false) : (Instr.storeAt 36 (.pointer (some ⟨B, 0, none⟩)) (.slice (some ⟨g, 0, none⟩) n cap)).run Try.prog w = .ok () (w.setCell ⟨B, 0, none⟩ (.slice (some ⟨g, 0, none⟩) n cap)) := by go_simp
theorem fiB_info : (Try.prog.info? 3).map (fun i => (i.zero, i.size, i.bytes)) = some (some (.int .i64 0), 1, 8) := by kernel_rfl
theorem fmB_load (w : World) (B : Nat) (u : Value) (h : w.cell? ⟨B, 0, none⟩ = some u) : (Instr.loadAt 22 (.pointer (some ⟨B, 0, none⟩))).run Try.prog w = .ok u w := by go_simp
theorem fmB_make (w : World) (m : List Int) (hm : m.length = 16) : (Instr.buildSlice 22 1 #[(0, markV m)]).run Try.prog w = .ok (.slice (some ⟨w.heap.size, 0, none⟩) 1 1) (w.alloc (.cells (markL m).toArray 24 (0, 0))) := by
  obtain ⟨a0, a1, a2, a3, a4, a5, a6, a7, a8, a9, a10, a11, a12, a13, a14, a15, rfl⟩ := sixteen m hm
  kernel_rfl
theorem fmB_store (w : World) (B g n cap : Nat) (u : Value) (h : w.cell? ⟨B, 0, none⟩ = some u) (hf : w.frozen? ⟨B, 0, none⟩ = false) : (Instr.storeAt 22 (.pointer (some ⟨B, 0, none⟩)) (.slice (some ⟨g, 0, none⟩) n cap)).run Try.prog w = .ok () (w.setCell ⟨B, 0, none⟩ (.slice (some ⟨g, 0, none⟩) n cap)) := by go_simp
theorem fmB_info : (Try.prog.info? 24).map (fun i => (i.zero, i.size, i.bytes)) = some (some (.agg #[.int .u8 0, .int .u8 0, .int .u8 0, .int .u8 0, .int .u8 0, .int .u8 0, .int .u8 0, .int .u8 0, .int .u8 0, .int .u8 0, .int .u8 0, .int .u8 0, .int .u8 0, .int .u8 0, .int .u8 0, .int .u8 0]), 16, 16) := by kernel_rfl
theorem fmB_notnil (w : World) (f : Nat) (c : Array Value) : (binOp BinOp.eql 63 (.func (.func f) #[] c) .nilFunc).run Try.prog w = .ok (.bool false) w := by kernel_rfl

/-- One of the two, whose element is loaded from its own block. -/
def mkChB (B T e size base k : Nat) (v xa x : Value) (xs cells : List Value) (tb tx d i it : Nat) (src : World → Prop) : Ch :=
  { T, B, e, size, base, k, v, x, xs, cells, tb, tx, dl := d, dm := d + 1, ds := d + 2, dp := d + 3, il := i, im := i + 1, ib := i + 2, ip := i + 3, it, xa, src }

theorem mkB_ok {P : Program} {ops : Array Oper} {N : Nat} {B T e size base k : Nat} {v x : Value} {xs cells : List Value} {tb tx d i it Tf Nf : Nat} {src : World → Prop}
    (load : ∀ (w : World) (u : Value), w.cell? ⟨B, 0, none⟩ = some u → (Instr.loadAt T (.pointer (some ⟨B, 0, none⟩))).run P w = .ok u w)
    (make : ∀ w : World, (Instr.buildSlice T 1 #[(0, x)]).run P w = .ok (.slice (some ⟨w.heap.size, 0, none⟩) 1 1) (w.alloc (.cells cells.toArray e (0, 0))))
    (store : ∀ (w : World) (g n cap : Nat) (u : Value), w.cell? ⟨B, 0, none⟩ = some u → w.frozen? ⟨B, 0, none⟩ = false → (Instr.storeAt T (.pointer (some ⟨B, 0, none⟩)) (.slice (some ⟨g, 0, none⟩) n cap)).run P w = .ok () (w.setCell ⟨B, 0, none⟩ (.slice (some ⟨g, 0, none⟩) n cap)))
    (slice : P.underlying T = some (.slice e)) {z : Value} {bytes : Nat} (info : (P.info? e).map (fun i => (i.zero, i.size, i.bytes)) = some (some z, size, bytes)) (hz : z.cells.size = size) (hreach : (k + 1) * bytes ≤ 140737488355328) (hmost : k + 1 ≤ maxLen)
    (hsize : 0 < size) (one : ∀ u ∈ cells, u.oneCell' = true) (len : cells.length = size) (te : T ≠ e)
    {ol om ob op ot : Oper} (hl : ops[i]? = some ol) (hl2 : ol.op = .load T (.tmp tb) ∧ ol.dst = some d ∧ ol.guard = none) (hm : ops[i + 1]? = some om) (hm2 : om.op = .load Tf (.tmp tx) ∧ om.dst = some (d + 1) ∧ om.guard = none)
    (hsrc : ∀ w, src w → (Instr.loadAt Tf (.pointer (some ⟨Nf, 0, none⟩))).run P w = .ok x w)
    (hb : ops[i + 2]? = some ob) (hb2 : ob.op = .buildSlice T 1 #[(0, .tmp (d + 1))] ∧ ob.dst = some (d + 2) ∧ ob.guard = none)
    (hp : ops[i + 3]? = some op) (hp2 : op.op = .call { callee := .builtin .append, args := #[.tmp d, .tmp (d + 2)], argTypes := #[T, T] } ∧ op.dst = some (d + 3) ∧ op.guard = none)
    (ht : ops[it]? = some ot) (ht2 : ot.op = .store T (.tmp tb) (.tmp (d + 3)) ∧ ot.dst = none ∧ ot.guard = none)
    (w1 : waitsB ops (i + 2) (i + 1) = true) (w2 : waitsB ops (i + 3) i = true) (w3 : waitsB ops (i + 3) (i + 2) = true) (w4 : waitsB ops it (i + 3) = true)
    (hd : d + 3 < N) (htb : tb < d) (htx : tx < d) (hit : i + 3 < it) : (mkChB B T e size base k v (.pointer (some ⟨Nf, 0, none⟩)) x xs cells tb tx d i it src).Ok P ops N := by
  refine { load := load, make := make, store := store, slice := slice, info := ?_, size := hsize, one := one, len := len, most := hmost, te := te, ol := ⟨ol, hl, hl2⟩, om := ⟨om, hm, (fun d h => by rw [hm2.1] at h; cases h), (fun _ _ => by simp [Oper.about, hm2.1]), (fun w a hs h => by simp only [mkChB] at h hs; simp [execOp, hm2.1, h, mkChB, hsrc w hs]), hm2.2⟩, ob := ⟨ob, hb, hb2.1, hb2.2.1, hb2.2.2, waits_of w1 hb⟩, op := ⟨op, hp, hp2.1, hp2.2.1, hp2.2.2, waits_of w2 hp, waits_of w3 hp⟩, ot := ⟨ot, ht, ht2.1, ht2.2.1, ht2.2.2, waits_of w4 ht⟩, ds := ?_, ne := ?_, ni := ?_ }
  · obtain ⟨i0, hi, h1, h2, h3⟩ := info_parts info
    exact ⟨i0, z, bytes, hi, h1, h2, h3, hz, hreach⟩
  · simp only [mkChB]; omega
  · simp only [mkChB]; omega
  · simp only [mkChB]; omega

theorem row_tyB {W : World} {base e size k : Nat} {v : Value} {xs : List Value} (h : W.ownsRow base e size v k xs) {g : Nat} (hg : v.ownBlock = some g) : ∃ cs fr, W.heap[g]? = some (Obj.cells cs e fr) := by
  rcases h.2 with ⟨rfl, _⟩ | ⟨g', cap, cur, rfl, hb, hgg, _⟩
  · simp [Value.ownBlock] at hg
  · have : g' = g := by simpa [Value.ownBlock] using hg
    subst this
    exact ⟨_, _, hgg⟩

/-- The blocks that a round turns. -/
def S0B (q : CollAt) (v1 v2 : Value) : Nat → Prop := fun b => b = q.B1 ∨ b = q.B2 ∨ v1.ownBlock = some b ∨ v2.ownBlock = some b
theorem S0B.coll {q : CollAt} {v1 v2 : Value} {W : World} {k1 k2 : Nat} {xs ys : List Value} (o1 : W.ownsRow q.base q.e1 q.s1 v1 k1 xs) (o2 : W.ownsRow q.base q.e2 q.s2 v2 k2 ys) (b : Nat) (h : S0B q v1 v2 b) : CollS q b := by
  rcases h with h | h | h | h
  · exact .inl h
  · exact .inr (.inl h)
  · exact .inr (.inr (row_cells o1 h).1)
  · exact .inr (.inr (row_cells o2 h).1)
/-- What has another type than the boxes and the rows isn't turned. -/
theorem S0B.ty {q : CollAt} {v1 v2 : Value} {W : World} {k1 k2 : Nat} {xs ys : List Value} (b1 : Boxed W q.B1 q.T1 v1) (b2 : Boxed W q.B2 q.T2 v2) (o1 : W.ownsRow q.base q.e1 q.s1 v1 k1 xs) (o2 : W.ownsRow q.base q.e2 q.s2 v2 k2 ys)
    {b t : Nat} {cs : Array Value} {fr : Nat × Nat} (hb : W.heap[b]? = some (Obj.cells cs t fr)) (h1 : t ≠ q.T1) (h2 : t ≠ q.T2) (h3 : t ≠ q.e1) (h4 : t ≠ q.e2) : ¬ S0B q v1 v2 b := by
  rintro (rfl | rfl | h | h)
  · have := hb.symm.trans (show W.heap[q.B1]? = some _ from b1)
    injection this with h; injection h with _ h; exact h1 h
  · have := hb.symm.trans (show W.heap[q.B2]? = some _ from b2)
    injection this with h; injection h with _ h; exact h2 h
  · obtain ⟨cs', fr', e⟩ := row_tyB o1 h
    have := hb.symm.trans e
    injection this with h; injection h with _ h; exact h3 h
  · obtain ⟨cs', fr', e⟩ := row_tyB o2 h
    have := hb.symm.trans e
    injection this with h; injection h with _ h; exact h4 h

theorem own_lt {W : World} {base e size k : Nat} {v : Value} {xs : List Value} (h : W.ownsRow base e size v k xs) {g : Nat} (hg : v.ownBlock = some g) : base ≤ g := (row_cells h hg).1
/-- What stands between the boxes and the rows isn't turned. -/
theorem Moves.kpB {q : CollAt} {v1 v2 : Value} {W W' : World} {k1 k2 H : Nat} {xs ys : List Value} {S : Nat → Prop} (m : Moves (S0B q v1 v2) W W') (o1 : W.ownsRow q.base q.e1 q.s1 v1 k1 xs) (o2 : W.ownsRow q.base q.e2 q.s2 v2 k2 ys)
    (hS : ∀ b, S b → H ≤ b ∧ b < q.base) (h1 : q.B1 < H) (h2 : q.B2 < H) (hb : q.base ≤ W.heap.size) : KpB S W W' :=
  ⟨m.size, fun b hb' => m.same b (by have := hS b hb'; omega) (by
    have h3 := hS b hb'
    rintro (e | e | e | e)
    · omega
    · omega
    · have := own_lt o1 e; omega
    · have := own_lt o2 e; omega)⟩
theorem CollI.keptB {α : Type} {q : CollAt} {f1 f2 : α → List Value} {w W W' : World} {Bm : Nat} {m : Int} {pre : List α} (h : CollI q f1 f2 w Bm m pre W) (k : Kp Nb W W') : CollI q f1 f2 w Bm m pre W' := by
  obtain ⟨⟨⟨v1, v2, b1, b2, o1, o2, hs⟩, hm, hl, hb⟩, hB⟩ := h
  exact ⟨⟨⟨v1, v2, (k.heap b1.lt (fun h => h)).trans b1, (k.heap b2.lt (fun h => h)).trans b2, ownsRow_same o1 (fun g hg => by obtain ⟨-, o, ho, -⟩ := row_cells o1 hg; exact k.heap (Array.getElem?_eq_some_iff.1 ho).1 (fun h => h)), ownsRow_same o2 (fun g hg => by obtain ⟨-, o, ho, -⟩ := row_cells o2 hg; exact k.heap (Array.getElem?_eq_some_iff.1 ho).1 (fun h => h)), hs⟩, by
    have hlt : Bm < W.heap.size := by
      unfold World.cell? at hm
      cases hx : W.heap[Bm]? with
      | none => rw [hx] at hm; cases hm
      | some o => exact (Array.getElem?_eq_some_iff.1 hx).1
    exact (World.cell?_of_block (k.heap hlt (fun h => h))).trans hm, hl, Nat.le_trans hb k.size⟩, hB.trans (k.below hB.size (fun _ _ h => h))⟩
/-- The mark's own block, apart from the row. -/
def AxB (q : CollAt) (ms : List (List Int)) (fr : Nat → Act) (x : Nat) (a' : Act) (W : World) : Prop :=
  ∃ N u, q.base ≤ N ∧ a' = fr N ∧ Blk W N 24 (markL (markAt ms x)) ∧ Boxed W q.B2 q.T2 u ∧ u.ownBlock ≠ some N
theorem axB_own (q : CollAt) (ms : List (List Int)) (fr : Nat → Act) (x : Nat) (a' : Act) {B : Nat} : OwnFrom B (fun (_ : Unit) W => AxB q ms fr x a' W) :=
  Own.from (fun _ A W row hs hg hr => by
    obtain ⟨N, u, h1, h2, h3, h4, h5⟩ := hs
    exact ⟨N, u, h1, h2, (hg.block N h3.lt (fun e => by obtain ⟨o, ho, hc⟩ := hr _ e.symm; rw [show A.heap[N]? = _ from h3] at ho; cases ho; cases hc)).trans h3, h4.kept hg (fun e => by
      obtain ⟨o, ho, hc⟩ := hr _ e.symm
      have := (show A.heap[_]? = _ from h4).symm.trans ho
      cases this
      cases hc), h5⟩) _
theorem collB_region {F : Fence} {n : Nat} {P : Program} {ops : Array Oper} {Q : Exit → Act → World → Prop} {rid N : Nat} {a : Act} {W : World} {q : CollAt} {y1 : Value} {ms : List (List Int)} {pre : List Nat} {x : Nat} {tb1 tx1 tb2 tx2 d : Nat}
    (hmx : P.follows .mixedOrders = true) (hup : upsB ops = true) (hsz : ops.size = 10)
    {v1 v2 : Value} (b1 : Boxed W q.B1 q.T1 v1) (b2 : Boxed W q.B2 q.T2 v2) (o1 : W.ownsRow q.base q.e1 q.s1 v1 pre.length (pre.flatMap f1B)) (o2 : W.ownsRow q.base q.e2 q.s2 v2 pre.length (pre.flatMap (f2B ms))) (hs : ∀ g, v1.ownBlock = some g → v2.ownBlock ≠ some g)
    {src : World → Prop} {xa x2 : Value}
    (k1 : (mkCh q.B1 q.T1 q.e1 q.s1 q.base pre.length v1 y1 (pre.flatMap f1B) (f1B x) tb1 tx1 d 0 8).Ok P ops N)
    (k2 : (mkChB q.B2 q.T2 q.e2 q.s2 q.base pre.length v2 xa x2 (pre.flatMap (f2B ms)) ((f2B ms) x) tb2 tx2 (d + 4) 4 9 src).Ok P ops N)
    (hsrc : ∀ w', Moves (S0B q v1 v2) W w' → src w')
    (hN : a.tmps.size = N) (t1 : a.eval (.tmp tb1) = .pointer (some ⟨q.B1, 0, none⟩)) (t2 : a.eval (.tmp tb2) = .pointer (some ⟨q.B2, 0, none⟩)) (x1 : a.eval (.tmp tx1) = y1) (x2' : a.eval (.tmp tx2) = xa)
    (hd1 : tb1 < d ∧ tx1 < d) (hd2 : tb2 < d ∧ tx2 < d) (hB : q.B1 ≠ q.B2) (e12 : q.T1 ≠ q.e2) (e21 : q.T2 ≠ q.e1) (hbase : q.base ≤ W.heap.size)
    (hQ : ∀ (a' : Act) (W' : World), Coll q f1B (f2B ms) (pre ++ [x]) W' → Moves (S0B q v1 v2) W W' → Q .normal a' W') :
    (Code.region rid ops true).wpIn F n P Q a W := by
  refine two_appends hmx (ups_of hup) k1 k2 hsz ?_ ?_ ?_ ?_ hN t1 t2 x1 x2' b1 b2 o1 o2 hB e12 e21 hs hbase hbase (fun _ _ => trivial) hsrc ?_
  · intro i hi
    simp only [mkCh, mkChB, List.mem_cons, List.not_mem_nil, or_false]
    omega
  · simp only [mkCh, mkChB, List.mem_cons, List.not_mem_nil, or_false]
    omega
  · simp only [mkCh, mkChB, List.mem_cons, List.not_mem_nil, or_false]
    omega
  · simp only [mkCh, mkChB, List.mem_cons, List.not_mem_nil, or_false]
    omega
  · rintro a' W' u1 u2 ⟨c1, c2⟩ ⟨c3, c4⟩ hsep hm
    refine hQ a' W' ⟨u1, u2, c1, c3, ?_, ?_, hsep⟩ hm
    · rw [List.length_append, List.flatMap_append, List.flatMap_singleton]
      exact c2
    · rw [List.length_append, List.flatMap_append, List.flatMap_singleton]
      exact c4


theorem static_own (P : Prop) {B : Nat} : OwnFrom B (fun (_ : Unit) (_ : World) => P) := Own.from (fun _ _ _ _ hs _ _ => hs) _
theorem lackT_pre {zs : List Int} {ms : List (List Int)} {k : Nat} {pre : List Nat} {x : Nat} (h : pre ++ [x] = lackT zs ms k) (hk : k ≤ ms.length) : pre = (lackT zs ms ms.length).take pre.length := by
  have e : lackT zs ms ms.length = lackT zs ms k ++ ((List.range' k (ms.length - k)).filter fun i => !mayB zs (markAt ms i)) := by
    unfold lackT
    rw [← List.filter_append]
    congr 1
    obtain ⟨d, hd⟩ : ∃ d, ms.length = k + d := ⟨ms.length - k, by omega⟩
    rw [hd, Nat.add_sub_cancel_left, List.range_eq_range', List.range_eq_range', ← List.range'_append_1, Nat.zero_add]
  rw [e, ← h, List.append_assoc, List.take_left]

set_option maxRecDepth 100000 in
set_option maxHeartbeats 4000000 in
theorem llacks_in (n : Nat) (hn : 3 ≤ n) (B C : Nat) (v : Value) (zs : List Int) (ms : List (List Int)) (m : Int) (w : World) (hf : FlAt w B C zs) (hv : MkSl w v ms) (hbig : ms.length ≤ 100000) :
    CallsIn Fence.wide n Try.prog 12 #[.pointer (some ⟨B, 0, none⟩), v, .int .i64 m] w fun e w' => ∃ v1 v2 xs, e = .returned (.tuple #[v1, v2]) ∧ xs = (lackT zs ms ms.length).take m.toNat ∧
      w'.ownsRow w.heap.size 3 1 v1 xs.length (xs.flatMap f1B) ∧ w'.ownsRow w.heap.size 24 16 v2 xs.length (xs.flatMap (f2B ms)) ∧ Below w.heap.size w w' := by
  have h1 : 1 ≤ n := by omega
  have hnil := fun (w : World) (c : Array Value) => fmB_notnil w 46 c
  have MKO := hid hv.1
  have CC : Hid (∀ wx, Kp Nb w wx → Calls Try.prog 30 #[.pointer (some ⟨B, 0, none⟩), v] wx fun e w' => ∃ (Bf Bl B' C' : Nat) (v' : Value), e = .returned (.func (.func 46) #[] #[.pointer (some ⟨Bl, 0, none⟩), .pointer (some ⟨Bf, 0, none⟩)]) ∧ LkAt w' Bf Bl B' C' v' zs ms ∧ wx.heap.size ≤ Bf ∧ wx.heap.size ≤ Bl ∧ wx.heap.size ≤ B' ∧ wx.heap.size ≤ C' ∧ (∀ g, v'.ownBlock = some g → wx.heap.size ≤ g ∧ g < w'.heap.size) ∧ Bf ≠ Bl ∧ Kp Nb wx w') :=
    hid fun wx k => (llacks_any B C v zs ms wx (hf.kept k (fun h => h) (fun h => h)) (hv.kept k) hbig).mono fun e w' ⟨Bf, Bl, B', C', v', h1, h2, h3, h4, h5, h6, h7, h8, h9⟩ =>
      ⟨Bf, Bl, B', C', v', h1, h2, h3, h4, h5, h6, h7, h8, h9⟩
  have HBIG := hid hbig
  clear hv hf hbig
  refine callsIn_of_wp_marks Try.func12 rfl trivial ?_ rfl
  simp only [Try.ntmps12, List.size_toArray, List.length_cons, List.length_nil, Nat.reduceAdd, Nat.reduceSub, Array.replicate_succ, Array.replicate_zero, List.push_toArray, List.append_toArray, List.nil_append, List.cons_append]
  gi_wp2_with (refine ⟨trivial, ?_⟩; gi_at_call 30; refine (callsIn_wide.2 (CC.out _ ((((Kp.refl Nb w).alloc _).alloc _).alloc _))).mono ?_; rintro r W0 ⟨Bf, Bl, B', C', v', rfl, c3, l1, l2, l3, l4, l5, l6, k0⟩)
  have b0 := Boxed.new w 3 (.int .i64 m)
  have b1 := Boxed.new (w.alloc (.cells #[.int .i64 m] 3)) 36 (.slice none 0 0)
  have b2 := Boxed.new ((w.alloc (.cells #[.int .i64 m] 3)).alloc (.cells #[.slice none 0 0] 36)) 22 (.slice none 0 0)
  simp only [World.size_alloc] at b1 b2 l1 l2 l3 l4 l5
  have d0 := (b0.alloc (.cells #[.slice none 0 0] 36)).alloc (.cells #[.slice none 0 0] 22)
  have d1 := b1.alloc (.cells #[.slice none 0 0] 22)
  have c0' : Boxed W0 w.heap.size 3 (.int .i64 m) := (k0.heap (by simp; omega) (fun h => h)).trans d0
  have c1' : Boxed W0 (w.heap.size + 1) 36 (.slice none 0 0) := (k0.heap (by simp) (fun h => h)).trans d1
  have c2' : Boxed W0 (w.heap.size + 1 + 1) 22 (.slice none 0 0) := (k0.heap (by simp) (fun h => h)).trans b2
  have hB0 : Below w.heap.size w W0 := (((((Kp.refl Nb w).alloc _).alloc _).alloc _).trans k0 (fun _ _ h => h)).below (Nat.le_refl _) (fun _ _ h => h)
  obtain ⟨Z, hZ0⟩ : ∃ Z, Z = W0.heap.size := ⟨_, rfl⟩
  have HLK : Hid (∀ b, LkS Bf Bl B' C' v' b → w.heap.size + 1 + 1 + 1 ≤ b ∧ b < Z) := hid (fun b hb => by
    rcases hb with rfl | rfl | rfl | rfl | hb
    · exact ⟨l1, by rw [hZ0]; exact c3.bf.lt⟩
    · exact ⟨l2, by rw [hZ0]; exact c3.bl.lt⟩
    · exact ⟨l3, by rw [hZ0]; exact c3.fl.lt.1⟩
    · exact ⟨l4, by rw [hZ0]; exact c3.fl.lt.2⟩
    · rw [hZ0]; exact l5 b hb)
  have HLG : Hid (∀ g, v'.ownBlock = some g → g < W0.heap.size) := hid (fun g hg => (l5 g hg).2)
  have HL' := hid (show w.heap.size + 1 + 1 + 1 ≤ Z ∧ W0.heap.size = Z from ⟨by have := l1; have := c3.bf.lt; omega, hZ0.symm⟩)
  obtain ⟨q, hq⟩ : ∃ q : CollAt, q = ⟨w.heap.size + 1, 36, 3, 1, w.heap.size + 1 + 1, 22, 24, 16, Z⟩ := ⟨_, rfl⟩
  have HQ := hid hq
  have HB0 := hid hB0
  have HI0 := hid (CollI.start (q := q) f1B (f2B ms) (by rw [hq]; exact c1') (by rw [hq]; exact c2') c0'.cell (by rw [hq]; exact Nat.le_of_eq hZ0) hB0)
  have HC3 := hid c3
  clear hZ0 hB0 b0 b1 b2 d0 d1 c0' c1' c2' k0 c3 l1 l2 l3 l4 l5 l6 hq
  refine wpIn_rangeW rfl h1 (gf := 46) (lb := #[.pointer (some ⟨Bl, 0, none⟩), .pointer (some ⟨Bf, 0, none⟩)]) rfl trivial (enters_of Try.func46 (by kernel_rfl) rfl)
    (lacks_seq (n - 1) (by omega) Bf Bl B' C' v' zs ms HBIG.out W0 HC3.out HLG.out) (fun h k => h.trans k) (fun W l o o' hl hW hc => ⟨by simp, fun b hb => World.putObj_heap_other (fun e' => by have := HLK.out b hb; have := HL'.out; omega)⟩)
    (fun xs => static_own _) (fun xs => static_own _) (Below.refl _ _) (fun x => rfl)
    (CollI q f1B (f2B ms) w w.heap.size m) (CollX q f1B (f2B ms) w m) (collI_own _ _ _ _ _ _ HB0.out.size) (fun c => collX_own _ _ _ _ _ c HB0.out.size) HI0.out
    (fun x a' W => AxB q ms (fun N => { tmps := #[.pointer (some ⟨B, 0, none⟩), v, .int .i64 m, undef, undef, .pointer (some ⟨w.heap.size, 0, none⟩), .slice none 0 0, .slice none 0 0, .pointer (some ⟨w.heap.size + 1, 0, none⟩), .pointer (some ⟨w.heap.size + 1 + 1, 0, none⟩), .func (.func 46) #[] #[.pointer (some ⟨Bl, 0, none⟩), .pointer (some ⟨Bf, 0, none⟩)], .int .i64 (x : Int), .pointer (some ⟨N, 0, none⟩), .pointer (some ⟨B, 0, none⟩), v, .func (.func 46) #[] #[.pointer (some ⟨Bl, 0, none⟩), .pointer (some ⟨Bf, 0, none⟩)], .func (.func 46) #[] #[.pointer (some ⟨Bl, 0, none⟩), .pointer (some ⟨Bf, 0, none⟩)], .bool false, .func (.func 46) #[] #[.pointer (some ⟨Bl, 0, none⟩), .pointer (some ⟨Bf, 0, none⟩)], .int .i64 (x : Int), markV (markAt ms x), undef, undef, undef, undef, undef, undef, undef, undef, undef, undef, undef, undef, undef, undef], defers := [] }) x a' W)
    (fun x a' => axB_own q ms _ x a') ?assign ?body ?done ?stop
  case assign =>
    intro l pre x W K hI hK
    have HI := hid hI
    obtain ⟨⟨⟨v1, v2, b1, b2, o1, o2, hs⟩, hm, hlen, hbase⟩, hB⟩ := hI
    have HB2 := hid b2
    have HZ := hid hbase
    have HO2 : Hid (∀ g, v2.ownBlock = some g → g < W.heap.size) := hid (fun g hg => by obtain ⟨-, o, ho, -⟩ := row_cells o2 hg; exact (Array.getElem?_eq_some_iff.1 ho).1)
    have HBZ : Hid (Z ≤ W.heap.size) := hid (by rw [HQ.out] at hbase; exact hbase)
    have HK := hid hK
    have MO := hid (MKO.out x)
    clear b1 b2 o1 o2 hs hm hlen hbase hB hK
    obtain ⟨W5, hW5⟩ : ∃ W', W' = (W.alloc (.cells #[.int .u8 0, .int .u8 0, .int .u8 0, .int .u8 0, .int .u8 0, .int .u8 0, .int .u8 0, .int .u8 0, .int .u8 0, .int .u8 0, .int .u8 0, .int .u8 0, .int .u8 0, .int .u8 0, .int .u8 0, .int .u8 0] 24)).setCells W.heap.size 0 (markL (markAt ms x)) := ⟨_, rfl⟩
    have hb0 : Blk (W.alloc (.cells #[.int .u8 0, .int .u8 0, .int .u8 0, .int .u8 0, .int .u8 0, .int .u8 0, .int .u8 0, .int .u8 0, .int .u8 0, .int .u8 0, .int .u8 0, .int .u8 0, .int .u8 0, .int .u8 0, .int .u8 0, .int .u8 0] 24)) W.heap.size 24 (markL z16) := Blk.new W 24 (markL z16)
    have HST : Hid ((Instr.storeAt 24 (.pointer (some ⟨W.heap.size, 0, none⟩)) (markV (markAt ms x))).run Try.prog (W.alloc (.cells #[.int .u8 0, .int .u8 0, .int .u8 0, .int .u8 0, .int .u8 0, .int .u8 0, .int .u8 0, .int .u8 0, .int .u8 0, .int .u8 0, .int .u8 0, .int .u8 0, .int .u8 0, .int .u8 0, .int .u8 0, .int .u8 0] 24)) = .ok () W5) := hid (by
      rw [hW5]
      exact store_mark MO.out (hb0.there 0 _ (by rw [markL_length, MO.out.len]; exact Nat.le_refl 16)))
    have BM5 : Hid (Blk W5 W.heap.size 24 (markL (markAt ms x))) := hid (by
      rw [hW5]
      exact row_set hb0 (by rw [markL_length, MO.out.len]; rfl))
    have K5 : Hid (Kp Nb W W5) := hid (by
      rw [hW5]
      exact Kp.setCells (fun h => absurd h (Nat.lt_irrefl _)) _ _ _ ((Kp.refl Nb W).alloc _))
    clear hW5 hb0
    gi_wp2_with (refine wpListIn_storeL rfl 24 (.tmp 12) (.tmp 20) rfl (p := ⟨W.heap.size, 0, none⟩) (by rfl) (v := markV (markAt ms x)) (by rfl) HST.out ?_)
    refine HK.out _ _ ⟨K5.out.size, fun k o _ hk _ => (K5.out.heap (Array.getElem?_eq_some_iff.1 hk).1 (fun h => h)).trans hk⟩ ⟨K5.out.size, fun b hb => K5.out.heap (by have := HLK.out b hb; have := HBZ.out; omega) (fun h => h)⟩ (HI.out.keptB K5.out) ?_
    exact ⟨W.heap.size, v2, HZ.out, rfl, BM5.out, (K5.out.heap HB2.out.lt (fun h => h)).trans HB2.out, fun e => absurd (HO2.out _ e) (Nat.lt_irrefl _)⟩
  case body =>
    rintro l pre x a' W hI ⟨N, u, hN, rfl, hNB, hNU, hne⟩ hlt
    have HI := hid hI
    obtain ⟨⟨⟨v1, v2, b1, b2, o1, o2, hs⟩, hm, hlen, hbase⟩, hB⟩ := hI
    obtain ⟨p1, q1, rfl⟩ := own_shape o1
    have hu : u = v2 := by
      have e := (show W.heap[q.B2]? = _ from hNU).symm.trans (show W.heap[q.B2]? = _ from b2)
      injection e with e; injection e with e; simpa using e
    subst hu
    have hq := HQ.out
    have c1 : W.cell? ⟨w.heap.size + 1, 0, none⟩ = some (.slice p1 pre.length q1) := by rw [hq] at b1; exact b1.cell
    have HC := hid b1
    have HC2 := hid b2
    have HO1 := hid o1
    have HO2 := hid o2
    have HS := hid hs
    have HL := hid hlen
    have HBS := hid hbase
    have HBW := hid hB
    have HNB := hid hNB
    have HNE := hid hne
    have MO := hid (MKO.out x)
    have hlt' : pre.length ≤ 100000 := by have := HBIG.out; omega
    clear hq b1 b2 o1 o2 hs hlen hbase hB hNB hNU hne hN
    by_cases hge : m ≤ (pre.length : Int)
    · gi_wp2
      exact ⟨KeepsFrom.refl _ _, ⟨Nat.le_refl _, fun _ _ => rfl⟩, ⟨rfl, pre, _, rfl, ⟨_, u, HC.out, HC2.out, HO1.out, HO2.out, HS.out⟩, by have := HL.out; omega⟩, HBW.out⟩
    · gi_wp2
      have hmx : Try.prog.follows .mixedOrders = true := by kernel_rfl
      have b1 := HC.out
      have b2 := HC2.out
      have o1 := HO1.out
      have o2 := HO2.out
      have hbs := HBS.out
      have hne := HNE.out
      have hq := HQ.out
      have hL := HL.out
      rw [hq] at b1 b2 o1 o2 hbs
      dsimp only at hbs
      refine collB_region (q := ⟨w.heap.size + 1, 36, 3, 1, w.heap.size + 1 + 1, 22, 24, 16, Z⟩) (ms := ms) (pre := pre) (x := x) (y1 := .int .i64 (x : Int)) (xa := .pointer (some ⟨N, 0, none⟩)) (x2 := markV (markAt ms x)) (N := 35) (tb1 := 8) (tx1 := 11) (tb2 := 9) (tx2 := 12) (d := 25) (src := fun w' => Blk w' N 24 (markL (markAt ms x))) hmx (by kernel_rfl) rfl b1 b2 o1 o2 HS.out
        (mk_ok (fun w u h => fiB_load w _ u h) (fun w => fiB_make w (x : Int)) (fun w g n c u h hf => fiB_store w _ g n c u h hf) Try.underlying36 fiB_info rfl (by omega) (by unfold maxLen; omega) (by simp) (by simp [f1B, Value.oneCell']) rfl (by simp) rfl ⟨rfl, rfl, rfl⟩ rfl ⟨rfl, rfl, rfl⟩ rfl ⟨rfl, rfl, rfl⟩ rfl ⟨rfl, rfl, rfl⟩ rfl ⟨rfl, rfl, rfl⟩ (by kernel_rfl) (by kernel_rfl) (by kernel_rfl) (by kernel_rfl) (by decide) (by decide) (by decide) (by decide))
        (mkB_ok (Tf := 24) (fun w u h => fmB_load w _ u h) (fun w => fmB_make w (markAt ms x) MO.out.len) (fun w g n c u h hf => fmB_store w _ g n c u h hf) Try.underlying22 fmB_info rfl (by omega) (by unfold maxLen; omega) (by simp) (markL_one' _) (by rw [markL_length]; exact MO.out.len) (by simp) rfl ⟨rfl, rfl, rfl⟩ rfl ⟨rfl, rfl, rfl⟩ (fun w' h => load_mark MO.out (range_of h)) rfl ⟨rfl, rfl, rfl⟩ rfl ⟨rfl, rfl, rfl⟩ rfl ⟨rfl, rfl, rfl⟩ (by kernel_rfl) (by kernel_rfl) (by kernel_rfl) (by kernel_rfl) (by decide) (by decide) (by decide) (by decide))
        (fun w' hm => (hm.same N HNB.out.lt ?ns).trans HNB.out) rfl rfl rfl rfl rfl (by decide) (by decide) (by simp) (by simp) (by simp) hbs ?_
      case ns =>
        rintro (e | e | e | e)
        · have h := (show W.heap[N]? = _ from HNB.out).symm.trans (show W.heap[N]? = _ from e ▸ b1)
          injection h with h; injection h with _ h; cases h
        · have h := (show W.heap[N]? = _ from HNB.out).symm.trans (show W.heap[N]? = _ from e ▸ b2)
          injection h with h; injection h with _ h; cases h
        · obtain ⟨cs', fr', h⟩ := row_tyB o1 e
          have h := (show W.heap[N]? = _ from HNB.out).symm.trans h
          injection h with h; injection h with _ h; cases h
        · exact hne e
      intro a' W' hc hmv
      have kb : KpB (LkS Bf Bl B' C' v') W W' := hmv.kpB (H := w.heap.size + 1 + 1 + 1) o1 o2 HLK.out (by dsimp only; omega) (by dsimp only; omega) hbs
      rw [← hq] at hc
      have hmv2 : Moves (CollS q) W W' := hmv.mono (fun b _ h => by rw [hq]; exact S0B.coll o1 o2 b h)
      have hHL := HL'.out
      exact ⟨hmv.keepsFrom _, kb, HI.out.next (by omega) hc hmv2 (by rw [hq]; dsimp only; omega) (by rw [hq]; dsimp only; omega) (by rw [hq]; dsimp only; omega) (by rw [hq]; dsimp only; omega) (by rw [hq]; dsimp only; omega) (by rw [hq]; dsimp only; omega)⟩
  case done =>
    rintro D ys W hD hS ⟨⟨⟨v1, v2, b1, b2, o1, o2, hs⟩, hm, hlen, hbase⟩, hB⟩ hK
    have HLE : Hid (ys = (lackT zs ms ms.length).take m.toNat) := hid (by rw [← hS, List.take_of_length_le hlen])
    have hq := HQ.out
    have hHL := HL'.out
    rw [hq] at b1 b2 o1 o2
    obtain ⟨p1, q1, rfl⟩ := own_shape o1
    obtain ⟨p2, q2, rfl⟩ := own_shape o2
    have c1 := b1.cell
    have c2 := b2.cell
    have HO1 := hid (ownsRow_le (base' := w.heap.size) o1 (by dsimp only; omega))
    have HO2 := hid (ownsRow_le (base' := w.heap.size) o2 (by dsimp only; omega))
    have HBW := hid hB
    have HD := hid hD
    have HK := hid hK
    clear hq b1 b2 o1 o2 hs hB hD hK hlen hHL hS
    gi_wp2
    gi_region
    all_goals
      gi_wp2
      refine ⟨by simp, .inl ⟨_, _, rfl, run_takeDeferred HK.out, ?_⟩⟩
      refine ⟨.tuple #[.slice p1 ys.length q1, .slice p2 ys.length q2], by simp [results, Try.f12, go_sem], _, _, ys, rfl, HLE.out, ?_⟩
      exact ⟨ownsRow_putObj (W := W) HO1.out _ HK.out rfl, ownsRow_putObj (W := W) HO2.out _ HK.out rfl, HBW.out.drew.trans (belowK_b (w := w) (Nat.le_refl _) W.drew D _ _ (by have := HL'.out; have := HD.out; omega) HK.out rfl rfl)⟩
  case stop =>
    rintro D c pre W hD hS ⟨⟨rfl, ys, x, rfl, ⟨v1, v2, b1, b2, o1, o2, hs⟩, hlen⟩, hB⟩ hK
    have HLE : Hid (ys = (lackT zs ms ms.length).take m.toNat) := hid (by
      obtain ⟨k, hk, e⟩ := hS
      rw [← hlen]
      exact lackT_pre e hk)
    have hq := HQ.out
    have hHL := HL'.out
    rw [hq] at b1 b2 o1 o2
    obtain ⟨p1, q1, rfl⟩ := own_shape o1
    obtain ⟨p2, q2, rfl⟩ := own_shape o2
    have c1 := b1.cell
    have c2 := b2.cell
    have HO1 := hid (ownsRow_le (base' := w.heap.size) o1 (by dsimp only; omega))
    have HO2 := hid (ownsRow_le (base' := w.heap.size) o2 (by dsimp only; omega))
    have HBW := hid hB
    have HD := hid hD
    have HK := hid hK
    clear hq b1 b2 o1 o2 hs hB hD hK hlen hHL hS
    gi_wp2
    gi_region
    all_goals
      gi_wp2
      refine ⟨by simp, .inl ⟨_, _, rfl, run_takeDeferred HK.out, ?_⟩⟩
      refine ⟨.tuple #[.slice p1 ys.length q1, .slice p2 ys.length q2], by simp [results, Try.f12, go_sem], _, _, ys, rfl, HLE.out, ?_⟩
      exact ⟨ownsRow_putObj (W := W) HO1.out _ HK.out rfl, ownsRow_putObj (W := W) HO2.out _ HK.out rfl, HBW.out.drew.trans (belowK_b (w := w) (Nat.le_refl _) W.drew D _ _ (by have := HL'.out; have := HD.out; omega) HK.out rfl rfl)⟩

end Go.Proofs.Ytpgiinogfmhfiaa
