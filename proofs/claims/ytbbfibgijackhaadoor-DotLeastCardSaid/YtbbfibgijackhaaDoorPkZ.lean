/-
  Layer 3: the statements' own first. Conditions: the library's tables stand in memory.
  Layer 3: a join is the least clock above both (plain). No condition but that clocks are right.
  Layer 3: DotLeast's law. Conditions: three lists of runs in memory, the first one's block older than what the law makes; the library's tables stand in memory.
  Layer 3's arguments opened: clocks, lists of dots, a case; what the listed tables and the world's shape give; the start's own heap; the wrap that hands both on. No condition.
  PROVED: 'DotLeastCardSaid': whatever was sent, DotLeast returns true and the input reads as it did. Conditions: the listed package-level variables start as the program's text lays them (the card ties them).
-/
import Derived.Test.YtbbfibgijackhaaDoorPkX
import Derived.Test.YtbbfibgijackhaaDoorPkJ
import Derived.Test.YtbbfibgijackhaaDoorPkM
import Derived.Test.YtbbfibgijackhaaDoorDtE
import Derived.Test.YtbbfibgijackhaaDoorPkO
import Derived.Test.YtbbfibgijackhaaDoorRows
import Derived.Handed
import Derived.LaidMore
import Derived.Lay
import Derived.Stop.Joined
import Derived.Lib.LaidTab
import Derived.Test.YtbbfibgijackhaaDoorCards
import Derived.Test.YtbbfibgijackhaaDoorTie
import Derived.ChangeSame
import Derived.ChangeVars
import Derived.SevenTiedAt
namespace Go.Proofs.YtbbfibgijackhaaDoor
open Go.RowKit

def cA : List RunQ := [(0, 1, 3), (2, 1, 1)]
def cB : List RunQ := [(0, 4, 4), (1, 5, 5)]
def cJ : List RunQ := [(0, 1, 4), (1, 5, 5), (2, 1, 1)]
theorem mk_a (w : World) : (Instr.buildSlice 23 2 #[(0, .agg #[.int .i64 0, .int .i64 1, .int .i64 3]), (1, .agg #[.int .i64 2, .int .i64 1, .int .i64 1])]).run Tryd.prog w = .ok (.slice (some ⟨w.heap.size, 0, none⟩) 2 2) (w.alloc (.cells #[.int .i64 0, .int .i64 1, .int .i64 3, .int .i64 2, .int .i64 1, .int .i64 1] 33 (0, 0))) := by kernel_rfl
theorem mk_b (w : World) : (Instr.buildSlice 23 2 #[(0, .agg #[.int .i64 0, .int .i64 4, .int .i64 4]), (1, .agg #[.int .i64 1, .int .i64 5, .int .i64 5])]).run Tryd.prog w = .ok (.slice (some ⟨w.heap.size, 0, none⟩) 2 2) (w.alloc (.cells #[.int .i64 0, .int .i64 4, .int .i64 4, .int .i64 1, .int .i64 5, .int .i64 5] 33 (0, 0))) := by kernel_rfl
theorem mk_z (w : World) : (Instr.buildSlice 23 1 #[(0, .agg #[.int .i64 0, .int .i64 0, .int .i64 0])]).run Tryd.prog w = .ok (.slice (some ⟨w.heap.size, 0, none⟩) 1 1) (w.alloc (.cells #[.int .i64 0, .int .i64 0, .int .i64 0] 33 (0, 0))) := by kernel_rfl
theorem cl_blk {w : World} {N : Nat} {c : List RunQ} (h : Blk w N 33 (flatR runL c)) (hok : ∀ q ∈ c, RunOk q) (hm : c.length ≤ maxLen) : ClSl w (.slice (some ⟨N, 0, none⟩) c.length c.length) c :=
  ⟨runAt_ok hok, RowsSl.of_blk h rfl hm (fun i hi j hj => flatR_get c i j (fun _ _ => rfl) hi hj)⟩
theorem wpList_valZ {P : Program} {ops : Array Oper} {rest : List Oper} {o : Oper} {a : Act} {w : World} {Q : Exit → Act → World → Prop} (hw : Region.wanted o (yielded ops a.tmps) = true) (v : Value) (w' : World) (h1 : (execOp a.eval o).run P w = .ok (.value v) w')
    (h : wpList P ops Q rest (a.put o.dst v) w') : wpList P ops Q (o :: rest) a w :=
  wpList_step fun K hK => by
    rw [if_pos hw]
    unfold Oper.wp
    rw [h1]
    exact hK _ _ h
theorem z_join : joinC cA cB = cJ := by kernel_rfl
theorem z_textA : bs (textC cA) = ⟨#[48, 58, 49, 45, 51, 32, 50, 58, 49]⟩ := by kernel_rfl
theorem z_textJ : bs (textC cJ) = ⟨#[48, 58, 49, 45, 52, 32, 49, 58, 53, 32, 50, 58, 49]⟩ := by kernel_rfl
theorem z_cmp1 : cmpC cA cJ = -1 := by kernel_rfl
theorem z_cmp2 : cmpC cA cB = 2 := by kernel_rfl
theorem z_count : countC cJ = 6 := by kernel_rfl
theorem z_ra : rightC cA = true := by kernel_rfl
theorem z_hasA : hasC cA 0 2 = true := by kernel_rfl
theorem z_hasB : hasC cB 0 2 = false := by kernel_rfl
theorem z_top : topC cJ 0 = 4 := by kernel_rfl
theorem z_rz : rightC [(0, 0, 0)] = false := by kernel_rfl
theorem z_ok : (∀ q ∈ cA, RunOk q) ∧ ∀ q ∈ cB, RunOk q := by
  refine ⟨fun q hq => ?_, fun q hq => ?_⟩ <;> simp only [cA, cB, List.mem_cons, List.not_mem_nil, or_false] at hq <;> rcases hq with rfl | rfl <;> unfold RunOk I64 <;> simp
structure Fsd (w : World) (va vb vj vP : Value) (P : Nat) (zs : List Int) (W : World) : Prop where
  ha : ClSl W va cA
  hb : ClSl W vb cB
  hj : ClSl W vj cJ
  hp : PenAt W P vP zs
  k : Kp Nb w W
theorem Fsd.step {w W W' : World} {va vb vj vP : Value} {P : Nat} {zs : List Int} (h : Fsd w va vb vj vP P zs W) (k : Kp Nb W W') : Fsd w va vb vj vP P zs W' :=
  ⟨h.ha.kept k, h.hb.kept k, h.hj.kept k, h.hp.kept k (fun h => h) (fun _ _ h => h), h.k.trans k (fun _ _ h => h)⟩
set_option maxRecDepth 100000 in
set_option maxHeartbeats 4000000 in
theorem dfirst_any (w : World) (ht : Tab w) (hm : Mx w) : Calls Tryd.prog 6 #[] w fun e w' => e = .returned (.bool true) ∧ Kp Nb w w' := by
  have HT := hid ht
  have HM := hid hm
  have MA := hid mk_a
  have MB := hid mk_b
  have MZ := hid mk_z
  have ZP : Hid (putB cA = true) := hid (by kernel_rfl)
  have ZL : Hid ((bytesC cA).length ≤ 100000) := hid (bytesC_len z_ra (by decide))
  obtain ⟨N, hN⟩ : ∃ N, w.heap.size = N := ⟨_, rfl⟩
  obtain ⟨W1, hW1⟩ : ∃ W, W = w.alloc (.cells #[.int .i64 0, .int .i64 1, .int .i64 3, .int .i64 2, .int .i64 1, .int .i64 1] 33 (0, 0)) := ⟨_, rfl⟩
  obtain ⟨W2, hW2⟩ : ∃ W, W = W1.alloc (.cells #[.int .i64 0, .int .i64 4, .int .i64 4, .int .i64 1, .int .i64 5, .int .i64 5] 33 (0, 0)) := ⟨_, rfl⟩
  have S1 : W1.heap.size = N + 1 := by rw [hW1, ← hN]; exact Array.size_push _
  have A1 : ClSl W1 (.slice (some ⟨N, 0, none⟩) 2 2) cA := cl_blk (by rw [hW1, ← hN]; exact Blk.new w 33 (flatR runL cA)) z_ok.1 (by simp [cA, maxLen])
  have k12 : Kp Nb W1 W2 := by rw [hW2]; exact (Kp.refl Nb W1).alloc _
  have A2 : Hid (ClSl W2 (.slice (some ⟨N, 0, none⟩) 2 2) cA) := hid (A1.kept k12)
  have B2 : Hid (ClSl W2 (.slice (some ⟨N + 1, 0, none⟩) 2 2) cB) := hid (cl_blk (by rw [hW2, ← S1]; exact Blk.new W1 33 (flatR runL cB)) z_ok.2 (by simp [cB, maxLen]))
  have K2 : Hid (Kp Nb w W2) := hid (Kp.trans (by rw [hW1]; exact (Kp.refl Nb w).alloc _) k12 (fun _ _ h => h))
  have MA1 : Hid ((Instr.buildSlice 23 2 #[(0, .agg #[.int .i64 0, .int .i64 1, .int .i64 3]), (1, .agg #[.int .i64 2, .int .i64 1, .int .i64 1])]).run Tryd.prog w = .ok (.slice (some ⟨N, 0, none⟩) 2 2) W1) := hid (by rw [hW1, ← hN]; exact MA.out w)
  have MB1 : Hid ((Instr.buildSlice 23 2 #[(0, .agg #[.int .i64 0, .int .i64 4, .int .i64 4]), (1, .agg #[.int .i64 1, .int .i64 5, .int .i64 5])]).run Tryd.prog W1 = .ok (.slice (some ⟨N + 1, 0, none⟩) 2 2) W2) := hid (by rw [hW2, ← S1]; exact MB.out W1)
  have HNP : Hid (N + 2 ≤ W2.heap.size) := hid (by rw [hW2]; have : (W1.alloc (.cells #[.int .i64 0, .int .i64 4, .int .i64 4, .int .i64 1, .int .i64 5, .int .i64 5] 33 (0, 0))).heap.size = W1.heap.size + 1 := Array.size_push _; omega)
  clear hW1 hW2 A1 k12 S1 hN ht hm
  go_enter Tryd.func6, Tryd.ntmps6
  go_wp2_with (first
    | (refine wpList_val (by rfl) _ _ (exec_buildSliceD rfl (qs := #[(0, .agg #[.int .i64 0, .int .i64 1, .int .i64 3]), (1, .agg #[.int .i64 2, .int .i64 1, .int .i64 1])]) (by simp [Act.eval, Act.put]) MA1.out) ?_)
    | (refine wpList_val (by rfl) _ _ (exec_buildSliceD rfl (qs := #[(0, .agg #[.int .i64 0, .int .i64 4, .int .i64 4]), (1, .agg #[.int .i64 1, .int .i64 5, .int .i64 5])]) (by simp [Act.eval, Act.put]) MB1.out) ?_))
  have C := join_any _ _ cA cB W2 A2.out B2.out (by decide) (by decide)
  rw [z_join] at C
  refine C.mono ?_
  rintro r w3 ⟨vj, rfl, h3, ho3, k3⟩
  have GJ : Hid (∀ g, vj.ownBlock = some g → g < w3.heap.size) := hid (fun g hg => (ho3 g hg).2)
  obtain ⟨yj, dj, e3⟩ := h3.shape
  have e3 : vj = .slice yj 3 dj := e3
  subst e3
  have A3 := hid (A2.out.kept k3)
  have B3 := hid (B2.out.kept k3)
  have J3 := hid h3
  have K3 := hid (K2.out.trans k3 (fun _ _ h => h))
  have N3 : Hid (N + 2 ≤ w3.heap.size) := hid (by have := HNP.out; have := k3.size; omega)
  clear C k3 h3 ho3 A2 B2 K2 HNP
  obtain ⟨P, hP⟩ : ∃ P, w3.heap.size = P := ⟨_, rfl⟩
  obtain ⟨W4, hW4⟩ : ∃ W, W = w3.alloc (.cells #[.slice none 0 0] 42) := ⟨_, rfl⟩
  have PN : Hid (PenAt W4 P (.slice none 0 0) []) := hid (by rw [hW4, ← hP]; exact pen_new w3)
  have K4 : Hid (Kp Nb w3 W4) := hid (by rw [hW4]; exact (Kp.refl Nb w3).alloc _)
  have HP3 := hid hP
  have CP := dput_any P _ cA W4 (A3.out.kept K4.out) PN.out (fun g hg => by
    have : N = g := by simpa [Value.ownBlock] using hg
    have := N3.out
    have := HP3.out
    omega) (by decide)
  rw [ZP.out, if_pos rfl] at CP
  have CP := hid CP
  go_upto_region 4 with fail
  rw [← hW4]
  try simp only [hP]
  clear hW4 hP
  go_wp2_with fail
  refine CP.out.mono ?_
  rintro r w5 ⟨rfl, vP, p5, t5⟩
  have NA : ∀ g, (Value.ownBlock (.slice (some ⟨N, 0, none⟩) 2 2)) = some g → g ≠ P := fun g hg => by
    have : N = g := by simpa [Value.ownBlock] using hg
    have := N3.out
    have := HP3.out
    omega
  have NB : ∀ g, (Value.ownBlock (.slice (some ⟨N + 1, 0, none⟩) 2 2)) = some g → g ≠ P := fun g hg => by
    have : N + 1 = g := by simpa [Value.ownBlock] using hg
    have := N3.out
    have := HP3.out
    omega
  have NJ : ∀ g, (Value.slice yj 3 dj).ownBlock = some g → g ≠ P := fun g hg => by
    have := GJ.out g hg
    have := HP3.out
    omega
  have HF : Hid (Fsd w (.slice (some ⟨N, 0, none⟩) 2 2) (.slice (some ⟨N + 1, 0, none⟩) 2 2) (.slice yj 3 dj) vP P (bytesC cA) w5) := hid ⟨pen_sepC t5 (A3.out.kept K4.out) NA, pen_sepC t5 (B3.out.kept K4.out) NB, pen_sepC t5 (J3.out.kept K4.out) NJ, p5,
    (K3.out.trans K4.out (fun _ _ h => h)).trans t5.kp (fun i hi h => h.elim (fun h => by have := HP3.out; have := K3.out.size; omega) (fun h => by simp [Value.ownBlock] at h))⟩
  clear NA NB NJ
  clear CP PN K3 K4 A3 B3 J3 GJ p5 t5
  go_wp2_with fail
  have C := parse_any cA w5 z_ra (by decide) (HM.out.kept HF.out.k) (HT.out.kept HF.out.k)
  rw [z_textA] at C
  refine C.mono ?_
  rintro r w6 ⟨vc, rfl, hc, -, k⟩
  obtain ⟨yc, dc, ec⟩ := hc.shape
  have ec : vc = .slice yc 2 dc := ec
  subst ec
  have HC := hid hc
  clear hc
  have HF := hid (HF.out.step k)
  clear C k
  go_wp2_with fail
  have C := text_any _ cJ w6 HF.out.hj (by decide) (HT.out.kept HF.out.k)
  rw [z_textJ] at C
  refine C.mono ?_
  rintro r w7 ⟨rfl, k⟩
  have HC := hid (HC.out.kept k)
  have HF := hid (HF.out.step k)
  clear C k
  go_wp2_with fail
  have C := compare_any _ _ cA cJ w7 HF.out.ha HF.out.hj (by decide) (by decide)
  rw [z_cmp1] at C
  refine C.mono ?_
  rintro r w8 ⟨rfl, k⟩
  have HC := hid (HC.out.kept k)
  have HF := hid (HF.out.step k)
  clear C k
  go_wp2_with fail
  have C := compare_any _ _ cA cB w8 HF.out.ha HF.out.hb (by decide) (by decide)
  rw [z_cmp2] at C
  refine C.mono ?_
  rintro r w9 ⟨rfl, k⟩
  have HC := hid (HC.out.kept k)
  have HF := hid (HF.out.step k)
  clear C k
  go_wp2_with fail
  have C := count_any _ cJ w9 HF.out.hj (by decide)
  rw [z_count] at C
  refine C.mono ?_
  rintro r w10 ⟨rfl, k⟩
  have HC := hid (HC.out.kept k)
  have HF := hid (HF.out.step k)
  clear C k
  go_wp2_with fail
  have C := pen_bytes P vP _ w10 HF.out.hp (by have := ZL.out; omega)
  refine C.mono ?_
  rintro r w11 ⟨rb, rfl, ow, k⟩
  have HC := hid (HC.out.kept k)
  have BY : Hid (BySl Nb w11 rb (bytesC cA)) := hid (BySl.ofOwn ow HF.out.hp.bytes (fun _ _ _ h => h))
  obtain ⟨yr, dr, rfl⟩ := own_shape ow
  clear ow
  have HF := hid (HF.out.step k)
  clear C k
  go_wp2_with fail
  refine (read_any _ _ w11 BY.out (by have := ZL.out; omega)).mono ?_
  rintro r w12 ⟨Be, hBe, rfl, he, k14⟩
  have HEY := hid (EyeOn.of he w12.heap.size (Nat.le_refl _))
  have HBE := hid hBe
  have K14 := hid k14
  clear he k14 hBe
  go_wp2_with fail
  have C := dget_any Be (bytesC cA) 0 w12 (S := fun i => i = Be ∨ w12.heap.size ≤ i) (fun i => Iff.rfl) HEY.out
  rw [get_back z_ra (by decide)] at C
  dsimp only at C
  refine C.mono ?_
  rintro r w13 ⟨vg, rfl, hg, -, -, k15⟩
  obtain ⟨yg, dg, eg⟩ := hg.shape
  have eg : vg = .slice yg 2 dg := eg
  subst eg
  have K15 : Kp Nb w11 w13 := K14.out.trans (S' := Jb Be) k15 (fun i hi h => by have h' : i = Be := h; have := HBE.out; omega)
  have HF := hid (HF.out.step K15)
  have HC : Hid (ClSl w13 (.slice yc 2 dc) cA) := hid (HC.out.kept K15)
  have HG := hid hg
  clear C k15 hg K15
  go_wp2_with fail
  have C := same_any _ _ cA cA w13 HG.out HF.out.ha (by decide) (by decide)
  rw [decide_eq_true rfl] at C
  refine C.mono ?_
  rintro r w14 ⟨rfl, k⟩
  have HC := hid (HC.out.kept k)
  have HF := hid (HF.out.step k)
  clear C k
  go_wp2_with fail
  have C := same_any _ _ cA cA w14 HC.out HF.out.ha (by decide) (by decide)
  rw [decide_eq_true rfl] at C
  refine C.mono ?_
  rintro r w15 ⟨rfl, k⟩
  have HF := hid (HF.out.step k)
  clear C k
  go_wp2_with fail
  have C := has_any _ cA 0 2 w15 HF.out.ha (by decide)
  rw [z_hasA] at C
  refine C.mono ?_
  rintro r w16 ⟨rfl, k⟩
  have HF := hid (HF.out.step k)
  clear C k
  go_wp2_with fail
  have C := has_any _ cB 0 2 w16 HF.out.hb (by decide)
  rw [z_hasB] at C
  refine C.mono ?_
  rintro r w17 ⟨rfl, k⟩
  have HF := hid (HF.out.step k)
  clear C k
  go_wp2_with (first | (refine wpList_valZ (by rfl) _ _ (exec_buildSliceD rfl (qs := #[(0, .agg #[.int .i64 0, .int .i64 0, .int .i64 0])]) (by simp [Act.eval, Act.put]) (MZ.out _)) ?_))
  have C := dright_any (.slice (some ⟨w17.heap.size, 0, none⟩) 1 1) [(0, 0, 0)] (w17.alloc (.cells #[.int .i64 0, .int .i64 0, .int .i64 0] 33 (0, 0))) ⟨runAt_ok (fun _ hq => by rw [List.mem_singleton.1 hq]; exact run_zero_ok), rows_oneR (Blk.new w17 33 (runL (0, 0, 0)))⟩ (by decide)
  rw [z_rz] at C
  refine C.mono ?_
  rintro r w18 ⟨rfl, k⟩
  have k := ((Kp.refl Nb w17).alloc (.cells #[.int .i64 0, .int .i64 0, .int .i64 0] 33 (0, 0))).trans k (fun _ _ h => h)
  have HF := hid (HF.out.step k)
  clear C k
  go_wp2_with fail
  have C := top_any _ cJ 0 w18 HF.out.hj (by decide)
  rw [z_top] at C
  refine C.mono ?_
  rintro r w19 ⟨rfl, k⟩
  have HF := hid (HF.out.step k)
  clear C k
  go_wp2
  go_ret
  exact ⟨rfl, HF.out.k⟩

end Go.Proofs.YtbbfibgijackhaaDoor

namespace Go.Proofs.YtbbfibgijackhaaDoor
open Go.RowKit

theorem join_comm {a b : List RunQ} (ha : Rt a) (hb : Rt b) : joinC a b = joinC b a := rt_ext _ _ (join_rt ha hb) (join_rt hb ha) fun n d => by rw [join_in ha hb, join_in hb ha, or_comm]
theorem join_assoc {a b c : List RunQ} (ha : Rt a) (hb : Rt b) (hc : Rt c) : joinC (joinC a b) c = joinC a (joinC b c) := rt_ext _ _ (join_rt (join_rt ha hb) hc) (join_rt ha (join_rt hb hc)) fun n d => by
  rw [join_in (join_rt ha hb) hc, join_in ha hb, join_in ha (join_rt hb hc), join_in hb hc, or_assoc]
theorem join_self {a : List RunQ} (ha : Rt a) : joinC a a = a := rt_ext _ _ (join_rt ha ha) ha fun n d => by rw [join_in ha ha, or_self]
theorem above_l {a b : List RunQ} (ha : Rt a) (hb : Rt b) : aboveC (joinC a b) a = true := (above_in (join_rt ha hb) ha).2 fun n d h => (join_in ha hb n d).2 (.inl h)
theorem above_r {a b : List RunQ} (ha : Rt a) (hb : Rt b) : aboveC (joinC a b) b = true := (above_in (join_rt ha hb) hb).2 fun n d h => (join_in ha hb n d).2 (.inr h)
theorem above_least {a b c : List RunQ} (ha : Rt a) (hb : Rt b) (hc : Rt c) (h1 : aboveC c a = true) (h2 : aboveC c b = true) : aboveC c (joinC a b) = true :=
  (above_in hc (join_rt ha hb)).2 fun n d h => ((join_in ha hb n d).1 h).elim ((above_in hc ha).1 h1 n d) ((above_in hc hb).1 h2 n d)
theorem above_same {a b : List RunQ} (ha : Rt a) (hb : Rt b) (h1 : aboveC a b = true) (h2 : aboveC b a = true) : a = b :=
  rt_ext _ _ ha hb fun n d => ⟨(above_in hb ha).1 h2 n d, (above_in ha hb).1 h1 n d⟩

end Go.Proofs.YtbbfibgijackhaaDoor

namespace Go.Proofs.YtbbfibgijackhaaDoor
open Go.RowKit

structure Lst (w : World) (va vb vc : Value) (a b c : List RunQ) (W : World) : Prop where
  ha : ClSl W va a
  hb : ClSl W vb b
  hc : ClSl W vc c
  k : Kp Nb w W
theorem Lst.step {w W W' : World} {va vb vc : Value} {a b c : List RunQ} (h : Lst w va vb vc a b c W) (k : Kp Nb W W') : Lst w va vb vc a b c W' := ⟨h.ha.kept k, h.hb.kept k, h.hc.kept k, h.k.trans k (fun _ _ h => h)⟩
theorem run_max3M {P : Program} (w : World) (ts : Array TypeId) (t : TypeId) (k k' k'' : IntKind) (x y z : Int) : (Builtin.max_ ts t #[.int k x, .int k' y, .int k'' z]).run P w = .ok (.int k (max (max x y) z)) w := by
  rw [run_max_int3]
  have e1 : (if y > x then y else x) = max x y := by split <;> omega
  rw [e1]
  have e2 : (if z > max x y then z else max x y) = max (max x y) z := by split <;> omega
  rw [e2]
attribute [-go_sem] run_max_int3
attribute [local go_sem] run_max3M
set_option maxRecDepth 100000 in
set_option maxHeartbeats 16000000 in
theorem dleast_any (va vb vc : Value) (a b c : List RunQ) (w : World) (ha : ClSl w va a) (hb : ClSl w vb b) (hc : ClSl w vc c) (ga : ∀ g, va.ownBlock = some g → g < w.heap.size) (ht : Tab w) (hm : Mx w) :
    Calls Tryd.prog 4 #[va, vb, vc] w fun e w' => e = .returned (.bool true) ∧ Kp Nb w w' := by
  have HT := hid ht
  have HM := hid hm
  obtain ⟨pa, da, rfl⟩ := ha.shape
  obtain ⟨pb, db, rfl⟩ := hb.shape
  obtain ⟨pc, dc, rfl⟩ := hc.shape
  obtain ⟨nA, hnA⟩ : ∃ n, a.length = n := ⟨_, rfl⟩
  obtain ⟨nB, hnB⟩ : ∃ n, b.length = n := ⟨_, rfl⟩
  obtain ⟨nC, hnC⟩ : ∃ n, c.length = n := ⟨_, rfl⟩
  have HL := hid (show a.length = nA ∧ b.length = nB ∧ c.length = nC from ⟨hnA, hnB, hnC⟩)
  have HF : Hid (Lst w (.slice pa a.length da) (.slice pb b.length db) (.slice pc c.length dc) a b c w) := hid ⟨ha, hb, hc, Kp.refl _ _⟩
  have GA := hid ga
  rw [hnA, hnB, hnC] at HF
  rw [hnA] at GA
  rw [hnA, hnB, hnC]
  clear ha hb hc ga hnA hnB hnC ht hm
  obtain ⟨K, hK⟩ : ∃ K : Int, max (max (nA : Int) (nB : Int)) (nC : Int) = K := ⟨_, rfl⟩
  have HK := hid hK
  go_enter Tryd.func4, Tryd.ntmps4
  go_wp2_with fail
  refine (dfirst_any w HT.out HM.out).mono ?_
  rintro r w0 ⟨rfl, k⟩
  have HF := hid (HF.out.step k)
  clear k
  by_cases hbig : 40 < K
  · go_wp2
    go_ret
    exact ⟨rfl, HF.out.k⟩
  have HLE : Hid (a.length ≤ 40 ∧ b.length ≤ 40 ∧ c.length ≤ 40) := hid (by have := HL.out; have := HK.out; omega)
  obtain ⟨ra, hra⟩ : ∃ b, rightC a = b := ⟨_, rfl⟩
  obtain ⟨rb, hrb⟩ : ∃ x, rightC b = x := ⟨_, rfl⟩
  obtain ⟨rc, hrc⟩ : ∃ x, rightC c = x := ⟨_, rfl⟩
  have HRA := hid hra
  have HRB := hid hrb
  have HRC := hid hrc
  clear hra hrb hrc
  go_wp2_with fail
  have C := dright_any _ a w0 HF.out.ha (by have := HLE.out; omega)
  rw [HRA.out] at C
  refine C.mono ?_
  rintro r x1 ⟨rfl, k⟩
  have HF := hid (HF.out.step k)
  clear C k
  cases ra with
  | false =>
    go_wp2
    go_ret
    exact ⟨rfl, HF.out.k⟩
  | true =>
    go_wp2_with fail
    have C := dright_any _ b x1 HF.out.hb (by have := HLE.out; omega)
    rw [HRB.out] at C
    refine C.mono ?_
    rintro r x2 ⟨rfl, k⟩
    have HF := hid (HF.out.step k)
    clear C k
    cases rb with
    | false =>
      go_wp2
      go_ret
      exact ⟨rfl, HF.out.k⟩
    | true =>
      go_wp2_with fail
      have C := dright_any _ c x2 HF.out.hc (by have := HLE.out; omega)
      rw [HRC.out] at C
      refine C.mono ?_
      rintro r x3 ⟨rfl, k⟩
      have HF := hid (HF.out.step k)
      clear C k
      cases rc with
      | false =>
        go_wp2
        go_ret
        exact ⟨rfl, HF.out.k⟩
      | true =>
        have HTA : Hid (Rt a) := hid (rightC_rt.1 HRA.out)
        have HTB : Hid (Rt b) := hid (rightC_rt.1 HRB.out)
        have HTC : Hid (Rt c) := hid (rightC_rt.1 HRC.out)
        have HJL : Hid ((joinC a b).length ≤ 80) := hid (by have := joinC_len a b; have := HLE.out; omega)
        have HJ2L : Hid ((joinC b c).length ≤ 80) := hid (by have := joinC_len b c; have := HLE.out; omega)
        have HJRT : Hid (Rt (joinC a b)) := hid (join_rt HTA.out HTB.out)
        go_wp2_with fail
        have C := join_any _ _ a b x3 HF.out.ha HF.out.hb (by have := HLE.out; omega) (by have := HLE.out; omega)
        refine C.mono ?_
        rintro r x4 ⟨vj, rfl, h, ho, k⟩
        obtain ⟨yj, dj, ej⟩ := h.shape
        subst ej
        have Hj := hid h
        clear h ho
        have HF := hid (HF.out.step k)
        clear C k
        go_wp2_with fail
        have C := above_any _ _ (joinC a b) a x4 Hj.out HF.out.ha (by have := HJL.out; omega) (by have := HLE.out; omega)
        rw [above_l HTA.out HTB.out] at C
        refine C.mono ?_
        rintro r x5 ⟨rfl, k⟩
        have HF := hid (HF.out.step k)
        have Hj := hid (Hj.out.kept k)
        clear C k
        go_wp2_with fail
        have C := above_any _ _ (joinC a b) b x5 Hj.out HF.out.hb (by have := HJL.out; omega) (by have := HLE.out; omega)
        rw [above_r HTA.out HTB.out] at C
        refine C.mono ?_
        rintro r x6 ⟨rfl, k⟩
        have HF := hid (HF.out.step k)
        have Hj := hid (Hj.out.kept k)
        clear C k
        obtain ⟨q1, hq1⟩ : ∃ x, aboveC c a = x := ⟨_, rfl⟩
        obtain ⟨q2, hq2⟩ : ∃ x, aboveC c b = x := ⟨_, rfl⟩
        have HQ1 := hid hq1
        have HQ2 := hid hq2
        clear hq1 hq2
        go_wp2_with fail
        have C := above_any _ _ c a x6 HF.out.hc HF.out.ha (by have := HLE.out; omega) (by have := HLE.out; omega)
        rw [HQ1.out] at C
        refine C.mono ?_
        rintro r x7 ⟨rfl, k⟩
        have HF := hid (HF.out.step k)
        have Hj := hid (Hj.out.kept k)
        clear C k
        cases q1 with
        | false =>
          go_wp2_with fail
          have C := join_any _ _ b a x7 HF.out.hb HF.out.ha (by have := HLE.out; omega) (by have := HLE.out; omega)
          rw [← join_comm HTA.out HTB.out] at C
          refine C.mono ?_
          rintro r x8 ⟨vk, rfl, h, ho, k⟩
          obtain ⟨yk, dk, ek⟩ := h.shape
          subst ek
          have Hk := hid h
          clear h ho
          have HF := hid (HF.out.step k)
          have Hj := hid (Hj.out.kept k)
          clear C k
          go_wp2_with fail
          have C := same_any _ _ (joinC a b) (joinC a b) x8 Hj.out Hk.out (by have := HJL.out; omega) (by have := HJL.out; omega)
          rw [decide_eq_true rfl] at C
          refine C.mono ?_
          rintro r x9 ⟨rfl, k⟩
          have HF := hid (HF.out.step k)
          have Hj := hid (Hj.out.kept k)
          have Hk := hid (Hk.out.kept k)
          clear C k
          clear Hk
          obtain ⟨z, hz⟩ : ∃ z, joinC (joinC a b) c = z := ⟨_, rfl⟩
          have HZL : Hid (z.length ≤ 120) := hid (by rw [← hz]; have := joinC_len (joinC a b) c; have := HJL.out; have := HLE.out; omega)
          have HZE : Hid (joinC a (joinC b c) = z) := hid (by rw [← hz, join_assoc HTA.out HTB.out HTC.out])
          have HZ := hid hz
          clear hz
          go_wp2_with fail
          have C := join_any _ _ (joinC a b) c x9 Hj.out HF.out.hc (by have := HJL.out; omega) (by have := HLE.out; omega)
          rw [HZ.out] at C
          refine C.mono ?_
          rintro r x10 ⟨vl, rfl, h, ho, k⟩
          obtain ⟨yl, dl, el⟩ := h.shape
          subst el
          have Hl := hid h
          clear h ho
          have HF := hid (HF.out.step k)
          have Hj := hid (Hj.out.kept k)
          clear C k
          go_wp2_with fail
          have C := join_any _ _ b c x10 HF.out.hb HF.out.hc (by have := HLE.out; omega) (by have := HLE.out; omega)
          refine C.mono ?_
          rintro r x11 ⟨vm, rfl, h, ho, k⟩
          obtain ⟨ym, dm, em⟩ := h.shape
          subst em
          have Hm := hid h
          clear h ho
          have HF := hid (HF.out.step k)
          have Hj := hid (Hj.out.kept k)
          have Hl := hid (Hl.out.kept k)
          clear C k
          go_wp2_with fail
          have C := join_any _ _ a (joinC b c) x11 HF.out.ha Hm.out (by have := HLE.out; omega) (by have := HJ2L.out; omega)
          rw [HZE.out] at C
          refine C.mono ?_
          rintro r x12 ⟨vn, rfl, h, ho, k⟩
          obtain ⟨yn, dn, en⟩ := h.shape
          subst en
          have Hn := hid h
          clear h ho
          have HF := hid (HF.out.step k)
          have Hj := hid (Hj.out.kept k)
          have Hl := hid (Hl.out.kept k)
          have Hm := hid (Hm.out.kept k)
          clear C k
          go_wp2_with fail
          have C := same_any _ _ z z x12 Hl.out Hn.out (by have := HZL.out; omega) (by have := HZL.out; omega)
          rw [decide_eq_true rfl] at C
          refine C.mono ?_
          rintro r x13 ⟨rfl, k⟩
          have HF := hid (HF.out.step k)
          have Hj := hid (Hj.out.kept k)
          have Hl := hid (Hl.out.kept k)
          have Hm := hid (Hm.out.kept k)
          have Hn := hid (Hn.out.kept k)
          clear C k
          clear Hl Hm Hn HZL HZ HZE
          go_wp2_with fail
          have C := join_any _ _ a a x13 HF.out.ha HF.out.ha (by have := HLE.out; omega) (by have := HLE.out; omega)
          rw [join_self HTA.out] at C
          refine C.mono ?_
          rintro r x14 ⟨vi, rfl, h, ho, k⟩
          obtain ⟨yi, di, ei⟩ := h.shape
          subst ei
          have Hi := hid h
          clear h ho
          have HF := hid (HF.out.step k)
          have Hj := hid (Hj.out.kept k)
          clear C k
          go_wp2_with fail
          have C := same_any _ _ a a x14 Hi.out HF.out.ha (by have := HLE.out; omega) (by have := HLE.out; omega)
          rw [decide_eq_true rfl] at C
          refine C.mono ?_
          rintro r x15 ⟨rfl, k⟩
          have HF := hid (HF.out.step k)
          have Hj := hid (Hj.out.kept k)
          have Hi := hid (Hi.out.kept k)
          clear C k
          clear Hi
          obtain ⟨q3, hq3⟩ : ∃ x, aboveC a b = x := ⟨_, rfl⟩
          obtain ⟨q4, hq4⟩ : ∃ x, aboveC b a = x := ⟨_, rfl⟩
          have HQ3 := hid hq3
          have HQ4 := hid hq4
          clear hq3 hq4
          go_wp2_with fail
          have C := above_any _ _ a b x15 HF.out.ha HF.out.hb (by have := HLE.out; omega) (by have := HLE.out; omega)
          rw [HQ3.out] at C
          refine C.mono ?_
          rintro r x16 ⟨rfl, k⟩
          have HF := hid (HF.out.step k)
          have Hj := hid (Hj.out.kept k)
          clear C k
          cases q3 with
          | false =>
            clear Hj HJL HJ2L HJRT
            obtain ⟨P, hP⟩ : ∃ P, x16.heap.size = P := ⟨_, rfl⟩
            obtain ⟨W4, hW4⟩ : ∃ W, W = x16.alloc (.cells #[.slice none 0 0] 42) := ⟨_, rfl⟩
            have PN : Hid (PenAt W4 P (.slice none 0 0) []) := hid (by rw [hW4, ← hP]; exact pen_new x16)
            have K4 : Hid (Kp Nb x16 W4) := hid (by rw [hW4]; exact (Kp.refl Nb x16).alloc _)
            have HP3 : Hid (w.heap.size ≤ P) := hid (by have := HF.out.k.size; omega)
            have HF := hid (HF.out.step K4.out)
            have CP := dput_any P _ a W4 HF.out.ha PN.out (fun g hg => by have := GA.out g hg; have := HP3.out; omega) (by have := HLE.out; omega)
            have ZP : putB a = true := by unfold putB; rw [HRA.out, Bool.true_and]; exact decide_eq_true (by have := HLE.out; omega)
            rw [ZP, if_pos rfl] at CP
            have CP := hid CP
            clear ZP
            go_upto_region 9 with fail
            rw [← hW4]
            try simp only [hP]
            clear hW4 hP
            go_wp2_with fail
            refine CP.out.mono ?_
            rintro r w5 ⟨rfl, vP, p5, t5⟩
            have HFA : Hid (ClSl w5 (.slice pa nA da) a) := hid (pen_sepC t5 HF.out.ha (fun g hg => by have := GA.out g hg; have := HP3.out; omega))
            have HFP := hid p5
            have HFK : Hid (Kp Nb w w5) := hid (HF.out.k.trans t5.kp (fun i hi h => h.elim (fun h => by have := HP3.out; omega) (fun h => by simp [Value.ownBlock] at h)))
            have ZL : Hid ((bytesC a).length ≤ 100000) := hid (bytesC_len HRA.out (by have := HLE.out; omega))
            clear CP PN K4 p5 t5 HF
            go_wp2_with fail
            refine (pen_bytes P vP _ w5 HFP.out (by have := ZL.out; omega)).mono ?_
            rintro r w6 ⟨rb, rfl, ow, k6⟩
            have BY : Hid (BySl Nb w6 rb (bytesC a)) := hid (BySl.ofOwn ow HFP.out.bytes (fun _ _ _ h => h))
            obtain ⟨yr, dr, rfl⟩ := own_shape ow
            have HFA := hid (HFA.out.kept k6)
            have HFK := hid (HFK.out.trans k6 (fun _ _ h => h))
            clear ow k6 HFP
            go_wp2_with fail
            refine (read_any _ _ w6 BY.out (by have := ZL.out; omega)).mono ?_
            rintro r w7 ⟨Be, hBe, rfl, he, k7⟩
            have HEY := hid he
            have HBE : Hid (w.heap.size ≤ Be ∧ Be < w7.heap.size) := hid ⟨by have := HFK.out.size; omega, he.lt⟩
            have HFA := hid (HFA.out.kept k7)
            have HFK := hid (HFK.out.trans k7 (fun _ _ h => h))
            clear he k7 hBe BY
            go_wp2_with fail
            have C := text_any _ a w7 HFA.out (by have := HLE.out; omega) (HT.out.kept HFK.out)
            refine C.mono ?_
            rintro r w8 ⟨rfl, k8⟩
            have HEY := hid (HEY.out.kept k8 (fun _ _ h => h))
            have HFA := hid (HFA.out.kept k8)
            have HFK := hid (HFK.out.trans k8 (fun _ _ h => h))
            have HBE : Hid (w.heap.size ≤ Be ∧ Be < w8.heap.size) := hid ⟨HBE.out.1, by have := HBE.out.2; have := k8.size; omega⟩
            clear C k8
            go_wp2_with fail
            have C := parse_any a w8 HRA.out (by have := HLE.out; omega) (HM.out.kept HFK.out) (HT.out.kept HFK.out)
            refine C.mono ?_
            rintro r w9 ⟨vt, rfl, h9, ho9, k9⟩
            have HO9 : Hid (∀ g, vt.ownBlock = some g → g ≠ Be) := hid (fun g hg => by have := (ho9 g hg).1; have := HBE.out.2; omega)
            obtain ⟨y9, d9, e9⟩ := h9.shape
            subst e9
            have H9 := hid h9
            have HEY := hid (HEY.out.kept k9 (fun _ _ h => h))
            have HFA := hid (HFA.out.kept k9)
            have HFK := hid (HFK.out.trans k9 (fun _ _ h => h))
            have HBE : Hid (w.heap.size ≤ Be ∧ Be < w9.heap.size) := hid ⟨HBE.out.1, by have := HBE.out.2; have := k9.size; omega⟩
            clear C k9 h9 ho9
            go_wp2_with fail
            have C := dget_any Be (bytesC a) 0 w9 (S := fun i => i = Be ∨ w9.heap.size ≤ i) (fun i => Iff.rfl) (EyeOn.of HEY.out w9.heap.size (Nat.le_refl _))
            rw [get_back HRA.out (by have := HLE.out; omega)] at C
            dsimp only at C
            refine C.mono ?_
            rintro r w10 ⟨vg, rfl, hg, -, he, k10⟩
            obtain ⟨yg, dg, eg⟩ := hg.shape
            subst eg
            have HEY : Hid (EyeAt w10 Be [] 0) := hid (EyeOn.at he (fun i h => .inl h))
            have HG := hid hg
            have HFA : Hid (ClSl w10 (.slice pa nA da) a) := hid (HFA.out.keptV k10 (fun g hg hs => by have hs : g = Be := hs; have := GA.out g hg; have := HBE.out.1; omega))
            have H9 := hid (H9.out.keptV k10 (fun g hg hs => HO9.out g hg hs))
            have HFK := hid (HFK.out.trans k10 (fun i hi hs => by have hs : i = Be := hs; have := HBE.out.1; omega))
            have HBE := hid HBE.out.1
            clear C k10 hg he
            go_wp2_with fail
            have C := same_any _ _ a a w10 HG.out HFA.out (by have := HLE.out; omega) (by have := HLE.out; omega)
            rw [decide_eq_true rfl] at C
            refine C.mono ?_
            rintro r w11 ⟨rfl, k11⟩
            have HEY := hid (HEY.out.kept k11 (fun _ _ h => h))
            have HFA := hid (HFA.out.kept k11)
            have H9 := hid (H9.out.kept k11)
            have HFK := hid (HFK.out.trans k11 (fun _ _ h => h))
            clear C k11 HG
            go_wp2_with fail
            have C := end_any Be [] 0 w11 HEY.out
            rw [show endE [] 0 = 0 from rfl] at C
            refine C.mono ?_
            rintro r w12 ⟨rfl, -, k12⟩
            have HFA : Hid (ClSl w12 (.slice pa nA da) a) := hid (HFA.out.keptV k12 (fun g hg hs => by have hs : g = Be := hs; have := GA.out g hg; have := HBE.out; omega))
            have H9 := hid (H9.out.keptV k12 (fun g hg hs => HO9.out g hg hs))
            have HFK := hid (HFK.out.trans k12 (fun i hi hs => by have hs : i = Be := hs; have := HBE.out; omega))
            clear C k12 HEY
            go_wp2_with fail
            have C := same_any _ _ a a w12 H9.out HFA.out (by have := HLE.out; omega) (by have := HLE.out; omega)
            rw [decide_eq_true rfl] at C
            refine C.mono ?_
            rintro r w13 ⟨rfl, k13⟩
            have HFK := hid (HFK.out.trans k13 (fun _ _ h => h))
            clear C k13
            go_wp2
            go_ret
            exact ⟨rfl, HFK.out⟩
          | true =>
            go_wp2_with fail
            have C := above_any _ _ b a x16 HF.out.hb HF.out.ha (by have := HLE.out; omega) (by have := HLE.out; omega)
            rw [HQ4.out] at C
            refine C.mono ?_
            rintro r x18 ⟨rfl, k⟩
            have HF := hid (HF.out.step k)
            have Hj := hid (Hj.out.kept k)
            clear C k
            cases q4 with
            | false =>
              clear Hj HJL HJ2L HJRT
              obtain ⟨P, hP⟩ : ∃ P, x18.heap.size = P := ⟨_, rfl⟩
              obtain ⟨W4, hW4⟩ : ∃ W, W = x18.alloc (.cells #[.slice none 0 0] 42) := ⟨_, rfl⟩
              have PN : Hid (PenAt W4 P (.slice none 0 0) []) := hid (by rw [hW4, ← hP]; exact pen_new x18)
              have K4 : Hid (Kp Nb x18 W4) := hid (by rw [hW4]; exact (Kp.refl Nb x18).alloc _)
              have HP3 : Hid (w.heap.size ≤ P) := hid (by have := HF.out.k.size; omega)
              have HF := hid (HF.out.step K4.out)
              have CP := dput_any P _ a W4 HF.out.ha PN.out (fun g hg => by have := GA.out g hg; have := HP3.out; omega) (by have := HLE.out; omega)
              have ZP : putB a = true := by unfold putB; rw [HRA.out, Bool.true_and]; exact decide_eq_true (by have := HLE.out; omega)
              rw [ZP, if_pos rfl] at CP
              have CP := hid CP
              clear ZP
              go_upto_region 9 with fail
              rw [← hW4]
              try simp only [hP]
              clear hW4 hP
              go_wp2_with fail
              refine CP.out.mono ?_
              rintro r w5 ⟨rfl, vP, p5, t5⟩
              have HFA : Hid (ClSl w5 (.slice pa nA da) a) := hid (pen_sepC t5 HF.out.ha (fun g hg => by have := GA.out g hg; have := HP3.out; omega))
              have HFP := hid p5
              have HFK : Hid (Kp Nb w w5) := hid (HF.out.k.trans t5.kp (fun i hi h => h.elim (fun h => by have := HP3.out; omega) (fun h => by simp [Value.ownBlock] at h)))
              have ZL : Hid ((bytesC a).length ≤ 100000) := hid (bytesC_len HRA.out (by have := HLE.out; omega))
              clear CP PN K4 p5 t5 HF
              go_wp2_with fail
              refine (pen_bytes P vP _ w5 HFP.out (by have := ZL.out; omega)).mono ?_
              rintro r w6 ⟨rb, rfl, ow, k6⟩
              have BY : Hid (BySl Nb w6 rb (bytesC a)) := hid (BySl.ofOwn ow HFP.out.bytes (fun _ _ _ h => h))
              obtain ⟨yr, dr, rfl⟩ := own_shape ow
              have HFA := hid (HFA.out.kept k6)
              have HFK := hid (HFK.out.trans k6 (fun _ _ h => h))
              clear ow k6 HFP
              go_wp2_with fail
              refine (read_any _ _ w6 BY.out (by have := ZL.out; omega)).mono ?_
              rintro r w7 ⟨Be, hBe, rfl, he, k7⟩
              have HEY := hid he
              have HBE : Hid (w.heap.size ≤ Be ∧ Be < w7.heap.size) := hid ⟨by have := HFK.out.size; omega, he.lt⟩
              have HFA := hid (HFA.out.kept k7)
              have HFK := hid (HFK.out.trans k7 (fun _ _ h => h))
              clear he k7 hBe BY
              go_wp2_with fail
              have C := text_any _ a w7 HFA.out (by have := HLE.out; omega) (HT.out.kept HFK.out)
              refine C.mono ?_
              rintro r w8 ⟨rfl, k8⟩
              have HEY := hid (HEY.out.kept k8 (fun _ _ h => h))
              have HFA := hid (HFA.out.kept k8)
              have HFK := hid (HFK.out.trans k8 (fun _ _ h => h))
              have HBE : Hid (w.heap.size ≤ Be ∧ Be < w8.heap.size) := hid ⟨HBE.out.1, by have := HBE.out.2; have := k8.size; omega⟩
              clear C k8
              go_wp2_with fail
              have C := parse_any a w8 HRA.out (by have := HLE.out; omega) (HM.out.kept HFK.out) (HT.out.kept HFK.out)
              refine C.mono ?_
              rintro r w9 ⟨vt, rfl, h9, ho9, k9⟩
              have HO9 : Hid (∀ g, vt.ownBlock = some g → g ≠ Be) := hid (fun g hg => by have := (ho9 g hg).1; have := HBE.out.2; omega)
              obtain ⟨y9, d9, e9⟩ := h9.shape
              subst e9
              have H9 := hid h9
              have HEY := hid (HEY.out.kept k9 (fun _ _ h => h))
              have HFA := hid (HFA.out.kept k9)
              have HFK := hid (HFK.out.trans k9 (fun _ _ h => h))
              have HBE : Hid (w.heap.size ≤ Be ∧ Be < w9.heap.size) := hid ⟨HBE.out.1, by have := HBE.out.2; have := k9.size; omega⟩
              clear C k9 h9 ho9
              go_wp2_with fail
              have C := dget_any Be (bytesC a) 0 w9 (S := fun i => i = Be ∨ w9.heap.size ≤ i) (fun i => Iff.rfl) (EyeOn.of HEY.out w9.heap.size (Nat.le_refl _))
              rw [get_back HRA.out (by have := HLE.out; omega)] at C
              dsimp only at C
              refine C.mono ?_
              rintro r w10 ⟨vg, rfl, hg, -, he, k10⟩
              obtain ⟨yg, dg, eg⟩ := hg.shape
              subst eg
              have HEY : Hid (EyeAt w10 Be [] 0) := hid (EyeOn.at he (fun i h => .inl h))
              have HG := hid hg
              have HFA : Hid (ClSl w10 (.slice pa nA da) a) := hid (HFA.out.keptV k10 (fun g hg hs => by have hs : g = Be := hs; have := GA.out g hg; have := HBE.out.1; omega))
              have H9 := hid (H9.out.keptV k10 (fun g hg hs => HO9.out g hg hs))
              have HFK := hid (HFK.out.trans k10 (fun i hi hs => by have hs : i = Be := hs; have := HBE.out.1; omega))
              have HBE := hid HBE.out.1
              clear C k10 hg he
              go_wp2_with fail
              have C := same_any _ _ a a w10 HG.out HFA.out (by have := HLE.out; omega) (by have := HLE.out; omega)
              rw [decide_eq_true rfl] at C
              refine C.mono ?_
              rintro r w11 ⟨rfl, k11⟩
              have HEY := hid (HEY.out.kept k11 (fun _ _ h => h))
              have HFA := hid (HFA.out.kept k11)
              have H9 := hid (H9.out.kept k11)
              have HFK := hid (HFK.out.trans k11 (fun _ _ h => h))
              clear C k11 HG
              go_wp2_with fail
              have C := end_any Be [] 0 w11 HEY.out
              rw [show endE [] 0 = 0 from rfl] at C
              refine C.mono ?_
              rintro r w12 ⟨rfl, -, k12⟩
              have HFA : Hid (ClSl w12 (.slice pa nA da) a) := hid (HFA.out.keptV k12 (fun g hg hs => by have hs : g = Be := hs; have := GA.out g hg; have := HBE.out; omega))
              have H9 := hid (H9.out.keptV k12 (fun g hg hs => HO9.out g hg hs))
              have HFK := hid (HFK.out.trans k12 (fun i hi hs => by have hs : i = Be := hs; have := HBE.out; omega))
              clear C k12 HEY
              go_wp2_with fail
              have C := same_any _ _ a a w12 H9.out HFA.out (by have := HLE.out; omega) (by have := HLE.out; omega)
              rw [decide_eq_true rfl] at C
              refine C.mono ?_
              rintro r w13 ⟨rfl, k13⟩
              have HFK := hid (HFK.out.trans k13 (fun _ _ h => h))
              clear C k13
              go_wp2
              go_ret
              exact ⟨rfl, HFK.out⟩
            | true =>
              have HSM : Hid (decide (a = b) = true) := hid (decide_eq_true (above_same HTA.out HTB.out HQ3.out HQ4.out))
              go_wp2_with fail
              have C := same_any _ _ a b x18 HF.out.ha HF.out.hb (by have := HLE.out; omega) (by have := HLE.out; omega)
              rw [HSM.out] at C
              refine C.mono ?_
              rintro r x20 ⟨rfl, k⟩
              have HF := hid (HF.out.step k)
              have Hj := hid (Hj.out.kept k)
              clear C k
              clear Hj HJL HJ2L HJRT
              obtain ⟨P, hP⟩ : ∃ P, x20.heap.size = P := ⟨_, rfl⟩
              obtain ⟨W4, hW4⟩ : ∃ W, W = x20.alloc (.cells #[.slice none 0 0] 42) := ⟨_, rfl⟩
              have PN : Hid (PenAt W4 P (.slice none 0 0) []) := hid (by rw [hW4, ← hP]; exact pen_new x20)
              have K4 : Hid (Kp Nb x20 W4) := hid (by rw [hW4]; exact (Kp.refl Nb x20).alloc _)
              have HP3 : Hid (w.heap.size ≤ P) := hid (by have := HF.out.k.size; omega)
              have HF := hid (HF.out.step K4.out)
              have CP := dput_any P _ a W4 HF.out.ha PN.out (fun g hg => by have := GA.out g hg; have := HP3.out; omega) (by have := HLE.out; omega)
              have ZP : putB a = true := by unfold putB; rw [HRA.out, Bool.true_and]; exact decide_eq_true (by have := HLE.out; omega)
              rw [ZP, if_pos rfl] at CP
              have CP := hid CP
              clear ZP
              go_upto_region 9 with fail
              rw [← hW4]
              try simp only [hP]
              clear hW4 hP
              go_wp2_with fail
              refine CP.out.mono ?_
              rintro r w5 ⟨rfl, vP, p5, t5⟩
              have HFA : Hid (ClSl w5 (.slice pa nA da) a) := hid (pen_sepC t5 HF.out.ha (fun g hg => by have := GA.out g hg; have := HP3.out; omega))
              have HFP := hid p5
              have HFK : Hid (Kp Nb w w5) := hid (HF.out.k.trans t5.kp (fun i hi h => h.elim (fun h => by have := HP3.out; omega) (fun h => by simp [Value.ownBlock] at h)))
              have ZL : Hid ((bytesC a).length ≤ 100000) := hid (bytesC_len HRA.out (by have := HLE.out; omega))
              clear CP PN K4 p5 t5 HF
              go_wp2_with fail
              refine (pen_bytes P vP _ w5 HFP.out (by have := ZL.out; omega)).mono ?_
              rintro r w6 ⟨rb, rfl, ow, k6⟩
              have BY : Hid (BySl Nb w6 rb (bytesC a)) := hid (BySl.ofOwn ow HFP.out.bytes (fun _ _ _ h => h))
              obtain ⟨yr, dr, rfl⟩ := own_shape ow
              have HFA := hid (HFA.out.kept k6)
              have HFK := hid (HFK.out.trans k6 (fun _ _ h => h))
              clear ow k6 HFP
              go_wp2_with fail
              refine (read_any _ _ w6 BY.out (by have := ZL.out; omega)).mono ?_
              rintro r w7 ⟨Be, hBe, rfl, he, k7⟩
              have HEY := hid he
              have HBE : Hid (w.heap.size ≤ Be ∧ Be < w7.heap.size) := hid ⟨by have := HFK.out.size; omega, he.lt⟩
              have HFA := hid (HFA.out.kept k7)
              have HFK := hid (HFK.out.trans k7 (fun _ _ h => h))
              clear he k7 hBe BY
              go_wp2_with fail
              have C := text_any _ a w7 HFA.out (by have := HLE.out; omega) (HT.out.kept HFK.out)
              refine C.mono ?_
              rintro r w8 ⟨rfl, k8⟩
              have HEY := hid (HEY.out.kept k8 (fun _ _ h => h))
              have HFA := hid (HFA.out.kept k8)
              have HFK := hid (HFK.out.trans k8 (fun _ _ h => h))
              have HBE : Hid (w.heap.size ≤ Be ∧ Be < w8.heap.size) := hid ⟨HBE.out.1, by have := HBE.out.2; have := k8.size; omega⟩
              clear C k8
              go_wp2_with fail
              have C := parse_any a w8 HRA.out (by have := HLE.out; omega) (HM.out.kept HFK.out) (HT.out.kept HFK.out)
              refine C.mono ?_
              rintro r w9 ⟨vt, rfl, h9, ho9, k9⟩
              have HO9 : Hid (∀ g, vt.ownBlock = some g → g ≠ Be) := hid (fun g hg => by have := (ho9 g hg).1; have := HBE.out.2; omega)
              obtain ⟨y9, d9, e9⟩ := h9.shape
              subst e9
              have H9 := hid h9
              have HEY := hid (HEY.out.kept k9 (fun _ _ h => h))
              have HFA := hid (HFA.out.kept k9)
              have HFK := hid (HFK.out.trans k9 (fun _ _ h => h))
              have HBE : Hid (w.heap.size ≤ Be ∧ Be < w9.heap.size) := hid ⟨HBE.out.1, by have := HBE.out.2; have := k9.size; omega⟩
              clear C k9 h9 ho9
              go_wp2_with fail
              have C := dget_any Be (bytesC a) 0 w9 (S := fun i => i = Be ∨ w9.heap.size ≤ i) (fun i => Iff.rfl) (EyeOn.of HEY.out w9.heap.size (Nat.le_refl _))
              rw [get_back HRA.out (by have := HLE.out; omega)] at C
              dsimp only at C
              refine C.mono ?_
              rintro r w10 ⟨vg, rfl, hg, -, he, k10⟩
              obtain ⟨yg, dg, eg⟩ := hg.shape
              subst eg
              have HEY : Hid (EyeAt w10 Be [] 0) := hid (EyeOn.at he (fun i h => .inl h))
              have HG := hid hg
              have HFA : Hid (ClSl w10 (.slice pa nA da) a) := hid (HFA.out.keptV k10 (fun g hg hs => by have hs : g = Be := hs; have := GA.out g hg; have := HBE.out.1; omega))
              have H9 := hid (H9.out.keptV k10 (fun g hg hs => HO9.out g hg hs))
              have HFK := hid (HFK.out.trans k10 (fun i hi hs => by have hs : i = Be := hs; have := HBE.out.1; omega))
              have HBE := hid HBE.out.1
              clear C k10 hg he
              go_wp2_with fail
              have C := same_any _ _ a a w10 HG.out HFA.out (by have := HLE.out; omega) (by have := HLE.out; omega)
              rw [decide_eq_true rfl] at C
              refine C.mono ?_
              rintro r w11 ⟨rfl, k11⟩
              have HEY := hid (HEY.out.kept k11 (fun _ _ h => h))
              have HFA := hid (HFA.out.kept k11)
              have H9 := hid (H9.out.kept k11)
              have HFK := hid (HFK.out.trans k11 (fun _ _ h => h))
              clear C k11 HG
              go_wp2_with fail
              have C := end_any Be [] 0 w11 HEY.out
              rw [show endE [] 0 = 0 from rfl] at C
              refine C.mono ?_
              rintro r w12 ⟨rfl, -, k12⟩
              have HFA : Hid (ClSl w12 (.slice pa nA da) a) := hid (HFA.out.keptV k12 (fun g hg hs => by have hs : g = Be := hs; have := GA.out g hg; have := HBE.out; omega))
              have H9 := hid (H9.out.keptV k12 (fun g hg hs => HO9.out g hg hs))
              have HFK := hid (HFK.out.trans k12 (fun i hi hs => by have hs : i = Be := hs; have := HBE.out; omega))
              clear C k12 HEY
              go_wp2_with fail
              have C := same_any _ _ a a w12 H9.out HFA.out (by have := HLE.out; omega) (by have := HLE.out; omega)
              rw [decide_eq_true rfl] at C
              refine C.mono ?_
              rintro r w13 ⟨rfl, k13⟩
              have HFK := hid (HFK.out.trans k13 (fun _ _ h => h))
              clear C k13
              go_wp2
              go_ret
              exact ⟨rfl, HFK.out⟩
        | true =>
          go_wp2_with fail
          have C := above_any _ _ c b x7 HF.out.hc HF.out.hb (by have := HLE.out; omega) (by have := HLE.out; omega)
          rw [HQ2.out] at C
          refine C.mono ?_
          rintro r x22 ⟨rfl, k⟩
          have HF := hid (HF.out.step k)
          have Hj := hid (Hj.out.kept k)
          clear C k
          cases q2 with
          | false =>
            go_wp2_with fail
            have C := join_any _ _ b a x22 HF.out.hb HF.out.ha (by have := HLE.out; omega) (by have := HLE.out; omega)
            rw [← join_comm HTA.out HTB.out] at C
            refine C.mono ?_
            rintro r x23 ⟨vk, rfl, h, ho, k⟩
            obtain ⟨yk, dk, ek⟩ := h.shape
            subst ek
            have Hk := hid h
            clear h ho
            have HF := hid (HF.out.step k)
            have Hj := hid (Hj.out.kept k)
            clear C k
            go_wp2_with fail
            have C := same_any _ _ (joinC a b) (joinC a b) x23 Hj.out Hk.out (by have := HJL.out; omega) (by have := HJL.out; omega)
            rw [decide_eq_true rfl] at C
            refine C.mono ?_
            rintro r x24 ⟨rfl, k⟩
            have HF := hid (HF.out.step k)
            have Hj := hid (Hj.out.kept k)
            have Hk := hid (Hk.out.kept k)
            clear C k
            clear Hk
            obtain ⟨z, hz⟩ : ∃ z, joinC (joinC a b) c = z := ⟨_, rfl⟩
            have HZL : Hid (z.length ≤ 120) := hid (by rw [← hz]; have := joinC_len (joinC a b) c; have := HJL.out; have := HLE.out; omega)
            have HZE : Hid (joinC a (joinC b c) = z) := hid (by rw [← hz, join_assoc HTA.out HTB.out HTC.out])
            have HZ := hid hz
            clear hz
            go_wp2_with fail
            have C := join_any _ _ (joinC a b) c x24 Hj.out HF.out.hc (by have := HJL.out; omega) (by have := HLE.out; omega)
            rw [HZ.out] at C
            refine C.mono ?_
            rintro r x25 ⟨vl, rfl, h, ho, k⟩
            obtain ⟨yl, dl, el⟩ := h.shape
            subst el
            have Hl := hid h
            clear h ho
            have HF := hid (HF.out.step k)
            have Hj := hid (Hj.out.kept k)
            clear C k
            go_wp2_with fail
            have C := join_any _ _ b c x25 HF.out.hb HF.out.hc (by have := HLE.out; omega) (by have := HLE.out; omega)
            refine C.mono ?_
            rintro r x26 ⟨vm, rfl, h, ho, k⟩
            obtain ⟨ym, dm, em⟩ := h.shape
            subst em
            have Hm := hid h
            clear h ho
            have HF := hid (HF.out.step k)
            have Hj := hid (Hj.out.kept k)
            have Hl := hid (Hl.out.kept k)
            clear C k
            go_wp2_with fail
            have C := join_any _ _ a (joinC b c) x26 HF.out.ha Hm.out (by have := HLE.out; omega) (by have := HJ2L.out; omega)
            rw [HZE.out] at C
            refine C.mono ?_
            rintro r x27 ⟨vn, rfl, h, ho, k⟩
            obtain ⟨yn, dn, en⟩ := h.shape
            subst en
            have Hn := hid h
            clear h ho
            have HF := hid (HF.out.step k)
            have Hj := hid (Hj.out.kept k)
            have Hl := hid (Hl.out.kept k)
            have Hm := hid (Hm.out.kept k)
            clear C k
            go_wp2_with fail
            have C := same_any _ _ z z x27 Hl.out Hn.out (by have := HZL.out; omega) (by have := HZL.out; omega)
            rw [decide_eq_true rfl] at C
            refine C.mono ?_
            rintro r x28 ⟨rfl, k⟩
            have HF := hid (HF.out.step k)
            have Hj := hid (Hj.out.kept k)
            have Hl := hid (Hl.out.kept k)
            have Hm := hid (Hm.out.kept k)
            have Hn := hid (Hn.out.kept k)
            clear C k
            clear Hl Hm Hn HZL HZ HZE
            go_wp2_with fail
            have C := join_any _ _ a a x28 HF.out.ha HF.out.ha (by have := HLE.out; omega) (by have := HLE.out; omega)
            rw [join_self HTA.out] at C
            refine C.mono ?_
            rintro r x29 ⟨vi, rfl, h, ho, k⟩
            obtain ⟨yi, di, ei⟩ := h.shape
            subst ei
            have Hi := hid h
            clear h ho
            have HF := hid (HF.out.step k)
            have Hj := hid (Hj.out.kept k)
            clear C k
            go_wp2_with fail
            have C := same_any _ _ a a x29 Hi.out HF.out.ha (by have := HLE.out; omega) (by have := HLE.out; omega)
            rw [decide_eq_true rfl] at C
            refine C.mono ?_
            rintro r x30 ⟨rfl, k⟩
            have HF := hid (HF.out.step k)
            have Hj := hid (Hj.out.kept k)
            have Hi := hid (Hi.out.kept k)
            clear C k
            clear Hi
            obtain ⟨q3, hq3⟩ : ∃ x, aboveC a b = x := ⟨_, rfl⟩
            obtain ⟨q4, hq4⟩ : ∃ x, aboveC b a = x := ⟨_, rfl⟩
            have HQ3 := hid hq3
            have HQ4 := hid hq4
            clear hq3 hq4
            go_wp2_with fail
            have C := above_any _ _ a b x30 HF.out.ha HF.out.hb (by have := HLE.out; omega) (by have := HLE.out; omega)
            rw [HQ3.out] at C
            refine C.mono ?_
            rintro r x31 ⟨rfl, k⟩
            have HF := hid (HF.out.step k)
            have Hj := hid (Hj.out.kept k)
            clear C k
            cases q3 with
            | false =>
              clear Hj HJL HJ2L HJRT
              obtain ⟨P, hP⟩ : ∃ P, x31.heap.size = P := ⟨_, rfl⟩
              obtain ⟨W4, hW4⟩ : ∃ W, W = x31.alloc (.cells #[.slice none 0 0] 42) := ⟨_, rfl⟩
              have PN : Hid (PenAt W4 P (.slice none 0 0) []) := hid (by rw [hW4, ← hP]; exact pen_new x31)
              have K4 : Hid (Kp Nb x31 W4) := hid (by rw [hW4]; exact (Kp.refl Nb x31).alloc _)
              have HP3 : Hid (w.heap.size ≤ P) := hid (by have := HF.out.k.size; omega)
              have HF := hid (HF.out.step K4.out)
              have CP := dput_any P _ a W4 HF.out.ha PN.out (fun g hg => by have := GA.out g hg; have := HP3.out; omega) (by have := HLE.out; omega)
              have ZP : putB a = true := by unfold putB; rw [HRA.out, Bool.true_and]; exact decide_eq_true (by have := HLE.out; omega)
              rw [ZP, if_pos rfl] at CP
              have CP := hid CP
              clear ZP
              go_upto_region 9 with fail
              rw [← hW4]
              try simp only [hP]
              clear hW4 hP
              go_wp2_with fail
              refine CP.out.mono ?_
              rintro r w5 ⟨rfl, vP, p5, t5⟩
              have HFA : Hid (ClSl w5 (.slice pa nA da) a) := hid (pen_sepC t5 HF.out.ha (fun g hg => by have := GA.out g hg; have := HP3.out; omega))
              have HFP := hid p5
              have HFK : Hid (Kp Nb w w5) := hid (HF.out.k.trans t5.kp (fun i hi h => h.elim (fun h => by have := HP3.out; omega) (fun h => by simp [Value.ownBlock] at h)))
              have ZL : Hid ((bytesC a).length ≤ 100000) := hid (bytesC_len HRA.out (by have := HLE.out; omega))
              clear CP PN K4 p5 t5 HF
              go_wp2_with fail
              refine (pen_bytes P vP _ w5 HFP.out (by have := ZL.out; omega)).mono ?_
              rintro r w6 ⟨rb, rfl, ow, k6⟩
              have BY : Hid (BySl Nb w6 rb (bytesC a)) := hid (BySl.ofOwn ow HFP.out.bytes (fun _ _ _ h => h))
              obtain ⟨yr, dr, rfl⟩ := own_shape ow
              have HFA := hid (HFA.out.kept k6)
              have HFK := hid (HFK.out.trans k6 (fun _ _ h => h))
              clear ow k6 HFP
              go_wp2_with fail
              refine (read_any _ _ w6 BY.out (by have := ZL.out; omega)).mono ?_
              rintro r w7 ⟨Be, hBe, rfl, he, k7⟩
              have HEY := hid he
              have HBE : Hid (w.heap.size ≤ Be ∧ Be < w7.heap.size) := hid ⟨by have := HFK.out.size; omega, he.lt⟩
              have HFA := hid (HFA.out.kept k7)
              have HFK := hid (HFK.out.trans k7 (fun _ _ h => h))
              clear he k7 hBe BY
              go_wp2_with fail
              have C := text_any _ a w7 HFA.out (by have := HLE.out; omega) (HT.out.kept HFK.out)
              refine C.mono ?_
              rintro r w8 ⟨rfl, k8⟩
              have HEY := hid (HEY.out.kept k8 (fun _ _ h => h))
              have HFA := hid (HFA.out.kept k8)
              have HFK := hid (HFK.out.trans k8 (fun _ _ h => h))
              have HBE : Hid (w.heap.size ≤ Be ∧ Be < w8.heap.size) := hid ⟨HBE.out.1, by have := HBE.out.2; have := k8.size; omega⟩
              clear C k8
              go_wp2_with fail
              have C := parse_any a w8 HRA.out (by have := HLE.out; omega) (HM.out.kept HFK.out) (HT.out.kept HFK.out)
              refine C.mono ?_
              rintro r w9 ⟨vt, rfl, h9, ho9, k9⟩
              have HO9 : Hid (∀ g, vt.ownBlock = some g → g ≠ Be) := hid (fun g hg => by have := (ho9 g hg).1; have := HBE.out.2; omega)
              obtain ⟨y9, d9, e9⟩ := h9.shape
              subst e9
              have H9 := hid h9
              have HEY := hid (HEY.out.kept k9 (fun _ _ h => h))
              have HFA := hid (HFA.out.kept k9)
              have HFK := hid (HFK.out.trans k9 (fun _ _ h => h))
              have HBE : Hid (w.heap.size ≤ Be ∧ Be < w9.heap.size) := hid ⟨HBE.out.1, by have := HBE.out.2; have := k9.size; omega⟩
              clear C k9 h9 ho9
              go_wp2_with fail
              have C := dget_any Be (bytesC a) 0 w9 (S := fun i => i = Be ∨ w9.heap.size ≤ i) (fun i => Iff.rfl) (EyeOn.of HEY.out w9.heap.size (Nat.le_refl _))
              rw [get_back HRA.out (by have := HLE.out; omega)] at C
              dsimp only at C
              refine C.mono ?_
              rintro r w10 ⟨vg, rfl, hg, -, he, k10⟩
              obtain ⟨yg, dg, eg⟩ := hg.shape
              subst eg
              have HEY : Hid (EyeAt w10 Be [] 0) := hid (EyeOn.at he (fun i h => .inl h))
              have HG := hid hg
              have HFA : Hid (ClSl w10 (.slice pa nA da) a) := hid (HFA.out.keptV k10 (fun g hg hs => by have hs : g = Be := hs; have := GA.out g hg; have := HBE.out.1; omega))
              have H9 := hid (H9.out.keptV k10 (fun g hg hs => HO9.out g hg hs))
              have HFK := hid (HFK.out.trans k10 (fun i hi hs => by have hs : i = Be := hs; have := HBE.out.1; omega))
              have HBE := hid HBE.out.1
              clear C k10 hg he
              go_wp2_with fail
              have C := same_any _ _ a a w10 HG.out HFA.out (by have := HLE.out; omega) (by have := HLE.out; omega)
              rw [decide_eq_true rfl] at C
              refine C.mono ?_
              rintro r w11 ⟨rfl, k11⟩
              have HEY := hid (HEY.out.kept k11 (fun _ _ h => h))
              have HFA := hid (HFA.out.kept k11)
              have H9 := hid (H9.out.kept k11)
              have HFK := hid (HFK.out.trans k11 (fun _ _ h => h))
              clear C k11 HG
              go_wp2_with fail
              have C := end_any Be [] 0 w11 HEY.out
              rw [show endE [] 0 = 0 from rfl] at C
              refine C.mono ?_
              rintro r w12 ⟨rfl, -, k12⟩
              have HFA : Hid (ClSl w12 (.slice pa nA da) a) := hid (HFA.out.keptV k12 (fun g hg hs => by have hs : g = Be := hs; have := GA.out g hg; have := HBE.out; omega))
              have H9 := hid (H9.out.keptV k12 (fun g hg hs => HO9.out g hg hs))
              have HFK := hid (HFK.out.trans k12 (fun i hi hs => by have hs : i = Be := hs; have := HBE.out; omega))
              clear C k12 HEY
              go_wp2_with fail
              have C := same_any _ _ a a w12 H9.out HFA.out (by have := HLE.out; omega) (by have := HLE.out; omega)
              rw [decide_eq_true rfl] at C
              refine C.mono ?_
              rintro r w13 ⟨rfl, k13⟩
              have HFK := hid (HFK.out.trans k13 (fun _ _ h => h))
              clear C k13
              go_wp2
              go_ret
              exact ⟨rfl, HFK.out⟩
            | true =>
              go_wp2_with fail
              have C := above_any _ _ b a x31 HF.out.hb HF.out.ha (by have := HLE.out; omega) (by have := HLE.out; omega)
              rw [HQ4.out] at C
              refine C.mono ?_
              rintro r x33 ⟨rfl, k⟩
              have HF := hid (HF.out.step k)
              have Hj := hid (Hj.out.kept k)
              clear C k
              cases q4 with
              | false =>
                clear Hj HJL HJ2L HJRT
                obtain ⟨P, hP⟩ : ∃ P, x33.heap.size = P := ⟨_, rfl⟩
                obtain ⟨W4, hW4⟩ : ∃ W, W = x33.alloc (.cells #[.slice none 0 0] 42) := ⟨_, rfl⟩
                have PN : Hid (PenAt W4 P (.slice none 0 0) []) := hid (by rw [hW4, ← hP]; exact pen_new x33)
                have K4 : Hid (Kp Nb x33 W4) := hid (by rw [hW4]; exact (Kp.refl Nb x33).alloc _)
                have HP3 : Hid (w.heap.size ≤ P) := hid (by have := HF.out.k.size; omega)
                have HF := hid (HF.out.step K4.out)
                have CP := dput_any P _ a W4 HF.out.ha PN.out (fun g hg => by have := GA.out g hg; have := HP3.out; omega) (by have := HLE.out; omega)
                have ZP : putB a = true := by unfold putB; rw [HRA.out, Bool.true_and]; exact decide_eq_true (by have := HLE.out; omega)
                rw [ZP, if_pos rfl] at CP
                have CP := hid CP
                clear ZP
                go_upto_region 9 with fail
                rw [← hW4]
                try simp only [hP]
                clear hW4 hP
                go_wp2_with fail
                refine CP.out.mono ?_
                rintro r w5 ⟨rfl, vP, p5, t5⟩
                have HFA : Hid (ClSl w5 (.slice pa nA da) a) := hid (pen_sepC t5 HF.out.ha (fun g hg => by have := GA.out g hg; have := HP3.out; omega))
                have HFP := hid p5
                have HFK : Hid (Kp Nb w w5) := hid (HF.out.k.trans t5.kp (fun i hi h => h.elim (fun h => by have := HP3.out; omega) (fun h => by simp [Value.ownBlock] at h)))
                have ZL : Hid ((bytesC a).length ≤ 100000) := hid (bytesC_len HRA.out (by have := HLE.out; omega))
                clear CP PN K4 p5 t5 HF
                go_wp2_with fail
                refine (pen_bytes P vP _ w5 HFP.out (by have := ZL.out; omega)).mono ?_
                rintro r w6 ⟨rb, rfl, ow, k6⟩
                have BY : Hid (BySl Nb w6 rb (bytesC a)) := hid (BySl.ofOwn ow HFP.out.bytes (fun _ _ _ h => h))
                obtain ⟨yr, dr, rfl⟩ := own_shape ow
                have HFA := hid (HFA.out.kept k6)
                have HFK := hid (HFK.out.trans k6 (fun _ _ h => h))
                clear ow k6 HFP
                go_wp2_with fail
                refine (read_any _ _ w6 BY.out (by have := ZL.out; omega)).mono ?_
                rintro r w7 ⟨Be, hBe, rfl, he, k7⟩
                have HEY := hid he
                have HBE : Hid (w.heap.size ≤ Be ∧ Be < w7.heap.size) := hid ⟨by have := HFK.out.size; omega, he.lt⟩
                have HFA := hid (HFA.out.kept k7)
                have HFK := hid (HFK.out.trans k7 (fun _ _ h => h))
                clear he k7 hBe BY
                go_wp2_with fail
                have C := text_any _ a w7 HFA.out (by have := HLE.out; omega) (HT.out.kept HFK.out)
                refine C.mono ?_
                rintro r w8 ⟨rfl, k8⟩
                have HEY := hid (HEY.out.kept k8 (fun _ _ h => h))
                have HFA := hid (HFA.out.kept k8)
                have HFK := hid (HFK.out.trans k8 (fun _ _ h => h))
                have HBE : Hid (w.heap.size ≤ Be ∧ Be < w8.heap.size) := hid ⟨HBE.out.1, by have := HBE.out.2; have := k8.size; omega⟩
                clear C k8
                go_wp2_with fail
                have C := parse_any a w8 HRA.out (by have := HLE.out; omega) (HM.out.kept HFK.out) (HT.out.kept HFK.out)
                refine C.mono ?_
                rintro r w9 ⟨vt, rfl, h9, ho9, k9⟩
                have HO9 : Hid (∀ g, vt.ownBlock = some g → g ≠ Be) := hid (fun g hg => by have := (ho9 g hg).1; have := HBE.out.2; omega)
                obtain ⟨y9, d9, e9⟩ := h9.shape
                subst e9
                have H9 := hid h9
                have HEY := hid (HEY.out.kept k9 (fun _ _ h => h))
                have HFA := hid (HFA.out.kept k9)
                have HFK := hid (HFK.out.trans k9 (fun _ _ h => h))
                have HBE : Hid (w.heap.size ≤ Be ∧ Be < w9.heap.size) := hid ⟨HBE.out.1, by have := HBE.out.2; have := k9.size; omega⟩
                clear C k9 h9 ho9
                go_wp2_with fail
                have C := dget_any Be (bytesC a) 0 w9 (S := fun i => i = Be ∨ w9.heap.size ≤ i) (fun i => Iff.rfl) (EyeOn.of HEY.out w9.heap.size (Nat.le_refl _))
                rw [get_back HRA.out (by have := HLE.out; omega)] at C
                dsimp only at C
                refine C.mono ?_
                rintro r w10 ⟨vg, rfl, hg, -, he, k10⟩
                obtain ⟨yg, dg, eg⟩ := hg.shape
                subst eg
                have HEY : Hid (EyeAt w10 Be [] 0) := hid (EyeOn.at he (fun i h => .inl h))
                have HG := hid hg
                have HFA : Hid (ClSl w10 (.slice pa nA da) a) := hid (HFA.out.keptV k10 (fun g hg hs => by have hs : g = Be := hs; have := GA.out g hg; have := HBE.out.1; omega))
                have H9 := hid (H9.out.keptV k10 (fun g hg hs => HO9.out g hg hs))
                have HFK := hid (HFK.out.trans k10 (fun i hi hs => by have hs : i = Be := hs; have := HBE.out.1; omega))
                have HBE := hid HBE.out.1
                clear C k10 hg he
                go_wp2_with fail
                have C := same_any _ _ a a w10 HG.out HFA.out (by have := HLE.out; omega) (by have := HLE.out; omega)
                rw [decide_eq_true rfl] at C
                refine C.mono ?_
                rintro r w11 ⟨rfl, k11⟩
                have HEY := hid (HEY.out.kept k11 (fun _ _ h => h))
                have HFA := hid (HFA.out.kept k11)
                have H9 := hid (H9.out.kept k11)
                have HFK := hid (HFK.out.trans k11 (fun _ _ h => h))
                clear C k11 HG
                go_wp2_with fail
                have C := end_any Be [] 0 w11 HEY.out
                rw [show endE [] 0 = 0 from rfl] at C
                refine C.mono ?_
                rintro r w12 ⟨rfl, -, k12⟩
                have HFA : Hid (ClSl w12 (.slice pa nA da) a) := hid (HFA.out.keptV k12 (fun g hg hs => by have hs : g = Be := hs; have := GA.out g hg; have := HBE.out; omega))
                have H9 := hid (H9.out.keptV k12 (fun g hg hs => HO9.out g hg hs))
                have HFK := hid (HFK.out.trans k12 (fun i hi hs => by have hs : i = Be := hs; have := HBE.out; omega))
                clear C k12 HEY
                go_wp2_with fail
                have C := same_any _ _ a a w12 H9.out HFA.out (by have := HLE.out; omega) (by have := HLE.out; omega)
                rw [decide_eq_true rfl] at C
                refine C.mono ?_
                rintro r w13 ⟨rfl, k13⟩
                have HFK := hid (HFK.out.trans k13 (fun _ _ h => h))
                clear C k13
                go_wp2
                go_ret
                exact ⟨rfl, HFK.out⟩
              | true =>
                have HSM : Hid (decide (a = b) = true) := hid (decide_eq_true (above_same HTA.out HTB.out HQ3.out HQ4.out))
                go_wp2_with fail
                have C := same_any _ _ a b x33 HF.out.ha HF.out.hb (by have := HLE.out; omega) (by have := HLE.out; omega)
                rw [HSM.out] at C
                refine C.mono ?_
                rintro r x35 ⟨rfl, k⟩
                have HF := hid (HF.out.step k)
                have Hj := hid (Hj.out.kept k)
                clear C k
                clear Hj HJL HJ2L HJRT
                obtain ⟨P, hP⟩ : ∃ P, x35.heap.size = P := ⟨_, rfl⟩
                obtain ⟨W4, hW4⟩ : ∃ W, W = x35.alloc (.cells #[.slice none 0 0] 42) := ⟨_, rfl⟩
                have PN : Hid (PenAt W4 P (.slice none 0 0) []) := hid (by rw [hW4, ← hP]; exact pen_new x35)
                have K4 : Hid (Kp Nb x35 W4) := hid (by rw [hW4]; exact (Kp.refl Nb x35).alloc _)
                have HP3 : Hid (w.heap.size ≤ P) := hid (by have := HF.out.k.size; omega)
                have HF := hid (HF.out.step K4.out)
                have CP := dput_any P _ a W4 HF.out.ha PN.out (fun g hg => by have := GA.out g hg; have := HP3.out; omega) (by have := HLE.out; omega)
                have ZP : putB a = true := by unfold putB; rw [HRA.out, Bool.true_and]; exact decide_eq_true (by have := HLE.out; omega)
                rw [ZP, if_pos rfl] at CP
                have CP := hid CP
                clear ZP
                go_upto_region 9 with fail
                rw [← hW4]
                try simp only [hP]
                clear hW4 hP
                go_wp2_with fail
                refine CP.out.mono ?_
                rintro r w5 ⟨rfl, vP, p5, t5⟩
                have HFA : Hid (ClSl w5 (.slice pa nA da) a) := hid (pen_sepC t5 HF.out.ha (fun g hg => by have := GA.out g hg; have := HP3.out; omega))
                have HFP := hid p5
                have HFK : Hid (Kp Nb w w5) := hid (HF.out.k.trans t5.kp (fun i hi h => h.elim (fun h => by have := HP3.out; omega) (fun h => by simp [Value.ownBlock] at h)))
                have ZL : Hid ((bytesC a).length ≤ 100000) := hid (bytesC_len HRA.out (by have := HLE.out; omega))
                clear CP PN K4 p5 t5 HF
                go_wp2_with fail
                refine (pen_bytes P vP _ w5 HFP.out (by have := ZL.out; omega)).mono ?_
                rintro r w6 ⟨rb, rfl, ow, k6⟩
                have BY : Hid (BySl Nb w6 rb (bytesC a)) := hid (BySl.ofOwn ow HFP.out.bytes (fun _ _ _ h => h))
                obtain ⟨yr, dr, rfl⟩ := own_shape ow
                have HFA := hid (HFA.out.kept k6)
                have HFK := hid (HFK.out.trans k6 (fun _ _ h => h))
                clear ow k6 HFP
                go_wp2_with fail
                refine (read_any _ _ w6 BY.out (by have := ZL.out; omega)).mono ?_
                rintro r w7 ⟨Be, hBe, rfl, he, k7⟩
                have HEY := hid he
                have HBE : Hid (w.heap.size ≤ Be ∧ Be < w7.heap.size) := hid ⟨by have := HFK.out.size; omega, he.lt⟩
                have HFA := hid (HFA.out.kept k7)
                have HFK := hid (HFK.out.trans k7 (fun _ _ h => h))
                clear he k7 hBe BY
                go_wp2_with fail
                have C := text_any _ a w7 HFA.out (by have := HLE.out; omega) (HT.out.kept HFK.out)
                refine C.mono ?_
                rintro r w8 ⟨rfl, k8⟩
                have HEY := hid (HEY.out.kept k8 (fun _ _ h => h))
                have HFA := hid (HFA.out.kept k8)
                have HFK := hid (HFK.out.trans k8 (fun _ _ h => h))
                have HBE : Hid (w.heap.size ≤ Be ∧ Be < w8.heap.size) := hid ⟨HBE.out.1, by have := HBE.out.2; have := k8.size; omega⟩
                clear C k8
                go_wp2_with fail
                have C := parse_any a w8 HRA.out (by have := HLE.out; omega) (HM.out.kept HFK.out) (HT.out.kept HFK.out)
                refine C.mono ?_
                rintro r w9 ⟨vt, rfl, h9, ho9, k9⟩
                have HO9 : Hid (∀ g, vt.ownBlock = some g → g ≠ Be) := hid (fun g hg => by have := (ho9 g hg).1; have := HBE.out.2; omega)
                obtain ⟨y9, d9, e9⟩ := h9.shape
                subst e9
                have H9 := hid h9
                have HEY := hid (HEY.out.kept k9 (fun _ _ h => h))
                have HFA := hid (HFA.out.kept k9)
                have HFK := hid (HFK.out.trans k9 (fun _ _ h => h))
                have HBE : Hid (w.heap.size ≤ Be ∧ Be < w9.heap.size) := hid ⟨HBE.out.1, by have := HBE.out.2; have := k9.size; omega⟩
                clear C k9 h9 ho9
                go_wp2_with fail
                have C := dget_any Be (bytesC a) 0 w9 (S := fun i => i = Be ∨ w9.heap.size ≤ i) (fun i => Iff.rfl) (EyeOn.of HEY.out w9.heap.size (Nat.le_refl _))
                rw [get_back HRA.out (by have := HLE.out; omega)] at C
                dsimp only at C
                refine C.mono ?_
                rintro r w10 ⟨vg, rfl, hg, -, he, k10⟩
                obtain ⟨yg, dg, eg⟩ := hg.shape
                subst eg
                have HEY : Hid (EyeAt w10 Be [] 0) := hid (EyeOn.at he (fun i h => .inl h))
                have HG := hid hg
                have HFA : Hid (ClSl w10 (.slice pa nA da) a) := hid (HFA.out.keptV k10 (fun g hg hs => by have hs : g = Be := hs; have := GA.out g hg; have := HBE.out.1; omega))
                have H9 := hid (H9.out.keptV k10 (fun g hg hs => HO9.out g hg hs))
                have HFK := hid (HFK.out.trans k10 (fun i hi hs => by have hs : i = Be := hs; have := HBE.out.1; omega))
                have HBE := hid HBE.out.1
                clear C k10 hg he
                go_wp2_with fail
                have C := same_any _ _ a a w10 HG.out HFA.out (by have := HLE.out; omega) (by have := HLE.out; omega)
                rw [decide_eq_true rfl] at C
                refine C.mono ?_
                rintro r w11 ⟨rfl, k11⟩
                have HEY := hid (HEY.out.kept k11 (fun _ _ h => h))
                have HFA := hid (HFA.out.kept k11)
                have H9 := hid (H9.out.kept k11)
                have HFK := hid (HFK.out.trans k11 (fun _ _ h => h))
                clear C k11 HG
                go_wp2_with fail
                have C := end_any Be [] 0 w11 HEY.out
                rw [show endE [] 0 = 0 from rfl] at C
                refine C.mono ?_
                rintro r w12 ⟨rfl, -, k12⟩
                have HFA : Hid (ClSl w12 (.slice pa nA da) a) := hid (HFA.out.keptV k12 (fun g hg hs => by have hs : g = Be := hs; have := GA.out g hg; have := HBE.out; omega))
                have H9 := hid (H9.out.keptV k12 (fun g hg hs => HO9.out g hg hs))
                have HFK := hid (HFK.out.trans k12 (fun i hi hs => by have hs : i = Be := hs; have := HBE.out; omega))
                clear C k12 HEY
                go_wp2_with fail
                have C := same_any _ _ a a w12 H9.out HFA.out (by have := HLE.out; omega) (by have := HLE.out; omega)
                rw [decide_eq_true rfl] at C
                refine C.mono ?_
                rintro r w13 ⟨rfl, k13⟩
                have HFK := hid (HFK.out.trans k13 (fun _ _ h => h))
                clear C k13
                go_wp2
                go_ret
                exact ⟨rfl, HFK.out⟩
          | true =>
            go_wp2_with fail
            have C := above_any _ _ c (joinC a b) x22 HF.out.hc Hj.out (by have := HLE.out; omega) (by have := HJL.out; omega)
            rw [above_least HTA.out HTB.out HTC.out HQ1.out HQ2.out] at C
            refine C.mono ?_
            rintro r x37 ⟨rfl, k⟩
            have HF := hid (HF.out.step k)
            have Hj := hid (Hj.out.kept k)
            clear C k
            go_wp2_with fail
            have C := join_any _ _ b a x37 HF.out.hb HF.out.ha (by have := HLE.out; omega) (by have := HLE.out; omega)
            rw [← join_comm HTA.out HTB.out] at C
            refine C.mono ?_
            rintro r x38 ⟨vk, rfl, h, ho, k⟩
            obtain ⟨yk, dk, ek⟩ := h.shape
            subst ek
            have Hk := hid h
            clear h ho
            have HF := hid (HF.out.step k)
            have Hj := hid (Hj.out.kept k)
            clear C k
            go_wp2_with fail
            have C := same_any _ _ (joinC a b) (joinC a b) x38 Hj.out Hk.out (by have := HJL.out; omega) (by have := HJL.out; omega)
            rw [decide_eq_true rfl] at C
            refine C.mono ?_
            rintro r x39 ⟨rfl, k⟩
            have HF := hid (HF.out.step k)
            have Hj := hid (Hj.out.kept k)
            have Hk := hid (Hk.out.kept k)
            clear C k
            clear Hk
            obtain ⟨z, hz⟩ : ∃ z, joinC (joinC a b) c = z := ⟨_, rfl⟩
            have HZL : Hid (z.length ≤ 120) := hid (by rw [← hz]; have := joinC_len (joinC a b) c; have := HJL.out; have := HLE.out; omega)
            have HZE : Hid (joinC a (joinC b c) = z) := hid (by rw [← hz, join_assoc HTA.out HTB.out HTC.out])
            have HZ := hid hz
            clear hz
            go_wp2_with fail
            have C := join_any _ _ (joinC a b) c x39 Hj.out HF.out.hc (by have := HJL.out; omega) (by have := HLE.out; omega)
            rw [HZ.out] at C
            refine C.mono ?_
            rintro r x40 ⟨vl, rfl, h, ho, k⟩
            obtain ⟨yl, dl, el⟩ := h.shape
            subst el
            have Hl := hid h
            clear h ho
            have HF := hid (HF.out.step k)
            have Hj := hid (Hj.out.kept k)
            clear C k
            go_wp2_with fail
            have C := join_any _ _ b c x40 HF.out.hb HF.out.hc (by have := HLE.out; omega) (by have := HLE.out; omega)
            refine C.mono ?_
            rintro r x41 ⟨vm, rfl, h, ho, k⟩
            obtain ⟨ym, dm, em⟩ := h.shape
            subst em
            have Hm := hid h
            clear h ho
            have HF := hid (HF.out.step k)
            have Hj := hid (Hj.out.kept k)
            have Hl := hid (Hl.out.kept k)
            clear C k
            go_wp2_with fail
            have C := join_any _ _ a (joinC b c) x41 HF.out.ha Hm.out (by have := HLE.out; omega) (by have := HJ2L.out; omega)
            rw [HZE.out] at C
            refine C.mono ?_
            rintro r x42 ⟨vn, rfl, h, ho, k⟩
            obtain ⟨yn, dn, en⟩ := h.shape
            subst en
            have Hn := hid h
            clear h ho
            have HF := hid (HF.out.step k)
            have Hj := hid (Hj.out.kept k)
            have Hl := hid (Hl.out.kept k)
            have Hm := hid (Hm.out.kept k)
            clear C k
            go_wp2_with fail
            have C := same_any _ _ z z x42 Hl.out Hn.out (by have := HZL.out; omega) (by have := HZL.out; omega)
            rw [decide_eq_true rfl] at C
            refine C.mono ?_
            rintro r x43 ⟨rfl, k⟩
            have HF := hid (HF.out.step k)
            have Hj := hid (Hj.out.kept k)
            have Hl := hid (Hl.out.kept k)
            have Hm := hid (Hm.out.kept k)
            have Hn := hid (Hn.out.kept k)
            clear C k
            clear Hl Hm Hn HZL HZ HZE
            go_wp2_with fail
            have C := join_any _ _ a a x43 HF.out.ha HF.out.ha (by have := HLE.out; omega) (by have := HLE.out; omega)
            rw [join_self HTA.out] at C
            refine C.mono ?_
            rintro r x44 ⟨vi, rfl, h, ho, k⟩
            obtain ⟨yi, di, ei⟩ := h.shape
            subst ei
            have Hi := hid h
            clear h ho
            have HF := hid (HF.out.step k)
            have Hj := hid (Hj.out.kept k)
            clear C k
            go_wp2_with fail
            have C := same_any _ _ a a x44 Hi.out HF.out.ha (by have := HLE.out; omega) (by have := HLE.out; omega)
            rw [decide_eq_true rfl] at C
            refine C.mono ?_
            rintro r x45 ⟨rfl, k⟩
            have HF := hid (HF.out.step k)
            have Hj := hid (Hj.out.kept k)
            have Hi := hid (Hi.out.kept k)
            clear C k
            clear Hi
            obtain ⟨q3, hq3⟩ : ∃ x, aboveC a b = x := ⟨_, rfl⟩
            obtain ⟨q4, hq4⟩ : ∃ x, aboveC b a = x := ⟨_, rfl⟩
            have HQ3 := hid hq3
            have HQ4 := hid hq4
            clear hq3 hq4
            go_wp2_with fail
            have C := above_any _ _ a b x45 HF.out.ha HF.out.hb (by have := HLE.out; omega) (by have := HLE.out; omega)
            rw [HQ3.out] at C
            refine C.mono ?_
            rintro r x46 ⟨rfl, k⟩
            have HF := hid (HF.out.step k)
            have Hj := hid (Hj.out.kept k)
            clear C k
            cases q3 with
            | false =>
              clear Hj HJL HJ2L HJRT
              obtain ⟨P, hP⟩ : ∃ P, x46.heap.size = P := ⟨_, rfl⟩
              obtain ⟨W4, hW4⟩ : ∃ W, W = x46.alloc (.cells #[.slice none 0 0] 42) := ⟨_, rfl⟩
              have PN : Hid (PenAt W4 P (.slice none 0 0) []) := hid (by rw [hW4, ← hP]; exact pen_new x46)
              have K4 : Hid (Kp Nb x46 W4) := hid (by rw [hW4]; exact (Kp.refl Nb x46).alloc _)
              have HP3 : Hid (w.heap.size ≤ P) := hid (by have := HF.out.k.size; omega)
              have HF := hid (HF.out.step K4.out)
              have CP := dput_any P _ a W4 HF.out.ha PN.out (fun g hg => by have := GA.out g hg; have := HP3.out; omega) (by have := HLE.out; omega)
              have ZP : putB a = true := by unfold putB; rw [HRA.out, Bool.true_and]; exact decide_eq_true (by have := HLE.out; omega)
              rw [ZP, if_pos rfl] at CP
              have CP := hid CP
              clear ZP
              go_upto_region 9 with fail
              rw [← hW4]
              try simp only [hP]
              clear hW4 hP
              go_wp2_with fail
              refine CP.out.mono ?_
              rintro r w5 ⟨rfl, vP, p5, t5⟩
              have HFA : Hid (ClSl w5 (.slice pa nA da) a) := hid (pen_sepC t5 HF.out.ha (fun g hg => by have := GA.out g hg; have := HP3.out; omega))
              have HFP := hid p5
              have HFK : Hid (Kp Nb w w5) := hid (HF.out.k.trans t5.kp (fun i hi h => h.elim (fun h => by have := HP3.out; omega) (fun h => by simp [Value.ownBlock] at h)))
              have ZL : Hid ((bytesC a).length ≤ 100000) := hid (bytesC_len HRA.out (by have := HLE.out; omega))
              clear CP PN K4 p5 t5 HF
              go_wp2_with fail
              refine (pen_bytes P vP _ w5 HFP.out (by have := ZL.out; omega)).mono ?_
              rintro r w6 ⟨rb, rfl, ow, k6⟩
              have BY : Hid (BySl Nb w6 rb (bytesC a)) := hid (BySl.ofOwn ow HFP.out.bytes (fun _ _ _ h => h))
              obtain ⟨yr, dr, rfl⟩ := own_shape ow
              have HFA := hid (HFA.out.kept k6)
              have HFK := hid (HFK.out.trans k6 (fun _ _ h => h))
              clear ow k6 HFP
              go_wp2_with fail
              refine (read_any _ _ w6 BY.out (by have := ZL.out; omega)).mono ?_
              rintro r w7 ⟨Be, hBe, rfl, he, k7⟩
              have HEY := hid he
              have HBE : Hid (w.heap.size ≤ Be ∧ Be < w7.heap.size) := hid ⟨by have := HFK.out.size; omega, he.lt⟩
              have HFA := hid (HFA.out.kept k7)
              have HFK := hid (HFK.out.trans k7 (fun _ _ h => h))
              clear he k7 hBe BY
              go_wp2_with fail
              have C := text_any _ a w7 HFA.out (by have := HLE.out; omega) (HT.out.kept HFK.out)
              refine C.mono ?_
              rintro r w8 ⟨rfl, k8⟩
              have HEY := hid (HEY.out.kept k8 (fun _ _ h => h))
              have HFA := hid (HFA.out.kept k8)
              have HFK := hid (HFK.out.trans k8 (fun _ _ h => h))
              have HBE : Hid (w.heap.size ≤ Be ∧ Be < w8.heap.size) := hid ⟨HBE.out.1, by have := HBE.out.2; have := k8.size; omega⟩
              clear C k8
              go_wp2_with fail
              have C := parse_any a w8 HRA.out (by have := HLE.out; omega) (HM.out.kept HFK.out) (HT.out.kept HFK.out)
              refine C.mono ?_
              rintro r w9 ⟨vt, rfl, h9, ho9, k9⟩
              have HO9 : Hid (∀ g, vt.ownBlock = some g → g ≠ Be) := hid (fun g hg => by have := (ho9 g hg).1; have := HBE.out.2; omega)
              obtain ⟨y9, d9, e9⟩ := h9.shape
              subst e9
              have H9 := hid h9
              have HEY := hid (HEY.out.kept k9 (fun _ _ h => h))
              have HFA := hid (HFA.out.kept k9)
              have HFK := hid (HFK.out.trans k9 (fun _ _ h => h))
              have HBE : Hid (w.heap.size ≤ Be ∧ Be < w9.heap.size) := hid ⟨HBE.out.1, by have := HBE.out.2; have := k9.size; omega⟩
              clear C k9 h9 ho9
              go_wp2_with fail
              have C := dget_any Be (bytesC a) 0 w9 (S := fun i => i = Be ∨ w9.heap.size ≤ i) (fun i => Iff.rfl) (EyeOn.of HEY.out w9.heap.size (Nat.le_refl _))
              rw [get_back HRA.out (by have := HLE.out; omega)] at C
              dsimp only at C
              refine C.mono ?_
              rintro r w10 ⟨vg, rfl, hg, -, he, k10⟩
              obtain ⟨yg, dg, eg⟩ := hg.shape
              subst eg
              have HEY : Hid (EyeAt w10 Be [] 0) := hid (EyeOn.at he (fun i h => .inl h))
              have HG := hid hg
              have HFA : Hid (ClSl w10 (.slice pa nA da) a) := hid (HFA.out.keptV k10 (fun g hg hs => by have hs : g = Be := hs; have := GA.out g hg; have := HBE.out.1; omega))
              have H9 := hid (H9.out.keptV k10 (fun g hg hs => HO9.out g hg hs))
              have HFK := hid (HFK.out.trans k10 (fun i hi hs => by have hs : i = Be := hs; have := HBE.out.1; omega))
              have HBE := hid HBE.out.1
              clear C k10 hg he
              go_wp2_with fail
              have C := same_any _ _ a a w10 HG.out HFA.out (by have := HLE.out; omega) (by have := HLE.out; omega)
              rw [decide_eq_true rfl] at C
              refine C.mono ?_
              rintro r w11 ⟨rfl, k11⟩
              have HEY := hid (HEY.out.kept k11 (fun _ _ h => h))
              have HFA := hid (HFA.out.kept k11)
              have H9 := hid (H9.out.kept k11)
              have HFK := hid (HFK.out.trans k11 (fun _ _ h => h))
              clear C k11 HG
              go_wp2_with fail
              have C := end_any Be [] 0 w11 HEY.out
              rw [show endE [] 0 = 0 from rfl] at C
              refine C.mono ?_
              rintro r w12 ⟨rfl, -, k12⟩
              have HFA : Hid (ClSl w12 (.slice pa nA da) a) := hid (HFA.out.keptV k12 (fun g hg hs => by have hs : g = Be := hs; have := GA.out g hg; have := HBE.out; omega))
              have H9 := hid (H9.out.keptV k12 (fun g hg hs => HO9.out g hg hs))
              have HFK := hid (HFK.out.trans k12 (fun i hi hs => by have hs : i = Be := hs; have := HBE.out; omega))
              clear C k12 HEY
              go_wp2_with fail
              have C := same_any _ _ a a w12 H9.out HFA.out (by have := HLE.out; omega) (by have := HLE.out; omega)
              rw [decide_eq_true rfl] at C
              refine C.mono ?_
              rintro r w13 ⟨rfl, k13⟩
              have HFK := hid (HFK.out.trans k13 (fun _ _ h => h))
              clear C k13
              go_wp2
              go_ret
              exact ⟨rfl, HFK.out⟩
            | true =>
              go_wp2_with fail
              have C := above_any _ _ b a x46 HF.out.hb HF.out.ha (by have := HLE.out; omega) (by have := HLE.out; omega)
              rw [HQ4.out] at C
              refine C.mono ?_
              rintro r x48 ⟨rfl, k⟩
              have HF := hid (HF.out.step k)
              have Hj := hid (Hj.out.kept k)
              clear C k
              cases q4 with
              | false =>
                clear Hj HJL HJ2L HJRT
                obtain ⟨P, hP⟩ : ∃ P, x48.heap.size = P := ⟨_, rfl⟩
                obtain ⟨W4, hW4⟩ : ∃ W, W = x48.alloc (.cells #[.slice none 0 0] 42) := ⟨_, rfl⟩
                have PN : Hid (PenAt W4 P (.slice none 0 0) []) := hid (by rw [hW4, ← hP]; exact pen_new x48)
                have K4 : Hid (Kp Nb x48 W4) := hid (by rw [hW4]; exact (Kp.refl Nb x48).alloc _)
                have HP3 : Hid (w.heap.size ≤ P) := hid (by have := HF.out.k.size; omega)
                have HF := hid (HF.out.step K4.out)
                have CP := dput_any P _ a W4 HF.out.ha PN.out (fun g hg => by have := GA.out g hg; have := HP3.out; omega) (by have := HLE.out; omega)
                have ZP : putB a = true := by unfold putB; rw [HRA.out, Bool.true_and]; exact decide_eq_true (by have := HLE.out; omega)
                rw [ZP, if_pos rfl] at CP
                have CP := hid CP
                clear ZP
                go_upto_region 9 with fail
                rw [← hW4]
                try simp only [hP]
                clear hW4 hP
                go_wp2_with fail
                refine CP.out.mono ?_
                rintro r w5 ⟨rfl, vP, p5, t5⟩
                have HFA : Hid (ClSl w5 (.slice pa nA da) a) := hid (pen_sepC t5 HF.out.ha (fun g hg => by have := GA.out g hg; have := HP3.out; omega))
                have HFP := hid p5
                have HFK : Hid (Kp Nb w w5) := hid (HF.out.k.trans t5.kp (fun i hi h => h.elim (fun h => by have := HP3.out; omega) (fun h => by simp [Value.ownBlock] at h)))
                have ZL : Hid ((bytesC a).length ≤ 100000) := hid (bytesC_len HRA.out (by have := HLE.out; omega))
                clear CP PN K4 p5 t5 HF
                go_wp2_with fail
                refine (pen_bytes P vP _ w5 HFP.out (by have := ZL.out; omega)).mono ?_
                rintro r w6 ⟨rb, rfl, ow, k6⟩
                have BY : Hid (BySl Nb w6 rb (bytesC a)) := hid (BySl.ofOwn ow HFP.out.bytes (fun _ _ _ h => h))
                obtain ⟨yr, dr, rfl⟩ := own_shape ow
                have HFA := hid (HFA.out.kept k6)
                have HFK := hid (HFK.out.trans k6 (fun _ _ h => h))
                clear ow k6 HFP
                go_wp2_with fail
                refine (read_any _ _ w6 BY.out (by have := ZL.out; omega)).mono ?_
                rintro r w7 ⟨Be, hBe, rfl, he, k7⟩
                have HEY := hid he
                have HBE : Hid (w.heap.size ≤ Be ∧ Be < w7.heap.size) := hid ⟨by have := HFK.out.size; omega, he.lt⟩
                have HFA := hid (HFA.out.kept k7)
                have HFK := hid (HFK.out.trans k7 (fun _ _ h => h))
                clear he k7 hBe BY
                go_wp2_with fail
                have C := text_any _ a w7 HFA.out (by have := HLE.out; omega) (HT.out.kept HFK.out)
                refine C.mono ?_
                rintro r w8 ⟨rfl, k8⟩
                have HEY := hid (HEY.out.kept k8 (fun _ _ h => h))
                have HFA := hid (HFA.out.kept k8)
                have HFK := hid (HFK.out.trans k8 (fun _ _ h => h))
                have HBE : Hid (w.heap.size ≤ Be ∧ Be < w8.heap.size) := hid ⟨HBE.out.1, by have := HBE.out.2; have := k8.size; omega⟩
                clear C k8
                go_wp2_with fail
                have C := parse_any a w8 HRA.out (by have := HLE.out; omega) (HM.out.kept HFK.out) (HT.out.kept HFK.out)
                refine C.mono ?_
                rintro r w9 ⟨vt, rfl, h9, ho9, k9⟩
                have HO9 : Hid (∀ g, vt.ownBlock = some g → g ≠ Be) := hid (fun g hg => by have := (ho9 g hg).1; have := HBE.out.2; omega)
                obtain ⟨y9, d9, e9⟩ := h9.shape
                subst e9
                have H9 := hid h9
                have HEY := hid (HEY.out.kept k9 (fun _ _ h => h))
                have HFA := hid (HFA.out.kept k9)
                have HFK := hid (HFK.out.trans k9 (fun _ _ h => h))
                have HBE : Hid (w.heap.size ≤ Be ∧ Be < w9.heap.size) := hid ⟨HBE.out.1, by have := HBE.out.2; have := k9.size; omega⟩
                clear C k9 h9 ho9
                go_wp2_with fail
                have C := dget_any Be (bytesC a) 0 w9 (S := fun i => i = Be ∨ w9.heap.size ≤ i) (fun i => Iff.rfl) (EyeOn.of HEY.out w9.heap.size (Nat.le_refl _))
                rw [get_back HRA.out (by have := HLE.out; omega)] at C
                dsimp only at C
                refine C.mono ?_
                rintro r w10 ⟨vg, rfl, hg, -, he, k10⟩
                obtain ⟨yg, dg, eg⟩ := hg.shape
                subst eg
                have HEY : Hid (EyeAt w10 Be [] 0) := hid (EyeOn.at he (fun i h => .inl h))
                have HG := hid hg
                have HFA : Hid (ClSl w10 (.slice pa nA da) a) := hid (HFA.out.keptV k10 (fun g hg hs => by have hs : g = Be := hs; have := GA.out g hg; have := HBE.out.1; omega))
                have H9 := hid (H9.out.keptV k10 (fun g hg hs => HO9.out g hg hs))
                have HFK := hid (HFK.out.trans k10 (fun i hi hs => by have hs : i = Be := hs; have := HBE.out.1; omega))
                have HBE := hid HBE.out.1
                clear C k10 hg he
                go_wp2_with fail
                have C := same_any _ _ a a w10 HG.out HFA.out (by have := HLE.out; omega) (by have := HLE.out; omega)
                rw [decide_eq_true rfl] at C
                refine C.mono ?_
                rintro r w11 ⟨rfl, k11⟩
                have HEY := hid (HEY.out.kept k11 (fun _ _ h => h))
                have HFA := hid (HFA.out.kept k11)
                have H9 := hid (H9.out.kept k11)
                have HFK := hid (HFK.out.trans k11 (fun _ _ h => h))
                clear C k11 HG
                go_wp2_with fail
                have C := end_any Be [] 0 w11 HEY.out
                rw [show endE [] 0 = 0 from rfl] at C
                refine C.mono ?_
                rintro r w12 ⟨rfl, -, k12⟩
                have HFA : Hid (ClSl w12 (.slice pa nA da) a) := hid (HFA.out.keptV k12 (fun g hg hs => by have hs : g = Be := hs; have := GA.out g hg; have := HBE.out; omega))
                have H9 := hid (H9.out.keptV k12 (fun g hg hs => HO9.out g hg hs))
                have HFK := hid (HFK.out.trans k12 (fun i hi hs => by have hs : i = Be := hs; have := HBE.out; omega))
                clear C k12 HEY
                go_wp2_with fail
                have C := same_any _ _ a a w12 H9.out HFA.out (by have := HLE.out; omega) (by have := HLE.out; omega)
                rw [decide_eq_true rfl] at C
                refine C.mono ?_
                rintro r w13 ⟨rfl, k13⟩
                have HFK := hid (HFK.out.trans k13 (fun _ _ h => h))
                clear C k13
                go_wp2
                go_ret
                exact ⟨rfl, HFK.out⟩
              | true =>
                have HSM : Hid (decide (a = b) = true) := hid (decide_eq_true (above_same HTA.out HTB.out HQ3.out HQ4.out))
                go_wp2_with fail
                have C := same_any _ _ a b x48 HF.out.ha HF.out.hb (by have := HLE.out; omega) (by have := HLE.out; omega)
                rw [HSM.out] at C
                refine C.mono ?_
                rintro r x50 ⟨rfl, k⟩
                have HF := hid (HF.out.step k)
                have Hj := hid (Hj.out.kept k)
                clear C k
                clear Hj HJL HJ2L HJRT
                obtain ⟨P, hP⟩ : ∃ P, x50.heap.size = P := ⟨_, rfl⟩
                obtain ⟨W4, hW4⟩ : ∃ W, W = x50.alloc (.cells #[.slice none 0 0] 42) := ⟨_, rfl⟩
                have PN : Hid (PenAt W4 P (.slice none 0 0) []) := hid (by rw [hW4, ← hP]; exact pen_new x50)
                have K4 : Hid (Kp Nb x50 W4) := hid (by rw [hW4]; exact (Kp.refl Nb x50).alloc _)
                have HP3 : Hid (w.heap.size ≤ P) := hid (by have := HF.out.k.size; omega)
                have HF := hid (HF.out.step K4.out)
                have CP := dput_any P _ a W4 HF.out.ha PN.out (fun g hg => by have := GA.out g hg; have := HP3.out; omega) (by have := HLE.out; omega)
                have ZP : putB a = true := by unfold putB; rw [HRA.out, Bool.true_and]; exact decide_eq_true (by have := HLE.out; omega)
                rw [ZP, if_pos rfl] at CP
                have CP := hid CP
                clear ZP
                go_upto_region 9 with fail
                rw [← hW4]
                try simp only [hP]
                clear hW4 hP
                go_wp2_with fail
                refine CP.out.mono ?_
                rintro r w5 ⟨rfl, vP, p5, t5⟩
                have HFA : Hid (ClSl w5 (.slice pa nA da) a) := hid (pen_sepC t5 HF.out.ha (fun g hg => by have := GA.out g hg; have := HP3.out; omega))
                have HFP := hid p5
                have HFK : Hid (Kp Nb w w5) := hid (HF.out.k.trans t5.kp (fun i hi h => h.elim (fun h => by have := HP3.out; omega) (fun h => by simp [Value.ownBlock] at h)))
                have ZL : Hid ((bytesC a).length ≤ 100000) := hid (bytesC_len HRA.out (by have := HLE.out; omega))
                clear CP PN K4 p5 t5 HF
                go_wp2_with fail
                refine (pen_bytes P vP _ w5 HFP.out (by have := ZL.out; omega)).mono ?_
                rintro r w6 ⟨rb, rfl, ow, k6⟩
                have BY : Hid (BySl Nb w6 rb (bytesC a)) := hid (BySl.ofOwn ow HFP.out.bytes (fun _ _ _ h => h))
                obtain ⟨yr, dr, rfl⟩ := own_shape ow
                have HFA := hid (HFA.out.kept k6)
                have HFK := hid (HFK.out.trans k6 (fun _ _ h => h))
                clear ow k6 HFP
                go_wp2_with fail
                refine (read_any _ _ w6 BY.out (by have := ZL.out; omega)).mono ?_
                rintro r w7 ⟨Be, hBe, rfl, he, k7⟩
                have HEY := hid he
                have HBE : Hid (w.heap.size ≤ Be ∧ Be < w7.heap.size) := hid ⟨by have := HFK.out.size; omega, he.lt⟩
                have HFA := hid (HFA.out.kept k7)
                have HFK := hid (HFK.out.trans k7 (fun _ _ h => h))
                clear he k7 hBe BY
                go_wp2_with fail
                have C := text_any _ a w7 HFA.out (by have := HLE.out; omega) (HT.out.kept HFK.out)
                refine C.mono ?_
                rintro r w8 ⟨rfl, k8⟩
                have HEY := hid (HEY.out.kept k8 (fun _ _ h => h))
                have HFA := hid (HFA.out.kept k8)
                have HFK := hid (HFK.out.trans k8 (fun _ _ h => h))
                have HBE : Hid (w.heap.size ≤ Be ∧ Be < w8.heap.size) := hid ⟨HBE.out.1, by have := HBE.out.2; have := k8.size; omega⟩
                clear C k8
                go_wp2_with fail
                have C := parse_any a w8 HRA.out (by have := HLE.out; omega) (HM.out.kept HFK.out) (HT.out.kept HFK.out)
                refine C.mono ?_
                rintro r w9 ⟨vt, rfl, h9, ho9, k9⟩
                have HO9 : Hid (∀ g, vt.ownBlock = some g → g ≠ Be) := hid (fun g hg => by have := (ho9 g hg).1; have := HBE.out.2; omega)
                obtain ⟨y9, d9, e9⟩ := h9.shape
                subst e9
                have H9 := hid h9
                have HEY := hid (HEY.out.kept k9 (fun _ _ h => h))
                have HFA := hid (HFA.out.kept k9)
                have HFK := hid (HFK.out.trans k9 (fun _ _ h => h))
                have HBE : Hid (w.heap.size ≤ Be ∧ Be < w9.heap.size) := hid ⟨HBE.out.1, by have := HBE.out.2; have := k9.size; omega⟩
                clear C k9 h9 ho9
                go_wp2_with fail
                have C := dget_any Be (bytesC a) 0 w9 (S := fun i => i = Be ∨ w9.heap.size ≤ i) (fun i => Iff.rfl) (EyeOn.of HEY.out w9.heap.size (Nat.le_refl _))
                rw [get_back HRA.out (by have := HLE.out; omega)] at C
                dsimp only at C
                refine C.mono ?_
                rintro r w10 ⟨vg, rfl, hg, -, he, k10⟩
                obtain ⟨yg, dg, eg⟩ := hg.shape
                subst eg
                have HEY : Hid (EyeAt w10 Be [] 0) := hid (EyeOn.at he (fun i h => .inl h))
                have HG := hid hg
                have HFA : Hid (ClSl w10 (.slice pa nA da) a) := hid (HFA.out.keptV k10 (fun g hg hs => by have hs : g = Be := hs; have := GA.out g hg; have := HBE.out.1; omega))
                have H9 := hid (H9.out.keptV k10 (fun g hg hs => HO9.out g hg hs))
                have HFK := hid (HFK.out.trans k10 (fun i hi hs => by have hs : i = Be := hs; have := HBE.out.1; omega))
                have HBE := hid HBE.out.1
                clear C k10 hg he
                go_wp2_with fail
                have C := same_any _ _ a a w10 HG.out HFA.out (by have := HLE.out; omega) (by have := HLE.out; omega)
                rw [decide_eq_true rfl] at C
                refine C.mono ?_
                rintro r w11 ⟨rfl, k11⟩
                have HEY := hid (HEY.out.kept k11 (fun _ _ h => h))
                have HFA := hid (HFA.out.kept k11)
                have H9 := hid (H9.out.kept k11)
                have HFK := hid (HFK.out.trans k11 (fun _ _ h => h))
                clear C k11 HG
                go_wp2_with fail
                have C := end_any Be [] 0 w11 HEY.out
                rw [show endE [] 0 = 0 from rfl] at C
                refine C.mono ?_
                rintro r w12 ⟨rfl, -, k12⟩
                have HFA : Hid (ClSl w12 (.slice pa nA da) a) := hid (HFA.out.keptV k12 (fun g hg hs => by have hs : g = Be := hs; have := GA.out g hg; have := HBE.out; omega))
                have H9 := hid (H9.out.keptV k12 (fun g hg hs => HO9.out g hg hs))
                have HFK := hid (HFK.out.trans k12 (fun i hi hs => by have hs : i = Be := hs; have := HBE.out; omega))
                clear C k12 HEY
                go_wp2_with fail
                have C := same_any _ _ a a w12 H9.out HFA.out (by have := HLE.out; omega) (by have := HLE.out; omega)
                rw [decide_eq_true rfl] at C
                refine C.mono ?_
                rintro r w13 ⟨rfl, k13⟩
                have HFK := hid (HFK.out.trans k13 (fun _ _ h => h))
                clear C k13
                go_wp2
                go_ret
                exact ⟨rfl, HFK.out⟩

end Go.Proofs.YtbbfibgijackhaaDoor

namespace Go.Proofs.YtbbfibgijackhaaDoor
open Go.ChangeShapes Go.WideShapes Go.ChangeAt Go.RowKit

theorem cells_int : Tryd.prog.cellsOf 3 = 1 := by kernel_rfl
theorem cells_run : Tryd.prog.cellsOf 33 = 3 := by kernel_rfl
theorem cells_clock : Tryd.prog.cellsOf 23 = 1 := by kernel_rfl
theorem wf_i64 {z : Int} (h : (Lit.int .i64 z).wf = true) : I64 z := by
  simp [Lit.wf] at h
  have hmin : IntKind.i64.min = -9223372036854775808 := by decide
  rw [hmin] at h
  have := h.2
  exact ⟨h.1, by omega⟩
theorem one_at {cs : List Value} {n : Nat} (i : Nat) (hl : cs.length = n) (hi : i < n) : ∃ y, cs[i]? = some y ∧ (cs.drop i).take 1 = [y] := by
  have hi' : i < cs.length := by omega
  exact ⟨cs[i], List.getElem?_eq_getElem hi', by rw [List.drop_eq_getElem_cons hi', List.take_succ_cons, List.take_zero]⟩
theorem three_at {cs : List Value} {a b c : Value} (hl : cs.length = 3) (h0 : cs[0]? = some a) (h1 : cs[1]? = some b) (h2 : cs[2]? = some c) : cs = [a, b, c] := by
  match cs, hl with
  | [x, y, z], _ =>
    have ea : x = a := by simpa using h0
    have eb : y = b := by simpa using h1
    have ec : z = c := by simpa using h2
    rw [ea, eb, ec]
section
variable {H : Type} {enc : TypeId × Value → H} {W : World}
theorem open_runcs {fuel : Nat} {cs : List Value} {x : DataW H × List MemPlace} (h : DataW.trod enc Tryd.prog W 0 (fun _ => true) true fuel 33 cs = some x) : ∃ q : RunQ, RunOk q ∧ cs = runL q := by
  obtain ⟨xs, k, _, _, hl, hxl, hfs⟩ := DataW.trod_struct Tryd.underlying33 h
  rw [cells_run] at hl
  match xs, hxl with
  | [y0, y1, y2], _ =>
    have g0 : DataW.trod enc Tryd.prog W 0 (fun _ => true) true k 3 ((cs.drop 0).take (Tryd.prog.cellsOf 3)) = some y0 := hfs 0 _ rfl
    have g1 : DataW.trod enc Tryd.prog W 0 (fun _ => true) true k 3 ((cs.drop 1).take (Tryd.prog.cellsOf 3)) = some y1 := hfs 1 _ rfl
    have g2 : DataW.trod enc Tryd.prog W 0 (fun _ => true) true k 3 ((cs.drop 2).take (Tryd.prog.cellsOf 3)) = some y2 := hfs 2 _ rfl
    rw [cells_int] at g0 g1 g2
    obtain ⟨c0, h0, e0⟩ := one_at 0 hl (by omega)
    obtain ⟨c1, h1, e1⟩ := one_at 1 hl (by omega)
    obtain ⟨c2, h2, e2⟩ := one_at 2 hl (by omega)
    rw [e0] at g0
    rw [e1] at g1
    rw [e2] at g2
    obtain ⟨z0, hz0, _, hw0⟩ := DataW.trod_int Tryd.underlying3 g0
    obtain ⟨z1, hz1, _, hw1⟩ := DataW.trod_int Tryd.underlying3 g1
    obtain ⟨z2, hz2, _, hw2⟩ := DataW.trod_int Tryd.underlying3 g2
    simp only [List.cons.injEq, and_true] at hz0 hz1 hz2
    subst hz0 hz1 hz2
    exact ⟨(z0, z1, z2), ⟨wf_i64 hw0, wf_i64 hw1, wf_i64 hw2⟩, three_at hl h0 h1 h2⟩
theorem cl_rows {v : Value} {c : List RunQ} (ho : ∀ q ∈ c, RunOk q) (h : RowsSl runL (0, 0, 0) 3 W v c) : ClSl W v c := ⟨runAt_ok ho, h⟩
set_option maxRecDepth 100000 in
theorem open_clockv {base : Nat} {v : Value} {d : DataW H} {p : List MemPlace} (hv : Value.okWide Tryd.prog W .any base 23 v)
    (h : DataW.Trod enc Tryd.prog W 0 (fun _ => true) true 23 v d p) : ∃ c, ClSl W v c := by
  obtain ⟨fu, hf⟩ := h
  obtain ⟨y0, len0, cap0, rfl⟩ := okWide_slice Tryd.underlying23 hv
  obtain ⟨c, ho, hS⟩ := open_rows runL (0, 0, 0) RunOk 3 cells_run (by decide) (fun _ _ _ h => open_runcs h) Tryd.underlying23 hf
  exact ⟨c, cl_rows ho hS⟩
set_option maxRecDepth 100000 in
theorem clock_in {base : Nat} {v : Value} (hv : Value.okWide Tryd.prog W .any base 23 v) : ∀ g, v.ownBlock = some g → g < W.heap.size := by
  obtain ⟨y0, len0, cap0, rfl⟩ := okWide_slice Tryd.underlying23 hv
  intro g hg
  cases y0 with
  | none => simp [Value.ownBlock] at hg
  | some a =>
    have e : a.block = g := by simpa [Value.ownBlock] using hg
    subst e
    simp only [Value.okWide, Tryd.underlying23, Cell.okWide, Cell.ok] at hv
    obtain ⟨_, _, row, cells, hs, _⟩ := hv.2.2
    rcases Nat.lt_or_ge a.block W.heap.size with h | h
    · exact h
    · exfalso
      have : W.heap[a.block]? = none := Array.getElem?_eq_none h
      simp [World.shape?, this] at hs
end

/-- What the rows list. -/
abbrev dtLaid : List (String × DataW Unit) := [("math/bits.deBruijn32tab", Rows.laid_math_bits_deBruijn32tab), ("math/bits.deBruijn64tab", Rows.laid_math_bits_deBruijn64tab), ("internal/strconv.uint64pow10", Rows.laid_internal_strconv_uint64pow10), ("unicode/utf8.acceptRanges", Rows.laid_unicode_utf8_acceptRanges), ("strconv.ErrRange", Rows.laid_strconv_ErrRange), ("strconv.ErrSyntax", Rows.laid_strconv_ErrSyntax), ("unicode/utf8.first", Rows.laid_unicode_utf8_first)]
theorem pow10_data : (Rows.laid_internal_strconv_uint64pow10 : DataW Unit) = Lib.tabData .u64 Lib.pow10Tab := by
  unfold Rows.laid_internal_strconv_uint64pow10 Lib.tabData
  rfl
theorem gPow : ∃ g, Tryd.prog.globalNamed "internal/strconv.uint64pow10" = some g ∧ (Tryd.prog.globals[g]?).map (·.type) = some 144 := ⟨_, rfl, by kernel_rfl⟩
theorem cells_pow : Tryd.prog.cellsOf 144 = 20 := by kernel_rfl
theorem cells_u64 : Tryd.prog.cellsOf 69 = 1 := by kernel_rfl
set_option maxRecDepth 100000 in
theorem tab_of_laid {W : World} (h : laidMetH Tryd.prog dtLaid W) : Tab W := by
  rw [MakeChecks.laidMetH_plain _ _ _ (by kernel_rfl)] at h
  obtain ⟨ps, ⟨g0, t0, cs0, f0, p0, q0, hg0, ht0, hv0, hd0, ⟨g1, t1, cs1, f1, p1, q1, hg1, ht1, hv1, hd1, ⟨g2, t2, cs2, f2, p2, q2, hg2, ht2, hv2, hd2, _, _⟩, _⟩, _⟩, _, _⟩ := h
  obtain ⟨g, hg, ht⟩ := gPow
  obtain rfl := Option.some.inj (hg.symm.trans hg2)
  obtain rfl := Option.some.inj (ht.symm.trans ht2)
  rw [pow10_data] at hd2
  have e := Lib.cells_of_tab Tryd.underlying144 Tryd.underlying69 cells_u64 cells_pow hd2
  unfold Tab Lib.TabIs
  rw [hv2, ← e]
theorem mx_of_shape {W : World} (h : W.ShapedOpen Tryd.prog) : Mx W := Tryd.laysM143.s1_3 W h
/-- The start's own heap meets the condition. -/
theorem laid_met (os : Os) (args : Array Value) : laidMetH Tryd.prog dtLaid ((World.laidAll Tryd.prog os dtLaid).forCall (fun _ _ => 0) ⟨#[], args, []⟩).memory := by
  rw [MakeChecks.laidMetH_plain _ _ _ (by kernel_rfl)]
  exact laidMet_laidAll _ (by kernel_rfl) (by kernel_rfl)
/-- A row's claim out of a contract that is handed the listed tables and the world's shape. -/
theorem handed_dt {H : Type} {enc : TypeId × Value → H} {C : Checked} {l : List (String × DataW Unit)} {os : Os} {f : FuncId} {fn : Func} {s : ChangeSpec} (own : ownKnob C.prog.godebug = none) (started : os.Started) (noInit : C.prog.inits.idxOf? f = none) (hfn : C.prog.funcs[f]? = some fn)
    (witness : ∃ (w : World) (tape : Tape) (i : Input), w.os = os ∧ (w.forCall tape i).Shaped C.prog ∧ i.vars = [] ∧ Input.okWide C.prog (w.forCall tape i) .any w.heap.size f i ∧
      ((s.pre enc C.prog fn [] false (w.forCall tape i).memory i.args ∧ laidMetH C.prog l (w.forCall tape i).memory) ∧ sizedMet enc C.prog fn (OpenSpec.ofChange s) false (w.forCall tape i).memory i.args) ∧
        Assume.holds {} C.prog (lone (Frame.enter C.prog f i.args .normal) [] (w.forCall tape i)))
    (contract : ∀ (W : World) (base : Nat) (args : Array Value) (ds gs : List (DataW H)) (before : List MemPlace),
      (∀ (j : Nat) t v, fn.params[j]? = some t → args[j]? = some v → Value.okWide C.prog W .any base t v) →
      DataW.Whole enc C.prog fn.params.toList s.vars false W args.toList ds gs before →
      laidMetH C.prog l W → W.ShapedOpen C.prog →
      Calls C.prog f args W fun e W' => ∃ v, e = .returned v ∧ s.post enc C.prog fn false true false false W args v W') :
    ReturnsInHanded {} C os f .any (fun w args => (s.pre enc C.prog fn [] false w args ∧ laidMetH C.prog l w) ∧ sizedMet enc C.prog fn (OpenSpec.ofChange s) false w args) (s.post enc C.prog fn false true false false) := by
  refine returnsInHanded_of_calls own started noInit witness ?_
  intro w tape i _ hsh _ hok hpre _
  obtain ⟨_, _, _, fn', hfn', _, _, _, _, hval⟩ := hok
  obtain rfl : fn' = fn := Option.some.inj (hfn'.symm.trans hfn)
  obtain ⟨⟨⟨ds, gs, before, hw, _⟩, hl⟩, _⟩ := hpre
  have hw' : DataW.Whole enc C.prog fn'.params.toList s.vars false (w.forCall tape i) i.args.toList ds gs before := DataW.Whole.of_heap (w' := w.forCall tape i) (by rfl) hw
  have hl' : laidMetH C.prog l (w.forCall tape i) := laidMetH.of_heap (w' := w.forCall tape i) (by rfl) hl
  refine (contract (w.forCall tape i) w.heap.size i.args ds gs before hval hw' hl' hsh).mono fun e W' ⟨v, he, hp⟩ => ?_
  subst he
  exact ChangeSpec.post_blind hp

end Go.Proofs.YtbbfibgijackhaaDoor

namespace Go.Proofs.YtbbfibgijackhaaDoor
open Go.ChangeShapes Go.WideShapes Go.ChangeAt Go.RowKit

set_option maxRecDepth 100000 in
theorem dleast_lifted (os : Os) (started : os.Started) (H : Type) (enc : TypeId × Value → H) :
    ReturnsInHanded {} Tryd.checked os 4 .any (fun w args => (Rows.dotLeastSpec.pre enc Tryd.prog Tryd.f4 [] false w args ∧ laidMetH Tryd.prog dtLaid w) ∧ sizedMet enc Tryd.prog Tryd.f4 (OpenSpec.ofChange Rows.dotLeastSpec) false w args)
      (Rows.dotLeastSpec.post enc Tryd.prog Tryd.f4 false true false false) := by
  refine handed_dt (C := Tryd.checked) own started (by kernel_rfl) Tryd.func4
    (ChangeSpec.witness_shaped (enc := enc) (C := Tryd.checked) (os := os) (X := fun w _ => laidMetH Tryd.prog dtLaid w) false (World.laidAll Tryd.prog os dtLaid) #[.slice none 0 0, .slice none 0 0, .slice none 0 0] 8 (World.laidAll_os _ _ _)
      (World.shaped_of_ZipB (by kernel_rfl) (by kernel_rfl)) (by kernel_rfl) (by kernel_rfl) (by kernel_rfl) (laid_met os _)) ?_
  intro W base args ds gs before hval0 hW hL hsh
  have hval : ∀ (j : Nat) t v, Tryd.f4.params[j]? = some t → args[j]? = some v → Value.okWide Tryd.prog W .any base t v := hval0
  have hW' := hW
  obtain ⟨p, q, hA0, hV, rfl, hfz, hnd⟩ := hW
  have hA : DataW.TrodAll enc Tryd.prog W 0 (fun _ => true) true Tryd.f4.params.toList args.toList ds p := hA0
  rw [Tryd.params4] at hA hval
  obtain ⟨v0, vs0, d0, ds0, p0, q0, hargs, rfl, rfl, h0, r0⟩ := trodAll_cons hA
  obtain ⟨v1, vs1, d1, ds1, p1, q1, rfl, rfl, rfl, h1, r1⟩ := trodAll_cons r0
  obtain ⟨v2, vs2, d2, ds2, p2, q2, rfl, rfl, rfl, h2, r2⟩ := trodAll_cons r1
  obtain ⟨rfl, rfl, rfl⟩ := trodAll_nil r2
  obtain rfl : args = #[v0, v1, v2] := by cases args; simp_all
  obtain ⟨rfl, rfl⟩ := trodVars_none hV
  have lt0 : ∀ x ∈ p0, x.block < W.heap.size := by obtain ⟨m, hm⟩ := h0; exact DataW.trod_lt m _ _ _ hm
  have lt1 : ∀ x ∈ p1, x.block < W.heap.size := by obtain ⟨m, hm⟩ := h1; exact DataW.trod_lt m _ _ _ hm
  have lt2 : ∀ x ∈ p2, x.block < W.heap.size := by obtain ⟨m, hm⟩ := h2; exact DataW.trod_lt m _ _ _ hm
  obtain ⟨a, S0⟩ := open_clockv (hval 0 23 v0 rfl rfl) h0
  obtain ⟨b, S1⟩ := open_clockv (hval 1 23 v1 rfl rfl) h1
  obtain ⟨c, S2⟩ := open_clockv (hval 2 23 v2 rfl rfl) h2
  have hin := clock_in (hval 0 23 v0 rfl rfl)
  have ht := tab_of_laid hL
  have hm := mx_of_shape hsh
  clear hA0 hval0
  refine (dleast_any v0 v1 v2 a b c W S0 S1 S2 hin ht hm).mono fun e W' ⟨he, kp⟩ => ?_
  subst he
  have bel : Below W.heap.size W W' := kp.below (Nat.le_refl _) (fun _ _ h => h)
  exact ⟨_, rfl, _, _, _, [], _, [], hW', trodAll_mk1 (shut_bool Tryd.underlying4 _), (trodAll_cons_mk (Below.trod laidOut (by kernel_rfl) (of_decide_eq_true (by kernel_rfl)) h0 bel lt0) (trodAll_cons_mk (Below.trod laidOut (by kernel_rfl) (of_decide_eq_true (by kernel_rfl)) h1 bel lt1) (trodAll_cons_mk (Below.trod laidOut (by kernel_rfl) (of_decide_eq_true (by kernel_rfl)) h2 bel lt2) trodAll_mk0))), rfl, bel.frame _, fun h => by cases h⟩

theorem dleast_over : Rows.dotLeastRow.holds Tryd.pinned (OpenSpec.ofChange Rows.dotLeastSpec) :=
  OpenClaim.holds_of_wide 4 Tryd.f4 rfl rfl rfl rfl rfl rfl rfl ⟨rfl, rfl, rfl, rfl, rfl⟩ rfl rfl rfl rfl rfl (by kernel_rfl) Tryd.func4 (by kernel_rfl)
    (of_decide_eq_true (by kernel_rfl)) (by unfold Func.isWrapper; first | (rw [if_pos (by decide +kernel)]; kernel_rfl) | (rw [if_neg (by decide +kernel)]; exact ⟨rfl, rfl⟩))
    (fun os started H enc _ => dleast_lifted os started H enc)

theorem dleast_said : Rows.DotLeastCardSaid :=
  Claim7.holds_tied_plain_at .later [] [.data, .data, .data, .data, .sentinel, .sentinel, .pinned] true _ true
    dleast_over (fun _ h => by cases h) (by kernel_rfl) (fun _ h => by cases h) dotLeast_row_tie rfl ⟨rfl, rfl⟩ (by kernel_rfl) rfl
    (fun f fn hf hfn => by
      obtain rfl : f = 4 := Option.some.inj ((show Tryd.prog.funcNamed "gleanings/gleaningslaw03.DotLeast" = some 4 by kernel_rfl).symm.trans hf) |>.symm
      obtain rfl : fn = Tryd.f4 := (Option.some.inj (Tryd.func4.symm.trans hfn)).symm
      exact ⟨by kernel_rfl, fun j t ht => by
        rw [Tryd.params4] at ht
        have hm : t ∈ [23, 23, 23] := by simpa using Array.mem_of_getElem? ht
        have hall : ([23, 23, 23].all fun u => !Tryd.prog.wantsStandIn u) = true := by kernel_rfl
        exact (show Tryd.prog.wantsStandIn t = false by simpa using List.all_eq_true.1 hall t hm)⟩)
    (by kernel_rfl)
end Go.Proofs.YtbbfibgijackhaaDoor
