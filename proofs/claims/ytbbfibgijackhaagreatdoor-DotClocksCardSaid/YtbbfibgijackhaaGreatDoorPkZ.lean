/-
  Layer 3: the statements' own first. Conditions: the library's tables stand in memory.
  Layer 3: a case in memory, the law's own great (for the seat of DotClocks and DotReads; DtAc has the same for the other one). Condition: none.
  Layer 3: DotClocks' law. Conditions: a case in memory; the library's tables stand in memory.
-/
import Derived.Test.YtbbfibgijackhaaGreatDoorPkX
import Derived.Test.YtbbfibgijackhaaGreatDoorPkJ
import Derived.Test.YtbbfibgijackhaaGreatDoorPkM
import Derived.Test.YtbbfibgijackhaaGreatDoorDtE
import Derived.Test.YtbbfibgijackhaaGreatDoorDtB
import Derived.Test.YtbbfibgijackhaaGreatDoorDtD
import Derived.Test.YtbbfibgijackhaaGreatDoorPkR
import Derived.Test.YtbbfibgijackhaaGreatDoorVars
namespace Go.Proofs.YtbbfibgijackhaaGreatDoor
open Go.RowKit

def cA : List RunQ := [(0, 1, 3), (2, 1, 1)]
def cB : List RunQ := [(0, 4, 4), (1, 5, 5)]
def cJ : List RunQ := [(0, 1, 4), (1, 5, 5), (2, 1, 1)]
theorem mk_a (w : World) : (Instr.buildSlice 23 2 #[(0, .agg #[.int .i64 0, .int .i64 1, .int .i64 3]), (1, .agg #[.int .i64 2, .int .i64 1, .int .i64 1])]).run Tryz.prog w = .ok (.slice (some ⟨w.heap.size, 0, none⟩) 2 2) (w.alloc (.cells #[.int .i64 0, .int .i64 1, .int .i64 3, .int .i64 2, .int .i64 1, .int .i64 1] 61 (0, 0))) := by kernel_rfl
theorem mk_b (w : World) : (Instr.buildSlice 23 2 #[(0, .agg #[.int .i64 0, .int .i64 4, .int .i64 4]), (1, .agg #[.int .i64 1, .int .i64 5, .int .i64 5])]).run Tryz.prog w = .ok (.slice (some ⟨w.heap.size, 0, none⟩) 2 2) (w.alloc (.cells #[.int .i64 0, .int .i64 4, .int .i64 4, .int .i64 1, .int .i64 5, .int .i64 5] 61 (0, 0))) := by kernel_rfl
theorem mk_z (w : World) : (Instr.buildSlice 23 1 #[(0, .agg #[.int .i64 0, .int .i64 0, .int .i64 0])]).run Tryz.prog w = .ok (.slice (some ⟨w.heap.size, 0, none⟩) 1 1) (w.alloc (.cells #[.int .i64 0, .int .i64 0, .int .i64 0] 61 (0, 0))) := by kernel_rfl
theorem cl_blk {w : World} {N : Nat} {c : List RunQ} (h : Blk w N 61 (flatR runL c)) (hok : ∀ q ∈ c, RunOk q) (hm : c.length ≤ maxLen) : ClSl w (.slice (some ⟨N, 0, none⟩) c.length c.length) c :=
  ⟨runAt_ok hok, RowsSl.of_blk h rfl hm (fun i hi j hj => flatR_get c i j (fun _ _ => rfl) hi hj)⟩
theorem wpList_valZ {P : Program} {ops : Array Oper} {rest : List Oper} {o : Oper} {a : Act} {w : World} {Q : Exit → Act → World → Prop} (hw : Region.wanted o (yielded ops a.tmps) = true) (v : Value) (w' : World) (h1 : (execOp a.eval o).run P w = .ok (.value v) w')
    (h : wpList P ops Q rest (a.put o.dst v) w') : wpList P ops Q (o :: rest) a w :=
  wpList_step fun K hK => by
    rw [if_pos hw]
    unfold Oper.wp
    rw [h1]
    exact hK _ _ h
theorem z_join : joinC cA cB = cJ := by kernel_rfl
theorem z_textA : bs (textC cA) = ⟨#[48, 58, 49, 45, 51, 32, 50, 58, 49]⟩ := by kernel_rfl
theorem z_textJ : bs (textC cJ) = ⟨#[48, 58, 49, 45, 52, 32, 49, 58, 53, 32, 50, 58, 49]⟩ := by kernel_rfl
theorem z_cmp1 : cmpC cA cJ = -1 := by kernel_rfl
theorem z_cmp2 : cmpC cA cB = 2 := by kernel_rfl
theorem z_count : countC cJ = 6 := by kernel_rfl
theorem z_ra : rightC cA = true := by kernel_rfl
theorem z_hasA : hasC cA 0 2 = true := by kernel_rfl
theorem z_hasB : hasC cB 0 2 = false := by kernel_rfl
theorem z_top : topC cJ 0 = 4 := by kernel_rfl
theorem z_rz : rightC [(0, 0, 0)] = false := by kernel_rfl
theorem z_ok : (∀ q ∈ cA, RunOk q) ∧ ∀ q ∈ cB, RunOk q := by
  refine ⟨fun q hq => ?_, fun q hq => ?_⟩ <;> simp only [cA, cB, List.mem_cons, List.not_mem_nil, or_false] at hq <;> rcases hq with rfl | rfl <;> unfold RunOk I64 <;> simp
structure Fsd (w : World) (va vb vj vP : Value) (P : Nat) (zs : List Int) (W : World) : Prop where
  ha : ClSl W va cA
  hb : ClSl W vb cB
  hj : ClSl W vj cJ
  hp : PenAt W P vP zs
  k : Kp Nb w W
theorem Fsd.step {w W W' : World} {va vb vj vP : Value} {P : Nat} {zs : List Int} (h : Fsd w va vb vj vP P zs W) (k : Kp Nb W W') : Fsd w va vb vj vP P zs W' :=
  ⟨h.ha.kept k, h.hb.kept k, h.hj.kept k, h.hp.kept k (fun h => h) (fun _ _ h => h), h.k.trans k (fun _ _ h => h)⟩
set_option maxRecDepth 100000 in
set_option maxHeartbeats 4000000 in
theorem dfirst_any (w : World) (ht : Tab w) (hm : Mx w) : Calls Tryz.prog 5 #[] w fun e w' => e = .returned (.bool true) ∧ Kp Nb w w' := by
  have HT := hid ht
  have HM := hid hm
  have MA := hid mk_a
  have MB := hid mk_b
  have MZ := hid mk_z
  have ZP : Hid (putB cA = true) := hid (by kernel_rfl)
  have ZL : Hid ((bytesC cA).length ≤ 100000) := hid (bytesC_len z_ra (by decide))
  obtain ⟨N, hN⟩ : ∃ N, w.heap.size = N := ⟨_, rfl⟩
  obtain ⟨W1, hW1⟩ : ∃ W, W = w.alloc (.cells #[.int .i64 0, .int .i64 1, .int .i64 3, .int .i64 2, .int .i64 1, .int .i64 1] 61 (0, 0)) := ⟨_, rfl⟩
  obtain ⟨W2, hW2⟩ : ∃ W, W = W1.alloc (.cells #[.int .i64 0, .int .i64 4, .int .i64 4, .int .i64 1, .int .i64 5, .int .i64 5] 61 (0, 0)) := ⟨_, rfl⟩
  have S1 : W1.heap.size = N + 1 := by rw [hW1, ← hN]; exact Array.size_push _
  have A1 : ClSl W1 (.slice (some ⟨N, 0, none⟩) 2 2) cA := cl_blk (by rw [hW1, ← hN]; exact Blk.new w 61 (flatR runL cA)) z_ok.1 (by simp [cA, maxLen])
  have k12 : Kp Nb W1 W2 := by rw [hW2]; exact (Kp.refl Nb W1).alloc _
  have A2 : Hid (ClSl W2 (.slice (some ⟨N, 0, none⟩) 2 2) cA) := hid (A1.kept k12)
  have B2 : Hid (ClSl W2 (.slice (some ⟨N + 1, 0, none⟩) 2 2) cB) := hid (cl_blk (by rw [hW2, ← S1]; exact Blk.new W1 61 (flatR runL cB)) z_ok.2 (by simp [cB, maxLen]))
  have K2 : Hid (Kp Nb w W2) := hid (Kp.trans (by rw [hW1]; exact (Kp.refl Nb w).alloc _) k12 (fun _ _ h => h))
  have MA1 : Hid ((Instr.buildSlice 23 2 #[(0, .agg #[.int .i64 0, .int .i64 1, .int .i64 3]), (1, .agg #[.int .i64 2, .int .i64 1, .int .i64 1])]).run Tryz.prog w = .ok (.slice (some ⟨N, 0, none⟩) 2 2) W1) := hid (by rw [hW1, ← hN]; exact MA.out w)
  have MB1 : Hid ((Instr.buildSlice 23 2 #[(0, .agg #[.int .i64 0, .int .i64 4, .int .i64 4]), (1, .agg #[.int .i64 1, .int .i64 5, .int .i64 5])]).run Tryz.prog W1 = .ok (.slice (some ⟨N + 1, 0, none⟩) 2 2) W2) := hid (by rw [hW2, ← S1]; exact MB.out W1)
  have HNP : Hid (N + 2 ≤ W2.heap.size) := hid (by rw [hW2]; have : (W1.alloc (.cells #[.int .i64 0, .int .i64 4, .int .i64 4, .int .i64 1, .int .i64 5, .int .i64 5] 61 (0, 0))).heap.size = W1.heap.size + 1 := Array.size_push _; omega)
  clear hW1 hW2 A1 k12 S1 hN ht hm
  go_enter Tryz.func5, Tryz.ntmps5
  go_wp2_with (first
    | (refine wpList_val (by rfl) _ _ (exec_buildSliceD rfl (qs := #[(0, .agg #[.int .i64 0, .int .i64 1, .int .i64 3]), (1, .agg #[.int .i64 2, .int .i64 1, .int .i64 1])]) (by simp [Act.eval, Act.put]) MA1.out) ?_)
    | (refine wpList_val (by rfl) _ _ (exec_buildSliceD rfl (qs := #[(0, .agg #[.int .i64 0, .int .i64 4, .int .i64 4]), (1, .agg #[.int .i64 1, .int .i64 5, .int .i64 5])]) (by simp [Act.eval, Act.put]) MB1.out) ?_))
  have C := join_any _ _ cA cB W2 A2.out B2.out (by decide) (by decide)
  rw [z_join] at C
  refine C.mono ?_
  rintro r w3 ⟨vj, rfl, h3, ho3, k3⟩
  have GJ : Hid (∀ g, vj.ownBlock = some g → g < w3.heap.size) := hid (fun g hg => (ho3 g hg).2)
  obtain ⟨yj, dj, e3⟩ := h3.shape
  have e3 : vj = .slice yj 3 dj := e3
  subst e3
  have A3 := hid (A2.out.kept k3)
  have B3 := hid (B2.out.kept k3)
  have J3 := hid h3
  have K3 := hid (K2.out.trans k3 (fun _ _ h => h))
  have N3 : Hid (N + 2 ≤ w3.heap.size) := hid (by have := HNP.out; have := k3.size; omega)
  clear C k3 h3 ho3 A2 B2 K2 HNP
  obtain ⟨P, hP⟩ : ∃ P, w3.heap.size = P := ⟨_, rfl⟩
  obtain ⟨W4, hW4⟩ : ∃ W, W = w3.alloc (.cells #[.slice none 0 0] 43) := ⟨_, rfl⟩
  have PN : Hid (PenAt W4 P (.slice none 0 0) []) := hid (by rw [hW4, ← hP]; exact pen_new w3)
  have K4 : Hid (Kp Nb w3 W4) := hid (by rw [hW4]; exact (Kp.refl Nb w3).alloc _)
  have HP3 := hid hP
  have CP := dput_any P _ cA W4 (A3.out.kept K4.out) PN.out (fun g hg => by
    have : N = g := by simpa [Value.ownBlock] using hg
    have := N3.out
    have := HP3.out
    omega) (by decide)
  rw [ZP.out, if_pos rfl] at CP
  have CP := hid CP
  go_upto_region 4 with fail
  rw [← hW4]
  try simp only [hP]
  clear hW4 hP
  go_wp2_with fail
  refine CP.out.mono ?_
  rintro r w5 ⟨rfl, vP, p5, t5⟩
  have NA : ∀ g, (Value.ownBlock (.slice (some ⟨N, 0, none⟩) 2 2)) = some g → g ≠ P := fun g hg => by
    have : N = g := by simpa [Value.ownBlock] using hg
    have := N3.out
    have := HP3.out
    omega
  have NB : ∀ g, (Value.ownBlock (.slice (some ⟨N + 1, 0, none⟩) 2 2)) = some g → g ≠ P := fun g hg => by
    have : N + 1 = g := by simpa [Value.ownBlock] using hg
    have := N3.out
    have := HP3.out
    omega
  have NJ : ∀ g, (Value.slice yj 3 dj).ownBlock = some g → g ≠ P := fun g hg => by
    have := GJ.out g hg
    have := HP3.out
    omega
  have HF : Hid (Fsd w (.slice (some ⟨N, 0, none⟩) 2 2) (.slice (some ⟨N + 1, 0, none⟩) 2 2) (.slice yj 3 dj) vP P (bytesC cA) w5) := hid ⟨pen_sepC t5 (A3.out.kept K4.out) NA, pen_sepC t5 (B3.out.kept K4.out) NB, pen_sepC t5 (J3.out.kept K4.out) NJ, p5,
    (K3.out.trans K4.out (fun _ _ h => h)).trans t5.kp (fun i hi h => h.elim (fun h => by have := HP3.out; have := K3.out.size; omega) (fun h => by simp [Value.ownBlock] at h))⟩
  clear NA NB NJ
  clear CP PN K3 K4 A3 B3 J3 GJ p5 t5
  go_wp2_with fail
  have C := parse_any cA w5 z_ra (by decide) (HM.out.kept HF.out.k) (HT.out.kept HF.out.k)
  rw [z_textA] at C
  refine C.mono ?_
  rintro r w6 ⟨vc, rfl, hc, -, k⟩
  obtain ⟨yc, dc, ec⟩ := hc.shape
  have ec : vc = .slice yc 2 dc := ec
  subst ec
  have HC := hid hc
  clear hc
  have HF := hid (HF.out.step k)
  clear C k
  go_wp2_with fail
  have C := text_any _ cJ w6 HF.out.hj (by decide) (HT.out.kept HF.out.k)
  rw [z_textJ] at C
  refine C.mono ?_
  rintro r w7 ⟨rfl, k⟩
  have HC := hid (HC.out.kept k)
  have HF := hid (HF.out.step k)
  clear C k
  go_wp2_with fail
  have C := compare_any _ _ cA cJ w7 HF.out.ha HF.out.hj (by decide) (by decide)
  rw [z_cmp1] at C
  refine C.mono ?_
  rintro r w8 ⟨rfl, k⟩
  have HC := hid (HC.out.kept k)
  have HF := hid (HF.out.step k)
  clear C k
  go_wp2_with fail
  have C := compare_any _ _ cA cB w8 HF.out.ha HF.out.hb (by decide) (by decide)
  rw [z_cmp2] at C
  refine C.mono ?_
  rintro r w9 ⟨rfl, k⟩
  have HC := hid (HC.out.kept k)
  have HF := hid (HF.out.step k)
  clear C k
  go_wp2_with fail
  have C := count_any _ cJ w9 HF.out.hj (by decide)
  rw [z_count] at C
  refine C.mono ?_
  rintro r w10 ⟨rfl, k⟩
  have HC := hid (HC.out.kept k)
  have HF := hid (HF.out.step k)
  clear C k
  go_wp2_with fail
  have C := pen_bytes P vP _ w10 HF.out.hp (by have := ZL.out; omega)
  refine C.mono ?_
  rintro r w11 ⟨rb, rfl, ow, k⟩
  have HC := hid (HC.out.kept k)
  have BY : Hid (BySl Nb w11 rb (bytesC cA)) := hid (BySl.ofOwn ow HF.out.hp.bytes (fun _ _ _ h => h))
  obtain ⟨yr, dr, rfl⟩ := own_shape ow
  clear ow
  have HF := hid (HF.out.step k)
  clear C k
  go_wp2_with fail
  refine (read_any _ _ w11 BY.out (by have := ZL.out; omega)).mono ?_
  rintro r w12 ⟨Be, hBe, rfl, he, k14⟩
  have HEY := hid (EyeOn.of he w12.heap.size (Nat.le_refl _))
  have HBE := hid hBe
  have K14 := hid k14
  clear he k14 hBe
  go_wp2_with fail
  have C := dget_any Be (bytesC cA) 0 w12 (S := fun i => i = Be ∨ w12.heap.size ≤ i) (fun i => Iff.rfl) HEY.out
  rw [get_back z_ra (by decide)] at C
  dsimp only at C
  refine C.mono ?_
  rintro r w13 ⟨vg, rfl, hg, -, -, k15⟩
  obtain ⟨yg, dg, eg⟩ := hg.shape
  have eg : vg = .slice yg 2 dg := eg
  subst eg
  have K15 : Kp Nb w11 w13 := K14.out.trans (S' := Jb Be) k15 (fun i hi h => by have h' : i = Be := h; have := HBE.out; omega)
  have HF := hid (HF.out.step K15)
  have HC : Hid (ClSl w13 (.slice yc 2 dc) cA) := hid (HC.out.kept K15)
  have HG := hid hg
  clear C k15 hg K15
  go_wp2_with fail
  have C := same_any _ _ cA cA w13 HG.out HF.out.ha (by decide) (by decide)
  rw [decide_eq_true rfl] at C
  refine C.mono ?_
  rintro r w14 ⟨rfl, k⟩
  have HC := hid (HC.out.kept k)
  have HF := hid (HF.out.step k)
  clear C k
  go_wp2_with fail
  have C := same_any _ _ cA cA w14 HC.out HF.out.ha (by decide) (by decide)
  rw [decide_eq_true rfl] at C
  refine C.mono ?_
  rintro r w15 ⟨rfl, k⟩
  have HF := hid (HF.out.step k)
  clear C k
  go_wp2_with fail
  have C := has_any _ cA 0 2 w15 HF.out.ha (by decide)
  rw [z_hasA] at C
  refine C.mono ?_
  rintro r w16 ⟨rfl, k⟩
  have HF := hid (HF.out.step k)
  clear C k
  go_wp2_with fail
  have C := has_any _ cB 0 2 w16 HF.out.hb (by decide)
  rw [z_hasB] at C
  refine C.mono ?_
  rintro r w17 ⟨rfl, k⟩
  have HF := hid (HF.out.step k)
  clear C k
  go_wp2_with (first | (refine wpList_valZ (by rfl) _ _ (exec_buildSliceD rfl (qs := #[(0, .agg #[.int .i64 0, .int .i64 0, .int .i64 0])]) (by simp [Act.eval, Act.put]) (MZ.out _)) ?_))
  have C := dright_any (.slice (some ⟨w17.heap.size, 0, none⟩) 1 1) [(0, 0, 0)] (w17.alloc (.cells #[.int .i64 0, .int .i64 0, .int .i64 0] 61 (0, 0))) ⟨runAt_ok (fun _ hq => by rw [List.mem_singleton.1 hq]; exact run_zero_ok), rows_oneR (Blk.new w17 61 (runL (0, 0, 0)))⟩ (by decide)
  rw [z_rz] at C
  refine C.mono ?_
  rintro r w18 ⟨rfl, k⟩
  have k := ((Kp.refl Nb w17).alloc (.cells #[.int .i64 0, .int .i64 0, .int .i64 0] 61 (0, 0))).trans k (fun _ _ h => h)
  have HF := hid (HF.out.step k)
  clear C k
  go_wp2_with fail
  have C := top_any _ cJ 0 w18 HF.out.hj (by decide)
  rw [z_top] at C
  refine C.mono ?_
  rintro r w19 ⟨rfl, k⟩
  have HF := hid (HF.out.step k)
  clear C k
  go_wp2
  go_ret
  exact ⟨rfl, HF.out.k⟩

end Go.Proofs.YtbbfibgijackhaaGreatDoor

namespace Go.Proofs.YtbbfibgijackhaaGreatDoor
open Go.RowKit

abbrev DotQ := Int × Int
def dotL (q : DotQ) : List Value := [.int .i64 q.1, .int .i64 q.2]
def DotOk (q : DotQ) : Prop := I64 q.1 ∧ I64 q.2
def caseL (va vb : Value) (dn dd nd : Int) : List Value := [va, vb, .int .i64 dn, .int .i64 dd, .int .i64 nd]
def caseV (va vb : Value) (dn dd nd : Int) : Value := .agg #[va, vb, .int .i64 dn, .int .i64 dd, .int .i64 nd]
set_option maxRecDepth 100000 in
set_option maxHeartbeats 1000000 in
theorem great_any (pa pb : Option Addr) (nA nB da db : Nat) (dn dd nd : Int) (w : World) :
    Calls Tryz.prog 6 #[caseV (.slice pa nA da) (.slice pb nB db) dn dd nd] w fun e w' => e = .returned (.bool (decide (40 < nA ∨ 40 < nB))) ∧ Kp Nb w w' := by
  obtain ⟨N, hN⟩ : ∃ N, w.heap.size = N := ⟨_, rfl⟩
  obtain ⟨W, hW⟩ : ∃ W, W = w.alloc (.cells #[.slice pa nA da, .slice pb nB db, .int .i64 dn, .int .i64 dd, .int .i64 nd] 27) := ⟨_, rfl⟩
  have HB : Hid (Blk W N 27 (caseL (.slice pa nA da) (.slice pb nB db) dn dd nd)) := hid (by rw [hW, ← hN]; exact Blk.new w _ (caseL (.slice pa nA da) (.slice pb nB db) dn dd nd))
  have K0 : Hid (Kp Nb w W) := hid (by rw [hW]; exact (Kp.refl Nb w).alloc _)
  unfold caseV
  obtain ⟨G, hG⟩ : ∃ b, decide (40 < nA ∨ 40 < nB) = b := ⟨_, rfl⟩
  have HG := hid hG
  rw [hG]
  clear hG
  go_enter Tryz.func6, Tryz.ntmps6
  go_upto_region 1 with fail
  rw [← hW]
  clear hW hN
  have c0 : W.cell? ⟨N, 0, none⟩ = some (.slice pa nA da) := HB.out.cell 0
  have c1 : W.cell? ⟨N, 1, none⟩ = some (.slice pb nB db) := HB.out.cell 1
  by_cases h1 : 40 < nA
  · have d1 : (40 : Int) < (nA : Int) := by omega
    have hd : decide (40 < nA ∨ 40 < nB) = true := decide_eq_true (.inl h1)
    obtain rfl : true = G := hd.symm.trans HG.out
    clear hd h1
    go_wp2
    go_ret
    exact ⟨rfl, K0.out⟩
  · by_cases h2 : 40 < nB
    · have d1 : ¬ (40 : Int) < (nA : Int) := by omega
      have d2 : (40 : Int) < (nB : Int) := by omega
      have hd : decide (40 < nA ∨ 40 < nB) = true := decide_eq_true (.inr h2)
      obtain rfl : true = G := hd.symm.trans HG.out
      clear hd h1 h2
      go_wp2
      go_ret
      exact ⟨rfl, K0.out⟩
    · have d1 : ¬ (40 : Int) < (nA : Int) := by omega
      have d2 : ¬ (40 : Int) < (nB : Int) := by omega
      have hd : decide (40 < nA ∨ 40 < nB) = false := decide_eq_false (by omega)
      obtain rfl : false = G := hd.symm.trans HG.out
      clear hd h1 h2
      go_wp2
      go_ret
      exact ⟨rfl, K0.out⟩

end Go.Proofs.YtbbfibgijackhaaGreatDoor

namespace Go.Proofs.YtbbfibgijackhaaGreatDoor
open Go.RowKit

theorem old_setD {L : Nat → Bool} {i : Nat} {l l' : List Value} (u : Value) (hL : L i = false) (h : l' = l.set i u) : ∀ j, L j = true → l'.getD j undef = l.getD j undef := by
  intro j hj
  subst h
  have hn : i ≠ j := by rintro rfl; rw [hL] at hj; cases hj
  rw [List.getD_eq_getElem?_getD, List.getD_eq_getElem?_getD, List.getElem?_set_ne hn]
theorem dot_infoA2 (q : DotQ) : (Tryz.prog.info? 25).map (·.size) = some (dotL q).toArray.size := by kernel_rfl
theorem dot_one2 (q : DotQ) : (dotL q).toArray.all (·.oneCell') = true := by simp [dotL, Value.oneCell']
theorem store_dot {w : World} {B : Nat} (n d : Int) (ht : w.there B 0 2) : (Instr.storeAt 25 (.pointer (some ⟨B, 0, none⟩)) (.agg #[.int .i64 n, .int .i64 d])).run Tryz.prog w = .ok () (w.setCells B 0 (dotL (n, d))) :=
  run_storeAt_mid w B 0 25 (dotL (n, d)).toArray ht (dot_infoA2 (n, d)) (dot_one2 (n, d))
structure Dcs (w : World) (va vb : Value) (a b : List RunQ) (D : Nat) (dn dd nd : Int) (W : World) : Prop where
  ha : ClSl W va a
  hb : ClSl W vb b
  box : Blk W D 27 (caseL va vb dn dd nd)
  k : Kp Nb w W
theorem Dcs.step {w W W' : World} {va vb : Value} {a b : List RunQ} {D : Nat} {dn dd nd : Int} (h : Dcs w va vb a b D dn dd nd W) (k : Kp Nb W W') : Dcs w va vb a b D dn dd nd W' :=
  ⟨h.ha.kept k, h.hb.kept k, h.box.kept k (fun h => h), h.k.trans k (fun _ _ h => h)⟩
theorem with_lenC (a : List RunQ) (n d : Int) : (withC a n d).length ≤ a.length + 1 := by
  unfold withC
  split
  · have := joinC_len a [(n, d, d)]
    rwa [List.length_singleton] at this
  · exact Nat.zero_le _
theorem of_lenC (a : List RunQ) (n : Int) : (ofC a n).length ≤ a.length := by
  unfold ofC ofF
  split
  · exact List.length_filter_le _ _
  · exact Nat.zero_le _
abbrev G6 := (Option Addr × Nat) × (Option Addr × Nat) × (Option Addr × Nat) × (Option Addr × Nat) × (Option Addr × Nat) × Option Addr × Nat
/-- The six clocks that the law makes, each as soon as it is made. -/
structure Dc6 (W : World) (Wt J O : List RunQ) (nW nJ nO : Nat) (bs : List Bool) (g : G6) (w : World) : Prop where
  kp : Kp Nb W w
  c0 : bs[0]?.getD false = true → ClSl w (.slice g.1.1 nW g.1.2) Wt
  c1 : bs[1]?.getD false = true → ClSl w (.slice g.2.1.1 nW g.2.1.2) Wt
  c2 : bs[2]?.getD false = true → ClSl w (.slice g.2.2.1.1 nJ g.2.2.1.2) J
  c3 : bs[3]?.getD false = true → ClSl w (.slice g.2.2.2.1.1 nJ g.2.2.2.1.2) J
  c4 : bs[4]?.getD false = true → ClSl w (.slice g.2.2.2.2.1.1 nO g.2.2.2.2.1.2) O
  c5 : bs[5]?.getD false = true → ClSl w (.slice g.2.2.2.2.2.1 nO g.2.2.2.2.2.2) O
variable {W w w' : World} {Wt J O : List RunQ} {nW nJ nO : Nat} {bs : List Bool} {g : G6} {b0 b1 b2 b3 b4 b5 : Bool} {y : Option Addr} {d : Nat}
theorem Dc6.kept (h : Dc6 W Wt J O nW nJ nO bs g w) (k : Kp Nb w w') : Dc6 W Wt J O nW nJ nO bs g w' :=
  ⟨h.kp.trans k (fun _ _ h => h), fun e => (h.c0 e).kept k, fun e => (h.c1 e).kept k, fun e => (h.c2 e).kept k, fun e => (h.c3 e).kept k, fun e => (h.c4 e).kept k, fun e => (h.c5 e).kept k⟩
theorem Dc6.start (W : World) (g : G6) : Dc6 W Wt J O nW nJ nO [false, false, false, false, false, false] g W.drew :=
  ⟨(Kp.refl Nb W).drew, fun h => by simp at h, fun h => by simp at h, fun h => by simp at h, fun h => by simp at h, fun h => by simp at h, fun h => by simp at h⟩
theorem Dc6.put0 (h : Dc6 W Wt J O nW nJ nO [b0, b1, b2, b3, b4, b5] g w) (hc : ClSl w' (.slice y nW d) Wt) (k : Kp Nb w w') : Dc6 W Wt J O nW nJ nO [true, b1, b2, b3, b4, b5] ((y, d), g.2) w' :=
  ⟨h.kp.trans k (fun _ _ h => h), fun _ => hc, fun e => (h.c1 e).kept k, fun e => (h.c2 e).kept k, fun e => (h.c3 e).kept k, fun e => (h.c4 e).kept k, fun e => (h.c5 e).kept k⟩
theorem Dc6.put1 (h : Dc6 W Wt J O nW nJ nO [b0, b1, b2, b3, b4, b5] g w) (hc : ClSl w' (.slice y nW d) Wt) (k : Kp Nb w w') : Dc6 W Wt J O nW nJ nO [b0, true, b2, b3, b4, b5] (g.1, (y, d), g.2.2) w' :=
  ⟨h.kp.trans k (fun _ _ h => h), fun e => (h.c0 e).kept k, fun _ => hc, fun e => (h.c2 e).kept k, fun e => (h.c3 e).kept k, fun e => (h.c4 e).kept k, fun e => (h.c5 e).kept k⟩
theorem Dc6.put2 (h : Dc6 W Wt J O nW nJ nO [b0, b1, b2, b3, b4, b5] g w) (hc : ClSl w' (.slice y nJ d) J) (k : Kp Nb w w') : Dc6 W Wt J O nW nJ nO [b0, b1, true, b3, b4, b5] (g.1, g.2.1, (y, d), g.2.2.2) w' :=
  ⟨h.kp.trans k (fun _ _ h => h), fun e => (h.c0 e).kept k, fun e => (h.c1 e).kept k, fun _ => hc, fun e => (h.c3 e).kept k, fun e => (h.c4 e).kept k, fun e => (h.c5 e).kept k⟩
theorem Dc6.put3 (h : Dc6 W Wt J O nW nJ nO [b0, b1, b2, b3, b4, b5] g w) (hc : ClSl w' (.slice y nJ d) J) (k : Kp Nb w w') : Dc6 W Wt J O nW nJ nO [b0, b1, b2, true, b4, b5] (g.1, g.2.1, g.2.2.1, (y, d), g.2.2.2.2) w' :=
  ⟨h.kp.trans k (fun _ _ h => h), fun e => (h.c0 e).kept k, fun e => (h.c1 e).kept k, fun e => (h.c2 e).kept k, fun _ => hc, fun e => (h.c4 e).kept k, fun e => (h.c5 e).kept k⟩
theorem Dc6.put4 (h : Dc6 W Wt J O nW nJ nO [b0, b1, b2, b3, b4, b5] g w) (hc : ClSl w' (.slice y nO d) O) (k : Kp Nb w w') : Dc6 W Wt J O nW nJ nO [b0, b1, b2, b3, true, b5] (g.1, g.2.1, g.2.2.1, g.2.2.2.1, (y, d), g.2.2.2.2.2) w' :=
  ⟨h.kp.trans k (fun _ _ h => h), fun e => (h.c0 e).kept k, fun e => (h.c1 e).kept k, fun e => (h.c2 e).kept k, fun e => (h.c3 e).kept k, fun _ => hc, fun e => (h.c5 e).kept k⟩
theorem Dc6.put5 (h : Dc6 W Wt J O nW nJ nO [b0, b1, b2, b3, b4, b5] g w) (hc : ClSl w' (.slice y nO d) O) (k : Kp Nb w w') : Dc6 W Wt J O nW nJ nO [b0, b1, b2, b3, b4, true] (g.1, g.2.1, g.2.2.1, g.2.2.2.1, g.2.2.2.2.1, (y, d)) w' :=
  ⟨h.kp.trans k (fun _ _ h => h), fun e => (h.c0 e).kept k, fun e => (h.c1 e).kept k, fun e => (h.c2 e).kept k, fun e => (h.c3 e).kept k, fun e => (h.c4 e).kept k, fun _ => hc⟩
def dotZ : Nat → List Value := fun _ => dotL (0, 0)
def dotVs (dn dd : Int) : Nat → List Value := fun _ => dotL (dn, dd)
def dotT : Nat → TypeId := fun _ => 25
set_option maxRecDepth 100000 in
set_option maxHeartbeats 100000000 in
theorem dclocks_any (va vb : Value) (a b : List RunQ) (dn dd nd : Int) (w : World) (ha : ClSl w va a) (hb : ClSl w vb b) (hn : I64 dn) (hd : I64 dd) (ht : Tab w) (hm : Mx w) :
    Calls Tryz.prog 3 #[caseV va vb dn dd nd] w fun e w' => e = .returned (.bool true) ∧ Kp Nb w w' := by
  have HT := hid ht
  have HM := hid hm
  have HID := hid (show I64 dn ∧ I64 dd from ⟨hn, hd⟩)
  obtain ⟨pa, da, rfl⟩ := ha.shape
  obtain ⟨pb, db, rfl⟩ := hb.shape
  obtain ⟨nA, hnA⟩ : ∃ n, a.length = n := ⟨_, rfl⟩
  obtain ⟨nB, hnB⟩ : ∃ n, b.length = n := ⟨_, rfl⟩
  have HL := hid (show a.length = nA ∧ b.length = nB from ⟨hnA, hnB⟩)
  obtain ⟨D, hD⟩ : ∃ D, w.heap.size = D := ⟨_, rfl⟩
  obtain ⟨W0, hW0⟩ : ∃ W, W = w.alloc (.cells #[.slice pa a.length da, .slice pb b.length db, .int .i64 dn, .int .i64 dd, .int .i64 nd] 27) := ⟨_, rfl⟩
  have HF : Hid (Dcs w (.slice pa a.length da) (.slice pb b.length db) a b D dn dd nd W0) := hid (by
    have k0 : Kp Nb w W0 := by rw [hW0]; exact (Kp.refl Nb w).alloc _
    exact ⟨ha.kept k0, hb.kept k0, by rw [hW0, ← hD]; exact Blk.new w _ (caseL (.slice pa a.length da) (.slice pb b.length db) dn dd nd), k0⟩)
  rw [hnA, hnB] at HF
  rw [hnA, hnB] at hW0
  rw [hnA, hnB]
  clear ha hb hnA hnB ht hm hn hd
  unfold caseV
  go_enter Tryz.func3, Tryz.ntmps3
  go_upto_region 1 with fail
  rw [← hW0]
  clear hW0 hD
  go_wp2_with fail
  refine (dfirst_any W0 (HT.out.kept HF.out.k) (HM.out.kept HF.out.k)).mono ?_
  rintro r w1 ⟨rfl, k⟩
  have HF := hid (HF.out.step k)
  clear k
  have c0 : World.cell? w1 ⟨D, 0, none⟩ = some (.slice pa nA da) := HF.out.box.cell 0
  have c1 : World.cell? w1 ⟨D, 1, none⟩ = some (.slice pb nB db) := HF.out.box.cell 1
  have c2 : World.cell? w1 ⟨D, 2, none⟩ = some (.int .i64 dn) := HF.out.box.cell 2
  have c3 : World.cell? w1 ⟨D, 3, none⟩ = some (.int .i64 dd) := HF.out.box.cell 3
  have c4 : World.cell? w1 ⟨D, 4, none⟩ = some (.int .i64 nd) := HF.out.box.cell 4
  obtain ⟨G, hG⟩ : ∃ x, decide (40 < nA ∨ 40 < nB) = x := ⟨_, rfl⟩
  have HG := hid hG
  go_wp2_with fail
  have C := great_any pa pb nA nB da db dn dd nd w1
  rw [hG] at C
  clear hG
  unfold caseV at C
  refine C.mono ?_
  rintro r w2 ⟨rfl, k⟩
  have HF := hid (HF.out.step k)
  clear C k
  clear c0 c1 c2 c3 c4
  cases G with
  | true =>
    go_wp2
    go_ret
    exact ⟨rfl, HF.out.k⟩
  | false =>
    have HLE : Hid (a.length ≤ 40 ∧ b.length ≤ 40) := hid (by have h1 := of_decide_eq_false HG.out; have := HL.out; omega)
    clear HG
    go_upto_region 5 with fail
    refine region_ghost (g0 := (fun _ => 0)) [none, none, none, some 7, some 8, some 6, none, none, none, none, some 0, some 1, some 2, some 3, some 4, some 5, none, none, none, none, none, none, none, none, none, none, none, none, none, none, none, none, none, none, none, none, none, none, none, none, none, none, none, none, none, none, none, none, none, none, none, none, none, none, none, none, none, none, none, none, none, none, none, none, none, none, none, none, none, none, none, none, none, none, none, none, none, none, none, none, none, none, none, none, none, none, none, none, none, none, none, none, none, none, none, none, none, none, none, none, none, none] [[(1, none)], [(10, some 0)], [(1, none)], [(12, some 2)], [(1, none)], [(14, some 4)], [], [(11, some 1)], [(13, some 3)], [(5, some 6), (15, some 5)]] [some 10, some 11, some 12, some 13, some 14, some 15, some 5, some 3, some 4, none] (fun g => [.pointer (some ⟨D, 0, none⟩), .slice pa nA da, .pointer (some ⟨D, 1, none⟩), .slice pb nB db, .pointer (some ⟨D, 2, none⟩), .agg #[.int .i64 dn, .int .i64 dd], .pointer (some ⟨(g 0), 0, none⟩), .slice pa nA da, .slice pb nB db, undef]) [6, 9] (fun bs g wq => Hid (VarsS w2 1 dotT dotZ (dotVs dn dd) bs g wq)) (by kernel_rfl) (by kernel_rfl) (fun g => by kernel_rfl) (by kernel_rfl) ?hS (GFrom.all (n := 10) (by kernel_rfl) ?hstep) ?hend
    case hstep =>
      refine GFrom.cons (GStep.val _ rfl rfl _ rfl (fun g => .pointer (some ⟨D, 0, none⟩)) (fun _ => rfl) (fun _ => trivial) (fun bs g ev wq hS he hr => ?_)) ?_
      · have r0 : ev (.tmp 1) = .pointer (some ⟨D, 0, none⟩) := hr (1, none) (by simp); have hk := he.1; clear hr he
        go_simp
      refine GFrom.cons (GStep.val _ rfl rfl _ rfl (fun g => .slice pa nA da) (fun _ => rfl) (fun _ => trivial) (fun bs g ev wq hS he hr => ?_)) ?_
      · have r0 : ev (.tmp 10) = .pointer (some ⟨D, 0, none⟩) := hr (10, some 0) (by simp); have hk := he.1; clear hr he
        have c0 : wq.cell? ⟨D, 0, none⟩ = some (.slice pa nA da) := (HF.out.box.kept hS.out.kp (fun h => h)).cell 0
        go_simp
      refine GFrom.cons (GStep.val _ rfl rfl _ rfl (fun g => .pointer (some ⟨D, 1, none⟩)) (fun _ => rfl) (fun _ => trivial) (fun bs g ev wq hS he hr => ?_)) ?_
      · have r0 : ev (.tmp 1) = .pointer (some ⟨D, 0, none⟩) := hr (1, none) (by simp); have hk := he.1; clear hr he
        go_simp
      refine GFrom.cons (GStep.val _ rfl rfl _ rfl (fun g => .slice pb nB db) (fun _ => rfl) (fun _ => trivial) (fun bs g ev wq hS he hr => ?_)) ?_
      · have r0 : ev (.tmp 12) = .pointer (some ⟨D, 1, none⟩) := hr (12, some 2) (by simp); have hk := he.1; clear hr he
        have c0 : wq.cell? ⟨D, 1, none⟩ = some (.slice pb nB db) := (HF.out.box.kept hS.out.kp (fun h => h)).cell 1
        go_simp
      refine GFrom.cons (GStep.val _ rfl rfl _ rfl (fun g => .pointer (some ⟨D, 2, none⟩)) (fun _ => rfl) (fun _ => trivial) (fun bs g ev wq hS he hr => ?_)) ?_
      · have r0 : ev (.tmp 1) = .pointer (some ⟨D, 0, none⟩) := hr (1, none) (by simp); have hk := he.1; clear hr he
        go_simp
      refine GFrom.cons (GStep.val _ rfl rfl _ rfl (fun g => .agg #[.int .i64 dn, .int .i64 dd]) (fun _ => rfl) (fun _ => trivial) (fun bs g ev wq hS he hr => ?_)) ?_
      · have r0 : ev (.tmp 14) = .pointer (some ⟨D, 2, none⟩) := hr (14, some 4) (by simp); have hk := he.1; clear hr he
        have c0 : wq.cell? ⟨D, 2, none⟩ = some (.int .i64 dn) := (HF.out.box.kept hS.out.kp (fun h => h)).cell 2
        have c1 : wq.cell? ⟨D, 3, none⟩ = some (.int .i64 dd) := (HF.out.box.kept hS.out.kp (fun h => h)).cell 3
        go_simp
      refine GFrom.cons (GStep.valloc 0 _ rfl (by decide) rfl rfl rfl 9 _ rfl rfl (by kernel_rfl) (fun g x => by kernel_rfl) (fun g => by simp) (fun ev w => by go_simp; rfl)) ?_
      refine GFrom.cons (GStep.val _ rfl rfl _ rfl (fun g => .slice pa nA da) (fun _ => rfl) (fun _ => trivial) (fun bs g ev wq hS he hr => ?_)) ?_
      · have r0 : ev (.tmp 11) = .slice pa nA da := hr (11, some 1) (by simp); have hk := he.1; clear hr he
        go_simp
      refine GFrom.cons (GStep.val _ rfl rfl _ rfl (fun g => .slice pb nB db) (fun _ => rfl) (fun _ => trivial) (fun bs g ev wq hS he hr => ?_)) ?_
      · have r0 : ev (.tmp 13) = .slice pb nB db := hr (13, some 3) (by simp); have hk := he.1; clear hr he
        go_simp
      refine GFrom.cons (GStep.vfill 0 _ rfl (by decide) rfl rfl rfl 6 rfl (by kernel_rfl) (rfl) (fun _ => rfl) _ rfl (fun g ev wq he hr ht => ?_)) ?_
      · have r0 : ev (.tmp 5) = .pointer (some ⟨(g 0), 0, none⟩) := hr (5, some 6) (by simp); have r1 : ev (.tmp 15) = .agg #[.int .i64 dn, .int .i64 dd] := hr (15, some 5) (by simp); have hk := he.1; clear hr he
        exact exec_store rfl r0 r1 (store_dot dn dd ht)
      exact GFrom.nil
    case hS => exact hid (VarsS.start w2 1 dotT dotZ (dotVs dn dd) [6, 9] _)
    case hend =>
      intro g w3 h3
      have hd := h3.out.done rfl
      have q0 : w2.heap.size ≤ g 0 ∧ Blk w3 (g 0) 25 (dotL (dn, dd)) := hd.1 0 (by decide)
      have k3 := h3.out.kp
      clear hd h3
      generalize g 0 = M at q0 ⊢
      have HM3 := hid q0.2
      have HF := hid (HF.out.step k3)
      clear q0 k3 g
      simp only [putAll, List.zip_cons_cons, List.zip_nil_right, List.foldl_cons, List.foldl_nil, Act.put, List.setIfInBounds_toArray, List.set_cons_zero, List.set_cons_succ]
      obtain ⟨J, hJ⟩ : ∃ c, joinC a b = c := ⟨_, rfl⟩
      obtain ⟨Wt, hWt⟩ : ∃ c, withC a dn dd = c := ⟨_, rfl⟩
      obtain ⟨O, hO⟩ : ∃ c, ofC a nd = c := ⟨_, rfl⟩
      have HJE := hid hJ
      have HWE := hid hWt
      have HOE := hid hO
      have HJL : Hid (J.length ≤ 80) := hid (by rw [← hJ]; have := joinC_len a b; have := HLE.out; omega)
      have HWL : Hid (Wt.length ≤ 80) := hid (by rw [← hWt]; exact Nat.le_trans (with_lenC a dn dd) (by have := HLE.out; omega))
      have HOL : Hid (O.length ≤ 80) := hid (by rw [← hO]; exact Nat.le_trans (of_lenC a nd) (by have := HLE.out; omega))
      clear hJ hWt hO
      obtain ⟨gb, hgb⟩ : ∃ x, goodB dn dd = x := ⟨_, rfl⟩
      obtain ⟨rc, hrc⟩ : ∃ x, rightC a = x := ⟨_, rfl⟩
      obtain ⟨tp, htp⟩ : ∃ x, topC a nd = x := ⟨_, rfl⟩
      obtain ⟨hs, hhs⟩ : ∃ x, hasC a dn dd = x := ⟨_, rfl⟩
      obtain ⟨cm, hcm⟩ : ∃ x, cmpC a b = x := ⟨_, rfl⟩
      obtain ⟨ct, hct⟩ : ∃ x, countC a = x := ⟨_, rfl⟩
      obtain ⟨sm, hsm⟩ : ∃ x, decide (a = b) = x := ⟨_, rfl⟩
      have HLA : Hid (a.length ≤ 400 ∧ b.length ≤ 400) := hid (by have := HLE.out; omega)
      have C1 : Hid (∀ wq, Kp Nb w3 wq → Calls Tryz.prog 7 #[.agg #[.int .i64 dn, .int .i64 dd]] wq fun e w' => e = .returned (.bool gb) ∧ Kp Nb wq w') := hid (fun wq k => by rw [← hgb]; exact good_any dn dd wq)
      have C2 : Hid (∀ wq, Kp Nb w3 wq → Calls Tryz.prog 8 #[.agg #[.int .i64 dn, .int .i64 dd]] wq fun e w' => e = .returned (.bool gb) ∧ Kp Nb wq w') := hid (fun wq k => by rw [← hgb]; exact rgood_any dn dd wq)
      have C3 : Hid (∀ wq, Kp Nb w3 wq → Calls Tryz.prog 9 #[.slice pa nA da] wq fun e w' => e = .returned (.bool rc) ∧ Kp Nb wq w') := hid (fun wq k => by rw [← hrc]; exact dright_any _ a wq (HF.out.ha.kept k) (by have := HLA.out; omega))
      have C4 : Hid (∀ wq, Kp Nb w3 wq → Calls Tryz.prog 10 #[.slice pa nA da] wq fun e w' => e = .returned (.bool rc) ∧ Kp Nb wq w') := hid (fun wq k => by rw [← hrc]; exact rright_any _ a wq (HF.out.ha.kept k) (by have := HLA.out; omega))
      have C5 : Hid (∀ wq, Kp Nb w3 wq → Calls Tryz.prog 11 #[.slice pa nA da, .int .i64 nd] wq fun e w' => e = .returned (.int .i64 tp) ∧ Kp Nb wq w') := hid (fun wq k => by rw [← htp]; exact top_any _ a nd wq (HF.out.ha.kept k) (by have := HLA.out; omega))
      have C6 : Hid (∀ wq, Kp Nb w3 wq → Calls Tryz.prog 12 #[.slice pa nA da, .int .i64 nd] wq fun e w' => e = .returned (.int .i64 tp) ∧ Kp Nb wq w') := hid (fun wq k => by rw [← htp]; exact rtop_any _ a nd wq (HF.out.ha.kept k) (by have := HLA.out; omega))
      have C7 : Hid (∀ wq, Kp Nb w3 wq → Calls Tryz.prog 13 #[.slice pa nA da, .agg #[.int .i64 dn, .int .i64 dd]] wq fun e w' => e = .returned (.bool hs) ∧ Kp Nb wq w') := hid (fun wq k => by rw [← hhs]; exact has_any _ a dn dd wq (HF.out.ha.kept k) (by have := HLA.out; omega))
      have C8 : Hid (∀ wq, Kp Nb w3 wq → Calls Tryz.prog 14 #[.slice pa nA da, .agg #[.int .i64 dn, .int .i64 dd]] wq fun e w' => e = .returned (.bool hs) ∧ Kp Nb wq w') := hid (fun wq k => by rw [← hhs]; exact rhas_any _ a dn dd wq (HF.out.ha.kept k) (by have := HLA.out; omega))
      have C9 : Hid (∀ wq, Kp Nb w3 wq → Calls Tryz.prog 22 #[.slice pa nA da, .slice pb nB db] wq fun e w' => e = .returned (.int .i64 cm) ∧ Kp Nb wq w') := hid (fun wq k => by rw [← hcm]; exact compare_any _ _ a b wq (HF.out.ha.kept k) (HF.out.hb.kept k) (by have := HLA.out; omega) (by have := HLA.out; omega))
      have C10 : Hid (∀ wq, Kp Nb w3 wq → Calls Tryz.prog 23 #[.slice pa nA da, .slice pb nB db] wq fun e w' => e = .returned (.int .i64 cm) ∧ Kp Nb wq w') := hid (fun wq k => by rw [← hcm]; exact rcompare_any _ _ a b wq (HF.out.ha.kept k) (HF.out.hb.kept k) (by have := HLA.out; omega) (by have := HLA.out; omega))
      have C11 : Hid (∀ wq, Kp Nb w3 wq → Calls Tryz.prog 24 #[.slice pa nA da] wq fun e w' => e = .returned (.int .i64 ct) ∧ Kp Nb wq w') := hid (fun wq k => by rw [← hct]; exact count_any _ a wq (HF.out.ha.kept k) (by have := HLA.out; omega))
      have C12 : Hid (∀ wq, Kp Nb w3 wq → Calls Tryz.prog 25 #[.slice pa nA da] wq fun e w' => e = .returned (.int .i64 ct) ∧ Kp Nb wq w') := hid (fun wq k => by rw [← hct]; exact rcount_any _ a wq (HF.out.ha.kept k) (by have := HLA.out; omega))
      have C13 : Hid (∀ wq, Kp Nb w3 wq → Calls Tryz.prog 15 #[.slice pa nA da, .slice pb nB db] wq fun e w' => e = .returned (.bool sm) ∧ Kp Nb wq w') := hid (fun wq k => by rw [← hsm]; exact same_any _ _ a b wq (HF.out.ha.kept k) (HF.out.hb.kept k) (by have := HLA.out; omega) (by have := HLA.out; omega))
      have C14 : Hid (∀ wq, Kp Nb w3 wq → Calls Tryz.prog 26 #[.slice pa nA da, .slice pb nB db] wq fun e w' => e = .returned (.bool sm) ∧ Kp Nb wq w') := hid (fun wq k => by rw [← hsm]; exact rsame_any _ _ a b wq (HF.out.ha.kept k) (HF.out.hb.kept k) (by have := HLA.out; omega))
      have W1 : Hid (∀ wq, Kp Nb w3 wq → Calls Tryz.prog 16 #[.slice pa nA da, .agg #[.int .i64 dn, .int .i64 dd]] wq fun e w' => ∃ y d, e = .returned (.slice y Wt.length d) ∧ ClSl w' (.slice y Wt.length d) Wt ∧ Kp Nb wq w') := hid (fun wq k =>
        (with_any _ a dn dd wq (HF.out.ha.kept k) (by have := HLA.out; omega) HID.out.1 HID.out.2).mono fun e w' ⟨v, h1, h2, _, h4⟩ => by
          rw [HWE.out] at h2
          obtain ⟨y, d, rfl⟩ := h2.shape
          exact ⟨y, d, h1, h2, h4⟩)
      have W2 : Hid (∀ wq, Kp Nb w3 wq → Calls Tryz.prog 17 #[.slice pa nA da, .agg #[.int .i64 dn, .int .i64 dd]] wq fun e w' => ∃ y d, e = .returned (.slice y Wt.length d) ∧ ClSl w' (.slice y Wt.length d) Wt ∧ Kp Nb wq w') := hid (fun wq k =>
        (rwith_any _ a dn dd wq (HF.out.ha.kept k) (by have := HLA.out; omega)).mono fun e w' ⟨v, h1, h2, _, h4⟩ => by
          rw [HWE.out] at h2
          obtain ⟨y, d, rfl⟩ := h2.shape
          exact ⟨y, d, h1, h2, h4⟩)
      have J1 : Hid (∀ wq, Kp Nb w3 wq → Calls Tryz.prog 18 #[.slice pa nA da, .slice pb nB db] wq fun e w' => ∃ y d, e = .returned (.slice y J.length d) ∧ ClSl w' (.slice y J.length d) J ∧ Kp Nb wq w') := hid (fun wq k =>
        (join_any _ _ a b wq (HF.out.ha.kept k) (HF.out.hb.kept k) (by have := HLA.out; omega) (by have := HLA.out; omega)).mono fun e w' ⟨v, h1, h2, _, h4⟩ => by
          rw [HJE.out] at h2
          obtain ⟨y, d, rfl⟩ := h2.shape
          exact ⟨y, d, h1, h2, h4⟩)
      have J2 : Hid (∀ wq, Kp Nb w3 wq → Calls Tryz.prog 19 #[.slice pa nA da, .slice pb nB db] wq fun e w' => ∃ y d, e = .returned (.slice y J.length d) ∧ ClSl w' (.slice y J.length d) J ∧ Kp Nb wq w') := hid (fun wq k =>
        (rjoin_any _ _ a b wq (HF.out.ha.kept k) (HF.out.hb.kept k) (by have := HLA.out; omega) (by have := HLA.out; omega)).mono fun e w' ⟨v, h1, h2, _, h4⟩ => by
          rw [HJE.out] at h2
          obtain ⟨y, d, rfl⟩ := h2.shape
          exact ⟨y, d, h1, h2, h4⟩)
      have O1 : Hid (∀ wq, Kp Nb w3 wq → Calls Tryz.prog 20 #[.slice pa nA da, .int .i64 nd] wq fun e w' => ∃ y d, e = .returned (.slice y O.length d) ∧ ClSl w' (.slice y O.length d) O ∧ Kp Nb wq w') := hid (fun wq k =>
        (of_any _ a nd wq (HF.out.ha.kept k) (by have := HLA.out; omega)).mono fun e w' ⟨v, h1, h2, _, h4⟩ => by
          rw [HOE.out] at h2
          obtain ⟨y, d, rfl⟩ := h2.shape
          exact ⟨y, d, h1, h2, h4⟩)
      have O2 : Hid (∀ wq, Kp Nb w3 wq → Calls Tryz.prog 21 #[.slice pa nA da, .int .i64 nd] wq fun e w' => ∃ y d, e = .returned (.slice y O.length d) ∧ ClSl w' (.slice y O.length d) O ∧ Kp Nb wq w') := hid (fun wq k =>
        (rof_any _ a nd wq (HF.out.ha.kept k) (by have := HLA.out; omega)).mono fun e w' ⟨v, h1, h2, _, h4⟩ => by
          rw [HOE.out] at h2
          obtain ⟨y, d, rfl⟩ := h2.shape
          exact ⟨y, d, h1, h2, h4⟩)
      have CS : Hid (∀ (wq : World) (u v : Value) (c : List RunQ), c.length ≤ 80 → ClSl wq u c → ClSl wq v c → Calls Tryz.prog 15 #[u, v] wq fun e w' => e = .returned (.bool true) ∧ Kp Nb wq w') := hid (fun wq u v c hl hu hv => by
        have C := same_any u v c c wq hu hv (by omega) (by omega)
        rwa [decide_eq_true rfl] at C)
      obtain ⟨nJ, hnJ⟩ : ∃ n, J.length = n := ⟨_, rfl⟩
      obtain ⟨nW, hnW⟩ : ∃ n, Wt.length = n := ⟨_, rfl⟩
      obtain ⟨nO, hnO⟩ : ∃ n, O.length = n := ⟨_, rfl⟩
      rw [hnJ] at J1 J2
      rw [hnW] at W1 W2
      rw [hnO] at O1 O2
      clear hnJ hnW hnO hgb hrc htp hhs hcm hct hsm HT HM HID HL HLE HJE HWE HOE HLA
      have HB0 := hid HF.out.box
      go_wp2_with fail
      refine region_ghost (g0 := (((none, 0), (none, 0), (none, 0), (none, 0), (none, 0), none, 0) : G6)) [none, none, some 86, none, none, none, none, none, none, none, none, none, none, none, none, none, some 0, some 1, some 2, some 3, some 4, some 5, some 6, some 7, some 8, some 9, some 10, some 11, some 12, some 13, some 14, some 15, some 16, some 17, some 18, some 19, some 20, some 21, some 22, some 23, some 24, some 25, some 26, some 27, some 28, some 29, some 30, some 31, some 32, some 33, some 34, some 35, some 36, some 37, some 38, some 39, some 40, some 41, some 42, some 43, some 44, some 45, some 46, some 47, some 48, some 49, some 50, some 51, some 52, some 53, some 54, some 55, some 56, some 57, some 58, some 59, some 60, some 61, some 62, some 63, some 64, some 65, some 66, some 67, some 68, some 69, some 70, some 71, some 72, some 73, some 74, some 75, some 76, some 77, some 78, some 79, some 80, some 81, some 82, some 83, some 84, some 85] [[(5, none)], [(16, some 0)], [(5, none)], [(18, some 2)], [(17, some 1), (19, some 3)], [(20, some 4)], [(3, none)], [(22, some 6)], [(3, none)], [(24, some 8)], [(23, some 7), (25, some 9)], [(21, some 5), (26, some 10)], [(27, some 11)], [(3, none)], [(1, none)], [(30, some 14)], [(29, some 13), (31, some 15)], [(3, none)], [(1, none)], [(34, some 18)], [(33, some 17), (35, some 19)], [(32, some 16), (36, some 20)], [(28, some 12), (37, some 21)], [(38, some 22)], [(3, none)], [(5, none)], [(40, some 24), (41, some 25)], [(3, none)], [(5, none)], [(43, some 27), (44, some 28)], [(42, some 26), (45, some 29)], [(39, some 23), (46, some 30)], [(47, some 31)], [(3, none)], [(5, none)], [(49, some 33), (50, some 34)], [(3, none)], [(5, none)], [(52, some 36), (53, some 37)], [(51, some 35), (54, some 38)], [(48, some 32), (55, some 39)], [(56, some 40)], [(3, none)], [(4, none)], [(58, some 42), (59, some 43)], [(3, none)], [(4, none)], [(61, some 45), (62, some 46)], [(60, some 44), (63, some 47)], [(57, some 41), (64, some 48)], [(65, some 49)], [(3, none)], [(1, none)], [(68, some 52)], [(67, some 51), (69, some 53)], [(3, none)], [(1, none)], [(72, some 56)], [(71, some 55), (73, some 57)], [(70, some 54), (74, some 58)], [(66, some 50), (75, some 59)], [(76, some 60)], [(3, none)], [(4, none)], [(78, some 62), (79, some 63)], [(3, none)], [(4, none)], [(81, some 65), (82, some 66)], [(80, some 64), (83, some 67)], [(77, some 61), (84, some 68)], [(85, some 69)], [(3, none)], [(87, some 71)], [(3, none)], [(89, some 73)], [(88, some 72), (90, some 74)], [(86, some 70), (91, some 75)], [(92, some 76)], [(3, none)], [(4, none)], [(94, some 78), (95, some 79)], [(3, none)], [(4, none)], [(97, some 81), (98, some 82)], [(96, some 80), (99, some 83)], [(93, some 77), (100, some 84)], [(101, some 85)]] [some 16, some 17, some 18, some 19, some 20, some 21, some 22, some 23, some 24, some 25, some 26, some 27, some 28, some 29, some 30, some 31, some 32, some 33, some 34, some 35, some 36, some 37, some 38, some 39, some 40, some 41, some 42, some 43, some 44, some 45, some 46, some 47, some 48, some 49, some 50, some 51, some 52, some 53, some 54, some 55, some 56, some 57, some 58, some 59, some 60, some 61, some 62, some 63, some 64, some 65, some 66, some 67, some 68, some 69, some 70, some 71, some 72, some 73, some 74, some 75, some 76, some 77, some 78, some 79, some 80, some 81, some 82, some 83, some 84, some 85, some 86, some 87, some 88, some 89, some 90, some 91, some 92, some 93, some 94, some 95, some 96, some 97, some 98, some 99, some 100, some 101, some 2] (fun g => [.agg #[.int .i64 dn, .int .i64 dd], .bool gb, .agg #[.int .i64 dn, .int .i64 dd], .bool gb, .bool true, .bool true, .slice pa nA da, .bool rc, .slice pa nA da, .bool rc, .bool true, .bool true, .bool true, .slice pa nA da, .pointer (some ⟨D, 4, none⟩), .int .i64 nd, .int .i64 tp, .slice pa nA da, .pointer (some ⟨D, 4, none⟩), .int .i64 nd, .int .i64 tp, .bool true, .bool true, .bool true, .slice pa nA da, .agg #[.int .i64 dn, .int .i64 dd], .bool hs, .slice pa nA da, .agg #[.int .i64 dn, .int .i64 dd], .bool hs, .bool true, .bool true, .bool true, .slice pa nA da, .agg #[.int .i64 dn, .int .i64 dd], .slice g.1.1 nW g.1.2, .slice pa nA da, .agg #[.int .i64 dn, .int .i64 dd], .slice g.2.1.1 nW g.2.1.2, .bool true, .bool true, .bool true, .slice pa nA da, .slice pb nB db, .slice g.2.2.1.1 nJ g.2.2.1.2, .slice pa nA da, .slice pb nB db, .slice g.2.2.2.1.1 nJ g.2.2.2.1.2, .bool true, .bool true, .bool true, .slice pa nA da, .pointer (some ⟨D, 4, none⟩), .int .i64 nd, .slice g.2.2.2.2.1.1 nO g.2.2.2.2.1.2, .slice pa nA da, .pointer (some ⟨D, 4, none⟩), .int .i64 nd, .slice g.2.2.2.2.2.1 nO g.2.2.2.2.2.2, .bool true, .bool true, .bool true, .slice pa nA da, .slice pb nB db, .int .i64 cm, .slice pa nA da, .slice pb nB db, .int .i64 cm, .bool true, .bool true, .bool true, .slice pa nA da, .int .i64 ct, .slice pa nA da, .int .i64 ct, .bool true, .bool true, .bool true, .slice pa nA da, .slice pb nB db, .bool sm, .slice pa nA da, .slice pb nB db, .bool sm, .bool true, .bool true, .bool true]) [35, 38, 44, 47, 54, 58] (fun bs g wq => Hid (Dc6 w3 Wt J O nW nJ nO bs g wq)) (by kernel_rfl) (by kernel_rfl) (fun g => by kernel_rfl) (by kernel_rfl) ?hS (GFrom.all (n := 87) (by kernel_rfl) ?hstep) ?hend
      case hstep =>
        refine GFrom.cons (GStep.val _ rfl rfl _ rfl (fun g => .agg #[.int .i64 dn, .int .i64 dd]) (fun _ => rfl) (fun _ => trivial) (fun bs g ev wq hS he hr => ?_)) ?_
        · have r0 : ev (.tmp 5) = .pointer (some ⟨M, 0, none⟩) := hr (5, none) (by simp); have hk := he.1; clear hr he
          have c0 : wq.cell? ⟨M, 0, none⟩ = some (.int .i64 dn) := (HM3.out.kept hS.out.kp (fun h => h)).cell 0
          have c1 : wq.cell? ⟨M, 1, none⟩ = some (.int .i64 dd) := (HM3.out.kept hS.out.kp (fun h => h)).cell 1
          go_simp
        refine GFrom.cons (GStep.call _ rfl rfl _ rfl (fun g => .bool gb) (fun _ => rfl) (fun _ => trivial) 7 (fun g => #[.agg #[.int .i64 dn, .int .i64 dd]]) (fun bs g ev wq hS he hr => ?_) (fun L g wq hd hL hS => ?_)) ?_
        · have r0 : ev (.tmp 16) = .agg #[.int .i64 dn, .int .i64 dd] := hr (16, some 0) (by simp); have hk := he.1; have hf := he.2; clear hr he
          go_simp
        · exact (C1.out wq hS.out.kp).mono fun e w' ⟨h1, h2⟩ => ⟨h1, hid (hS.out.kept h2)⟩
        refine GFrom.cons (GStep.val _ rfl rfl _ rfl (fun g => .agg #[.int .i64 dn, .int .i64 dd]) (fun _ => rfl) (fun _ => trivial) (fun bs g ev wq hS he hr => ?_)) ?_
        · have r0 : ev (.tmp 5) = .pointer (some ⟨M, 0, none⟩) := hr (5, none) (by simp); have hk := he.1; clear hr he
          have c0 : wq.cell? ⟨M, 0, none⟩ = some (.int .i64 dn) := (HM3.out.kept hS.out.kp (fun h => h)).cell 0
          have c1 : wq.cell? ⟨M, 1, none⟩ = some (.int .i64 dd) := (HM3.out.kept hS.out.kp (fun h => h)).cell 1
          go_simp
        refine GFrom.cons (GStep.call _ rfl rfl _ rfl (fun g => .bool gb) (fun _ => rfl) (fun _ => trivial) 8 (fun g => #[.agg #[.int .i64 dn, .int .i64 dd]]) (fun bs g ev wq hS he hr => ?_) (fun L g wq hd hL hS => ?_)) ?_
        · have r0 : ev (.tmp 18) = .agg #[.int .i64 dn, .int .i64 dd] := hr (18, some 2) (by simp); have hk := he.1; have hf := he.2; clear hr he
          go_simp
        · exact (C2.out wq hS.out.kp).mono fun e w' ⟨h1, h2⟩ => ⟨h1, hid (hS.out.kept h2)⟩
        refine GFrom.cons (GStep.val _ rfl rfl _ rfl (fun g => .bool true) (fun _ => rfl) (fun _ => trivial) (fun bs g ev wq hS he hr => ?_)) ?_
        · have r0 : ev (.tmp 17) = .bool gb := hr (17, some 1) (by simp); have r1 : ev (.tmp 19) = .bool gb := hr (19, some 3) (by simp); have hk := he.1; clear hr he
          have e1 : (gb == gb) = true := beq_self_eq_true _
          go_simp
        refine GFrom.cons (GStep.val _ rfl rfl _ rfl (fun g => .bool true) (fun _ => rfl) (fun _ => trivial) (fun bs g ev wq hS he hr => ?_)) ?_
        · have r0 : ev (.tmp 20) = .bool true := hr (20, some 4) (by simp); have hk := he.1; clear hr he
          go_simp
        refine GFrom.cons (GStep.val _ rfl rfl _ rfl (fun g => .slice pa nA da) (fun _ => rfl) (fun _ => rfl) (fun bs g ev wq hS he hr => ?_)) ?_
        · have r0 : ev (.tmp 3) = .slice pa nA da := hr (3, none) (by simp); have hk := he.1; clear hr he
          go_simp
        refine GFrom.cons (GStep.call _ rfl rfl _ rfl (fun g => .bool rc) (fun _ => rfl) (fun _ => rfl) 9 (fun g => #[.slice pa nA da]) (fun bs g ev wq hS he hr => ?_) (fun L g wq hd hL hS => ?_)) ?_
        · have r0 : ev (.tmp 22) = .slice pa nA da := hr (22, some 6) (by simp); have hk := he.1; have hf := he.2; clear hr he
          go_simp
        · exact (C3.out wq hS.out.kp).mono fun e w' ⟨h1, h2⟩ => ⟨h1, hid (hS.out.kept h2)⟩
        refine GFrom.cons (GStep.val _ rfl rfl _ rfl (fun g => .slice pa nA da) (fun _ => rfl) (fun _ => rfl) (fun bs g ev wq hS he hr => ?_)) ?_
        · have r0 : ev (.tmp 3) = .slice pa nA da := hr (3, none) (by simp); have hk := he.1; clear hr he
          go_simp
        refine GFrom.cons (GStep.call _ rfl rfl _ rfl (fun g => .bool rc) (fun _ => rfl) (fun _ => rfl) 10 (fun g => #[.slice pa nA da]) (fun bs g ev wq hS he hr => ?_) (fun L g wq hd hL hS => ?_)) ?_
        · have r0 : ev (.tmp 24) = .slice pa nA da := hr (24, some 8) (by simp); have hk := he.1; have hf := he.2; clear hr he
          go_simp
        · exact (C4.out wq hS.out.kp).mono fun e w' ⟨h1, h2⟩ => ⟨h1, hid (hS.out.kept h2)⟩
        refine GFrom.cons (GStep.val _ rfl rfl _ rfl (fun g => .bool true) (fun _ => rfl) (fun _ => rfl) (fun bs g ev wq hS he hr => ?_)) ?_
        · have r0 : ev (.tmp 23) = .bool rc := hr (23, some 7) (by simp); have r1 : ev (.tmp 25) = .bool rc := hr (25, some 9) (by simp); have hk := he.1; clear hr he
          have e1 : (rc == rc) = true := beq_self_eq_true _
          go_simp
        refine GFrom.cons (GStep.val _ rfl rfl _ rfl (fun g => .bool true) (fun _ => rfl) (fun _ => trivial) (fun bs g ev wq hS he hr => ?_)) ?_
        · have r0 : ev (.tmp 21) = .bool true := hr (21, some 5) (by simp); have r1 : ev (.tmp 26) = .bool true := hr (26, some 10) (by simp); have hk := he.1; clear hr he
          go_simp
        refine GFrom.cons (GStep.val _ rfl rfl _ rfl (fun g => .bool true) (fun _ => rfl) (fun _ => trivial) (fun bs g ev wq hS he hr => ?_)) ?_
        · have r0 : ev (.tmp 27) = .bool true := hr (27, some 11) (by simp); have hk := he.1; clear hr he
          go_simp
        refine GFrom.cons (GStep.val _ rfl rfl _ rfl (fun g => .slice pa nA da) (fun _ => rfl) (fun _ => rfl) (fun bs g ev wq hS he hr => ?_)) ?_
        · have r0 : ev (.tmp 3) = .slice pa nA da := hr (3, none) (by simp); have hk := he.1; clear hr he
          go_simp
        refine GFrom.cons (GStep.val _ rfl rfl _ rfl (fun g => .pointer (some ⟨D, 4, none⟩)) (fun _ => rfl) (fun _ => rfl) (fun bs g ev wq hS he hr => ?_)) ?_
        · have r0 : ev (.tmp 1) = .pointer (some ⟨D, 0, none⟩) := hr (1, none) (by simp); have hk := he.1; clear hr he
          go_simp
        refine GFrom.cons (GStep.val _ rfl rfl _ rfl (fun g => .int .i64 nd) (fun _ => rfl) (fun _ => rfl) (fun bs g ev wq hS he hr => ?_)) ?_
        · have r0 : ev (.tmp 30) = .pointer (some ⟨D, 4, none⟩) := hr (30, some 14) (by simp); have hk := he.1; clear hr he
          have c0 : wq.cell? ⟨D, 4, none⟩ = some (.int .i64 nd) := (HB0.out.kept hS.out.kp (fun h => h)).cell 4
          go_simp
        refine GFrom.cons (GStep.call _ rfl rfl _ rfl (fun g => .int .i64 tp) (fun _ => rfl) (fun _ => rfl) 11 (fun g => #[.slice pa nA da, .int .i64 nd]) (fun bs g ev wq hS he hr => ?_) (fun L g wq hd hL hS => ?_)) ?_
        · have r0 : ev (.tmp 29) = .slice pa nA da := hr (29, some 13) (by simp); have r1 : ev (.tmp 31) = .int .i64 nd := hr (31, some 15) (by simp); have hk := he.1; have hf := he.2; clear hr he
          go_simp
        · exact (C5.out wq hS.out.kp).mono fun e w' ⟨h1, h2⟩ => ⟨h1, hid (hS.out.kept h2)⟩
        refine GFrom.cons (GStep.val _ rfl rfl _ rfl (fun g => .slice pa nA da) (fun _ => rfl) (fun _ => rfl) (fun bs g ev wq hS he hr => ?_)) ?_
        · have r0 : ev (.tmp 3) = .slice pa nA da := hr (3, none) (by simp); have hk := he.1; clear hr he
          go_simp
        refine GFrom.cons (GStep.val _ rfl rfl _ rfl (fun g => .pointer (some ⟨D, 4, none⟩)) (fun _ => rfl) (fun _ => rfl) (fun bs g ev wq hS he hr => ?_)) ?_
        · have r0 : ev (.tmp 1) = .pointer (some ⟨D, 0, none⟩) := hr (1, none) (by simp); have hk := he.1; clear hr he
          go_simp
        refine GFrom.cons (GStep.val _ rfl rfl _ rfl (fun g => .int .i64 nd) (fun _ => rfl) (fun _ => rfl) (fun bs g ev wq hS he hr => ?_)) ?_
        · have r0 : ev (.tmp 34) = .pointer (some ⟨D, 4, none⟩) := hr (34, some 18) (by simp); have hk := he.1; clear hr he
          have c0 : wq.cell? ⟨D, 4, none⟩ = some (.int .i64 nd) := (HB0.out.kept hS.out.kp (fun h => h)).cell 4
          go_simp
        refine GFrom.cons (GStep.call _ rfl rfl _ rfl (fun g => .int .i64 tp) (fun _ => rfl) (fun _ => rfl) 12 (fun g => #[.slice pa nA da, .int .i64 nd]) (fun bs g ev wq hS he hr => ?_) (fun L g wq hd hL hS => ?_)) ?_
        · have r0 : ev (.tmp 33) = .slice pa nA da := hr (33, some 17) (by simp); have r1 : ev (.tmp 35) = .int .i64 nd := hr (35, some 19) (by simp); have hk := he.1; have hf := he.2; clear hr he
          go_simp
        · exact (C6.out wq hS.out.kp).mono fun e w' ⟨h1, h2⟩ => ⟨h1, hid (hS.out.kept h2)⟩
        refine GFrom.cons (GStep.val _ rfl rfl _ rfl (fun g => .bool true) (fun _ => rfl) (fun _ => rfl) (fun bs g ev wq hS he hr => ?_)) ?_
        · have r0 : ev (.tmp 32) = .int .i64 tp := hr (32, some 16) (by simp); have r1 : ev (.tmp 36) = .int .i64 tp := hr (36, some 20) (by simp); have hk := he.1; clear hr he
          have e1 : (tp == tp) = true := beq_self_eq_true _
          go_simp
        refine GFrom.cons (GStep.val _ rfl rfl _ rfl (fun g => .bool true) (fun _ => rfl) (fun _ => trivial) (fun bs g ev wq hS he hr => ?_)) ?_
        · have r0 : ev (.tmp 28) = .bool true := hr (28, some 12) (by simp); have r1 : ev (.tmp 37) = .bool true := hr (37, some 21) (by simp); have hk := he.1; clear hr he
          go_simp
        refine GFrom.cons (GStep.val _ rfl rfl _ rfl (fun g => .bool true) (fun _ => rfl) (fun _ => trivial) (fun bs g ev wq hS he hr => ?_)) ?_
        · have r0 : ev (.tmp 38) = .bool true := hr (38, some 22) (by simp); have hk := he.1; clear hr he
          go_simp
        refine GFrom.cons (GStep.val _ rfl rfl _ rfl (fun g => .slice pa nA da) (fun _ => rfl) (fun _ => rfl) (fun bs g ev wq hS he hr => ?_)) ?_
        · have r0 : ev (.tmp 3) = .slice pa nA da := hr (3, none) (by simp); have hk := he.1; clear hr he
          go_simp
        refine GFrom.cons (GStep.val _ rfl rfl _ rfl (fun g => .agg #[.int .i64 dn, .int .i64 dd]) (fun _ => rfl) (fun _ => rfl) (fun bs g ev wq hS he hr => ?_)) ?_
        · have r0 : ev (.tmp 5) = .pointer (some ⟨M, 0, none⟩) := hr (5, none) (by simp); have hk := he.1; clear hr he
          have c0 : wq.cell? ⟨M, 0, none⟩ = some (.int .i64 dn) := (HM3.out.kept hS.out.kp (fun h => h)).cell 0
          have c1 : wq.cell? ⟨M, 1, none⟩ = some (.int .i64 dd) := (HM3.out.kept hS.out.kp (fun h => h)).cell 1
          go_simp
        refine GFrom.cons (GStep.call _ rfl rfl _ rfl (fun g => .bool hs) (fun _ => rfl) (fun _ => rfl) 13 (fun g => #[.slice pa nA da, .agg #[.int .i64 dn, .int .i64 dd]]) (fun bs g ev wq hS he hr => ?_) (fun L g wq hd hL hS => ?_)) ?_
        · have r0 : ev (.tmp 40) = .slice pa nA da := hr (40, some 24) (by simp); have r1 : ev (.tmp 41) = .agg #[.int .i64 dn, .int .i64 dd] := hr (41, some 25) (by simp); have hk := he.1; have hf := he.2; clear hr he
          go_simp
        · exact (C7.out wq hS.out.kp).mono fun e w' ⟨h1, h2⟩ => ⟨h1, hid (hS.out.kept h2)⟩
        refine GFrom.cons (GStep.val _ rfl rfl _ rfl (fun g => .slice pa nA da) (fun _ => rfl) (fun _ => rfl) (fun bs g ev wq hS he hr => ?_)) ?_
        · have r0 : ev (.tmp 3) = .slice pa nA da := hr (3, none) (by simp); have hk := he.1; clear hr he
          go_simp
        refine GFrom.cons (GStep.val _ rfl rfl _ rfl (fun g => .agg #[.int .i64 dn, .int .i64 dd]) (fun _ => rfl) (fun _ => rfl) (fun bs g ev wq hS he hr => ?_)) ?_
        · have r0 : ev (.tmp 5) = .pointer (some ⟨M, 0, none⟩) := hr (5, none) (by simp); have hk := he.1; clear hr he
          have c0 : wq.cell? ⟨M, 0, none⟩ = some (.int .i64 dn) := (HM3.out.kept hS.out.kp (fun h => h)).cell 0
          have c1 : wq.cell? ⟨M, 1, none⟩ = some (.int .i64 dd) := (HM3.out.kept hS.out.kp (fun h => h)).cell 1
          go_simp
        refine GFrom.cons (GStep.call _ rfl rfl _ rfl (fun g => .bool hs) (fun _ => rfl) (fun _ => rfl) 14 (fun g => #[.slice pa nA da, .agg #[.int .i64 dn, .int .i64 dd]]) (fun bs g ev wq hS he hr => ?_) (fun L g wq hd hL hS => ?_)) ?_
        · have r0 : ev (.tmp 43) = .slice pa nA da := hr (43, some 27) (by simp); have r1 : ev (.tmp 44) = .agg #[.int .i64 dn, .int .i64 dd] := hr (44, some 28) (by simp); have hk := he.1; have hf := he.2; clear hr he
          go_simp
        · exact (C8.out wq hS.out.kp).mono fun e w' ⟨h1, h2⟩ => ⟨h1, hid (hS.out.kept h2)⟩
        refine GFrom.cons (GStep.val _ rfl rfl _ rfl (fun g => .bool true) (fun _ => rfl) (fun _ => rfl) (fun bs g ev wq hS he hr => ?_)) ?_
        · have r0 : ev (.tmp 42) = .bool hs := hr (42, some 26) (by simp); have r1 : ev (.tmp 45) = .bool hs := hr (45, some 29) (by simp); have hk := he.1; clear hr he
          have e1 : (hs == hs) = true := beq_self_eq_true _
          go_simp
        refine GFrom.cons (GStep.val _ rfl rfl _ rfl (fun g => .bool true) (fun _ => rfl) (fun _ => trivial) (fun bs g ev wq hS he hr => ?_)) ?_
        · have r0 : ev (.tmp 39) = .bool true := hr (39, some 23) (by simp); have r1 : ev (.tmp 46) = .bool true := hr (46, some 30) (by simp); have hk := he.1; clear hr he
          go_simp
        refine GFrom.cons (GStep.val _ rfl rfl _ rfl (fun g => .bool true) (fun _ => rfl) (fun _ => trivial) (fun bs g ev wq hS he hr => ?_)) ?_
        · have r0 : ev (.tmp 47) = .bool true := hr (47, some 31) (by simp); have hk := he.1; clear hr he
          go_simp
        refine GFrom.cons (GStep.val _ rfl rfl _ rfl (fun g => .slice pa nA da) (fun _ => rfl) (fun _ => rfl) (fun bs g ev wq hS he hr => ?_)) ?_
        · have r0 : ev (.tmp 3) = .slice pa nA da := hr (3, none) (by simp); have hk := he.1; clear hr he
          go_simp
        refine GFrom.cons (GStep.val _ rfl rfl _ rfl (fun g => .agg #[.int .i64 dn, .int .i64 dd]) (fun _ => rfl) (fun _ => rfl) (fun bs g ev wq hS he hr => ?_)) ?_
        · have r0 : ev (.tmp 5) = .pointer (some ⟨M, 0, none⟩) := hr (5, none) (by simp); have hk := he.1; clear hr he
          have c0 : wq.cell? ⟨M, 0, none⟩ = some (.int .i64 dn) := (HM3.out.kept hS.out.kp (fun h => h)).cell 0
          have c1 : wq.cell? ⟨M, 1, none⟩ = some (.int .i64 dd) := (HM3.out.kept hS.out.kp (fun h => h)).cell 1
          go_simp
        refine GFrom.cons (GStep.callm _ rfl _ rfl (fun _ => rfl) 16 (fun g => #[.slice pa nA da, .agg #[.int .i64 dn, .int .i64 dd]]) (fun bs g ev wq hS he hr => ?_) (fun Lx g wq hL hd hcl hS => ?_)) ?_
        · have r0 : ev (.tmp 49) = .slice pa nA da := hr (49, some 33) (by simp); have r1 : ev (.tmp 50) = .agg #[.int .i64 dn, .int .i64 dd] := hr (50, some 34) (by simp); have hk := he.1; have hf := he.2; clear hr he
          go_simp
        · have e : bitsAt [35, 38, 44, 47, 54, 58] Lx = [false, Lx 38, Lx 44, Lx 47, Lx 54, Lx 58] := by simp [bitsAt, hL]
          have e2 : bitsAt [35, 38, 44, 47, 54, 58] (upd Lx 35) = [true, Lx 38, Lx 44, Lx 47, Lx 54, Lx 58] := by simp [bitsAt, upd]
          rw [e] at hS
          refine (W1.out wq hS.out.kp).mono ?_
          rintro e' w' ⟨y, d, rfl, h2, h3⟩
          exact ⟨.slice y nW d, ((y, d), g.2), rfl, rfl, old_setD _ hL rfl, by rw [e2]; exact hid (hS.out.put0 h2 h3)⟩
        refine GFrom.cons (GStep.val _ rfl rfl _ rfl (fun g => .slice pa nA da) (fun _ => rfl) (fun _ => rfl) (fun bs g ev wq hS he hr => ?_)) ?_
        · have r0 : ev (.tmp 3) = .slice pa nA da := hr (3, none) (by simp); have hk := he.1; clear hr he
          go_simp
        refine GFrom.cons (GStep.val _ rfl rfl _ rfl (fun g => .agg #[.int .i64 dn, .int .i64 dd]) (fun _ => rfl) (fun _ => rfl) (fun bs g ev wq hS he hr => ?_)) ?_
        · have r0 : ev (.tmp 5) = .pointer (some ⟨M, 0, none⟩) := hr (5, none) (by simp); have hk := he.1; clear hr he
          have c0 : wq.cell? ⟨M, 0, none⟩ = some (.int .i64 dn) := (HM3.out.kept hS.out.kp (fun h => h)).cell 0
          have c1 : wq.cell? ⟨M, 1, none⟩ = some (.int .i64 dd) := (HM3.out.kept hS.out.kp (fun h => h)).cell 1
          go_simp
        refine GFrom.cons (GStep.callm _ rfl _ rfl (fun _ => rfl) 17 (fun g => #[.slice pa nA da, .agg #[.int .i64 dn, .int .i64 dd]]) (fun bs g ev wq hS he hr => ?_) (fun Lx g wq hL hd hcl hS => ?_)) ?_
        · have r0 : ev (.tmp 52) = .slice pa nA da := hr (52, some 36) (by simp); have r1 : ev (.tmp 53) = .agg #[.int .i64 dn, .int .i64 dd] := hr (53, some 37) (by simp); have hk := he.1; have hf := he.2; clear hr he
          go_simp
        · have e : bitsAt [35, 38, 44, 47, 54, 58] Lx = [Lx 35, false, Lx 44, Lx 47, Lx 54, Lx 58] := by simp [bitsAt, hL]
          have e2 : bitsAt [35, 38, 44, 47, 54, 58] (upd Lx 38) = [Lx 35, true, Lx 44, Lx 47, Lx 54, Lx 58] := by simp [bitsAt, upd]
          rw [e] at hS
          refine (W2.out wq hS.out.kp).mono ?_
          rintro e' w' ⟨y, d, rfl, h2, h3⟩
          exact ⟨.slice y nW d, (g.1, (y, d), g.2.2), rfl, rfl, old_setD _ hL rfl, by rw [e2]; exact hid (hS.out.put1 h2 h3)⟩
        refine GFrom.cons (GStep.call _ rfl rfl _ rfl (fun g => .bool true) (fun _ => rfl) (fun _ => rfl) 15 (fun g => #[.slice g.1.1 nW g.1.2, .slice g.2.1.1 nW g.2.1.2]) (fun bs g ev wq hS he hr => ?_) (fun L g wq hd hL hS => ?_)) ?_
        · have r0 : ev (.tmp 51) = .slice g.1.1 nW g.1.2 := hr (51, some 35) (by simp); have r1 : ev (.tmp 54) = .slice g.2.1.1 nW g.2.1.2 := hr (54, some 38) (by simp); have hk := he.1; have hf := he.2; clear hr he
          go_simp
        · have l0 := hd 35 (by kernel_rfl); have l1 := hd 38 (by kernel_rfl); exact (CS.out wq _ _ _ HWL.out (hS.out.c0 (by simp [bitsAt, l0])) (hS.out.c1 (by simp [bitsAt, l1]))).mono fun e w' ⟨h1, h2⟩ => ⟨h1, hid (hS.out.kept h2)⟩
        refine GFrom.cons (GStep.val _ rfl rfl _ rfl (fun g => .bool true) (fun _ => rfl) (fun _ => trivial) (fun bs g ev wq hS he hr => ?_)) ?_
        · have r0 : ev (.tmp 48) = .bool true := hr (48, some 32) (by simp); have r1 : ev (.tmp 55) = .bool true := hr (55, some 39) (by simp); have hk := he.1; clear hr he
          go_simp
        refine GFrom.cons (GStep.val _ rfl rfl _ rfl (fun g => .bool true) (fun _ => rfl) (fun _ => trivial) (fun bs g ev wq hS he hr => ?_)) ?_
        · have r0 : ev (.tmp 56) = .bool true := hr (56, some 40) (by simp); have hk := he.1; clear hr he
          go_simp
        refine GFrom.cons (GStep.val _ rfl rfl _ rfl (fun g => .slice pa nA da) (fun _ => rfl) (fun _ => rfl) (fun bs g ev wq hS he hr => ?_)) ?_
        · have r0 : ev (.tmp 3) = .slice pa nA da := hr (3, none) (by simp); have hk := he.1; clear hr he
          go_simp
        refine GFrom.cons (GStep.val _ rfl rfl _ rfl (fun g => .slice pb nB db) (fun _ => rfl) (fun _ => rfl) (fun bs g ev wq hS he hr => ?_)) ?_
        · have r0 : ev (.tmp 4) = .slice pb nB db := hr (4, none) (by simp); have hk := he.1; clear hr he
          go_simp
        refine GFrom.cons (GStep.callm _ rfl _ rfl (fun _ => rfl) 18 (fun g => #[.slice pa nA da, .slice pb nB db]) (fun bs g ev wq hS he hr => ?_) (fun Lx g wq hL hd hcl hS => ?_)) ?_
        · have r0 : ev (.tmp 58) = .slice pa nA da := hr (58, some 42) (by simp); have r1 : ev (.tmp 59) = .slice pb nB db := hr (59, some 43) (by simp); have hk := he.1; have hf := he.2; clear hr he
          go_simp
        · have e : bitsAt [35, 38, 44, 47, 54, 58] Lx = [Lx 35, Lx 38, false, Lx 47, Lx 54, Lx 58] := by simp [bitsAt, hL]
          have e2 : bitsAt [35, 38, 44, 47, 54, 58] (upd Lx 44) = [Lx 35, Lx 38, true, Lx 47, Lx 54, Lx 58] := by simp [bitsAt, upd]
          rw [e] at hS
          refine (J1.out wq hS.out.kp).mono ?_
          rintro e' w' ⟨y, d, rfl, h2, h3⟩
          exact ⟨.slice y nJ d, (g.1, g.2.1, (y, d), g.2.2.2), rfl, rfl, old_setD _ hL rfl, by rw [e2]; exact hid (hS.out.put2 h2 h3)⟩
        refine GFrom.cons (GStep.val _ rfl rfl _ rfl (fun g => .slice pa nA da) (fun _ => rfl) (fun _ => rfl) (fun bs g ev wq hS he hr => ?_)) ?_
        · have r0 : ev (.tmp 3) = .slice pa nA da := hr (3, none) (by simp); have hk := he.1; clear hr he
          go_simp
        refine GFrom.cons (GStep.val _ rfl rfl _ rfl (fun g => .slice pb nB db) (fun _ => rfl) (fun _ => rfl) (fun bs g ev wq hS he hr => ?_)) ?_
        · have r0 : ev (.tmp 4) = .slice pb nB db := hr (4, none) (by simp); have hk := he.1; clear hr he
          go_simp
        refine GFrom.cons (GStep.callm _ rfl _ rfl (fun _ => rfl) 19 (fun g => #[.slice pa nA da, .slice pb nB db]) (fun bs g ev wq hS he hr => ?_) (fun Lx g wq hL hd hcl hS => ?_)) ?_
        · have r0 : ev (.tmp 61) = .slice pa nA da := hr (61, some 45) (by simp); have r1 : ev (.tmp 62) = .slice pb nB db := hr (62, some 46) (by simp); have hk := he.1; have hf := he.2; clear hr he
          go_simp
        · have e : bitsAt [35, 38, 44, 47, 54, 58] Lx = [Lx 35, Lx 38, Lx 44, false, Lx 54, Lx 58] := by simp [bitsAt, hL]
          have e2 : bitsAt [35, 38, 44, 47, 54, 58] (upd Lx 47) = [Lx 35, Lx 38, Lx 44, true, Lx 54, Lx 58] := by simp [bitsAt, upd]
          rw [e] at hS
          refine (J2.out wq hS.out.kp).mono ?_
          rintro e' w' ⟨y, d, rfl, h2, h3⟩
          exact ⟨.slice y nJ d, (g.1, g.2.1, g.2.2.1, (y, d), g.2.2.2.2), rfl, rfl, old_setD _ hL rfl, by rw [e2]; exact hid (hS.out.put3 h2 h3)⟩
        refine GFrom.cons (GStep.call _ rfl rfl _ rfl (fun g => .bool true) (fun _ => rfl) (fun _ => rfl) 15 (fun g => #[.slice g.2.2.1.1 nJ g.2.2.1.2, .slice g.2.2.2.1.1 nJ g.2.2.2.1.2]) (fun bs g ev wq hS he hr => ?_) (fun L g wq hd hL hS => ?_)) ?_
        · have r0 : ev (.tmp 60) = .slice g.2.2.1.1 nJ g.2.2.1.2 := hr (60, some 44) (by simp); have r1 : ev (.tmp 63) = .slice g.2.2.2.1.1 nJ g.2.2.2.1.2 := hr (63, some 47) (by simp); have hk := he.1; have hf := he.2; clear hr he
          go_simp
        · have l0 := hd 44 (by kernel_rfl); have l1 := hd 47 (by kernel_rfl); exact (CS.out wq _ _ _ HJL.out (hS.out.c2 (by simp [bitsAt, l0])) (hS.out.c3 (by simp [bitsAt, l1]))).mono fun e w' ⟨h1, h2⟩ => ⟨h1, hid (hS.out.kept h2)⟩
        refine GFrom.cons (GStep.val _ rfl rfl _ rfl (fun g => .bool true) (fun _ => rfl) (fun _ => trivial) (fun bs g ev wq hS he hr => ?_)) ?_
        · have r0 : ev (.tmp 57) = .bool true := hr (57, some 41) (by simp); have r1 : ev (.tmp 64) = .bool true := hr (64, some 48) (by simp); have hk := he.1; clear hr he
          go_simp
        refine GFrom.cons (GStep.val _ rfl rfl _ rfl (fun g => .bool true) (fun _ => rfl) (fun _ => trivial) (fun bs g ev wq hS he hr => ?_)) ?_
        · have r0 : ev (.tmp 65) = .bool true := hr (65, some 49) (by simp); have hk := he.1; clear hr he
          go_simp
        refine GFrom.cons (GStep.val _ rfl rfl _ rfl (fun g => .slice pa nA da) (fun _ => rfl) (fun _ => rfl) (fun bs g ev wq hS he hr => ?_)) ?_
        · have r0 : ev (.tmp 3) = .slice pa nA da := hr (3, none) (by simp); have hk := he.1; clear hr he
          go_simp
        refine GFrom.cons (GStep.val _ rfl rfl _ rfl (fun g => .pointer (some ⟨D, 4, none⟩)) (fun _ => rfl) (fun _ => rfl) (fun bs g ev wq hS he hr => ?_)) ?_
        · have r0 : ev (.tmp 1) = .pointer (some ⟨D, 0, none⟩) := hr (1, none) (by simp); have hk := he.1; clear hr he
          go_simp
        refine GFrom.cons (GStep.val _ rfl rfl _ rfl (fun g => .int .i64 nd) (fun _ => rfl) (fun _ => rfl) (fun bs g ev wq hS he hr => ?_)) ?_
        · have r0 : ev (.tmp 68) = .pointer (some ⟨D, 4, none⟩) := hr (68, some 52) (by simp); have hk := he.1; clear hr he
          have c0 : wq.cell? ⟨D, 4, none⟩ = some (.int .i64 nd) := (HB0.out.kept hS.out.kp (fun h => h)).cell 4
          go_simp
        refine GFrom.cons (GStep.callm _ rfl _ rfl (fun _ => rfl) 20 (fun g => #[.slice pa nA da, .int .i64 nd]) (fun bs g ev wq hS he hr => ?_) (fun Lx g wq hL hd hcl hS => ?_)) ?_
        · have r0 : ev (.tmp 67) = .slice pa nA da := hr (67, some 51) (by simp); have r1 : ev (.tmp 69) = .int .i64 nd := hr (69, some 53) (by simp); have hk := he.1; have hf := he.2; clear hr he
          go_simp
        · have e : bitsAt [35, 38, 44, 47, 54, 58] Lx = [Lx 35, Lx 38, Lx 44, Lx 47, false, Lx 58] := by simp [bitsAt, hL]
          have e2 : bitsAt [35, 38, 44, 47, 54, 58] (upd Lx 54) = [Lx 35, Lx 38, Lx 44, Lx 47, true, Lx 58] := by simp [bitsAt, upd]
          rw [e] at hS
          refine (O1.out wq hS.out.kp).mono ?_
          rintro e' w' ⟨y, d, rfl, h2, h3⟩
          exact ⟨.slice y nO d, (g.1, g.2.1, g.2.2.1, g.2.2.2.1, (y, d), g.2.2.2.2.2), rfl, rfl, old_setD _ hL rfl, by rw [e2]; exact hid (hS.out.put4 h2 h3)⟩
        refine GFrom.cons (GStep.val _ rfl rfl _ rfl (fun g => .slice pa nA da) (fun _ => rfl) (fun _ => rfl) (fun bs g ev wq hS he hr => ?_)) ?_
        · have r0 : ev (.tmp 3) = .slice pa nA da := hr (3, none) (by simp); have hk := he.1; clear hr he
          go_simp
        refine GFrom.cons (GStep.val _ rfl rfl _ rfl (fun g => .pointer (some ⟨D, 4, none⟩)) (fun _ => rfl) (fun _ => rfl) (fun bs g ev wq hS he hr => ?_)) ?_
        · have r0 : ev (.tmp 1) = .pointer (some ⟨D, 0, none⟩) := hr (1, none) (by simp); have hk := he.1; clear hr he
          go_simp
        refine GFrom.cons (GStep.val _ rfl rfl _ rfl (fun g => .int .i64 nd) (fun _ => rfl) (fun _ => rfl) (fun bs g ev wq hS he hr => ?_)) ?_
        · have r0 : ev (.tmp 72) = .pointer (some ⟨D, 4, none⟩) := hr (72, some 56) (by simp); have hk := he.1; clear hr he
          have c0 : wq.cell? ⟨D, 4, none⟩ = some (.int .i64 nd) := (HB0.out.kept hS.out.kp (fun h => h)).cell 4
          go_simp
        refine GFrom.cons (GStep.callm _ rfl _ rfl (fun _ => rfl) 21 (fun g => #[.slice pa nA da, .int .i64 nd]) (fun bs g ev wq hS he hr => ?_) (fun Lx g wq hL hd hcl hS => ?_)) ?_
        · have r0 : ev (.tmp 71) = .slice pa nA da := hr (71, some 55) (by simp); have r1 : ev (.tmp 73) = .int .i64 nd := hr (73, some 57) (by simp); have hk := he.1; have hf := he.2; clear hr he
          go_simp
        · have e : bitsAt [35, 38, 44, 47, 54, 58] Lx = [Lx 35, Lx 38, Lx 44, Lx 47, Lx 54, false] := by simp [bitsAt, hL]
          have e2 : bitsAt [35, 38, 44, 47, 54, 58] (upd Lx 58) = [Lx 35, Lx 38, Lx 44, Lx 47, Lx 54, true] := by simp [bitsAt, upd]
          rw [e] at hS
          refine (O2.out wq hS.out.kp).mono ?_
          rintro e' w' ⟨y, d, rfl, h2, h3⟩
          exact ⟨.slice y nO d, (g.1, g.2.1, g.2.2.1, g.2.2.2.1, g.2.2.2.2.1, (y, d)), rfl, rfl, old_setD _ hL rfl, by rw [e2]; exact hid (hS.out.put5 h2 h3)⟩
        refine GFrom.cons (GStep.call _ rfl rfl _ rfl (fun g => .bool true) (fun _ => rfl) (fun _ => rfl) 15 (fun g => #[.slice g.2.2.2.2.1.1 nO g.2.2.2.2.1.2, .slice g.2.2.2.2.2.1 nO g.2.2.2.2.2.2]) (fun bs g ev wq hS he hr => ?_) (fun L g wq hd hL hS => ?_)) ?_
        · have r0 : ev (.tmp 70) = .slice g.2.2.2.2.1.1 nO g.2.2.2.2.1.2 := hr (70, some 54) (by simp); have r1 : ev (.tmp 74) = .slice g.2.2.2.2.2.1 nO g.2.2.2.2.2.2 := hr (74, some 58) (by simp); have hk := he.1; have hf := he.2; clear hr he
          go_simp
        · have l0 := hd 54 (by kernel_rfl); have l1 := hd 58 (by kernel_rfl); exact (CS.out wq _ _ _ HOL.out (hS.out.c4 (by simp [bitsAt, l0])) (hS.out.c5 (by simp [bitsAt, l1]))).mono fun e w' ⟨h1, h2⟩ => ⟨h1, hid (hS.out.kept h2)⟩
        refine GFrom.cons (GStep.val _ rfl rfl _ rfl (fun g => .bool true) (fun _ => rfl) (fun _ => trivial) (fun bs g ev wq hS he hr => ?_)) ?_
        · have r0 : ev (.tmp 66) = .bool true := hr (66, some 50) (by simp); have r1 : ev (.tmp 75) = .bool true := hr (75, some 59) (by simp); have hk := he.1; clear hr he
          go_simp
        refine GFrom.cons (GStep.val _ rfl rfl _ rfl (fun g => .bool true) (fun _ => rfl) (fun _ => trivial) (fun bs g ev wq hS he hr => ?_)) ?_
        · have r0 : ev (.tmp 76) = .bool true := hr (76, some 60) (by simp); have hk := he.1; clear hr he
          go_simp
        refine GFrom.cons (GStep.val _ rfl rfl _ rfl (fun g => .slice pa nA da) (fun _ => rfl) (fun _ => rfl) (fun bs g ev wq hS he hr => ?_)) ?_
        · have r0 : ev (.tmp 3) = .slice pa nA da := hr (3, none) (by simp); have hk := he.1; clear hr he
          go_simp
        refine GFrom.cons (GStep.val _ rfl rfl _ rfl (fun g => .slice pb nB db) (fun _ => rfl) (fun _ => rfl) (fun bs g ev wq hS he hr => ?_)) ?_
        · have r0 : ev (.tmp 4) = .slice pb nB db := hr (4, none) (by simp); have hk := he.1; clear hr he
          go_simp
        refine GFrom.cons (GStep.call _ rfl rfl _ rfl (fun g => .int .i64 cm) (fun _ => rfl) (fun _ => rfl) 22 (fun g => #[.slice pa nA da, .slice pb nB db]) (fun bs g ev wq hS he hr => ?_) (fun L g wq hd hL hS => ?_)) ?_
        · have r0 : ev (.tmp 78) = .slice pa nA da := hr (78, some 62) (by simp); have r1 : ev (.tmp 79) = .slice pb nB db := hr (79, some 63) (by simp); have hk := he.1; have hf := he.2; clear hr he
          go_simp
        · exact (C9.out wq hS.out.kp).mono fun e w' ⟨h1, h2⟩ => ⟨h1, hid (hS.out.kept h2)⟩
        refine GFrom.cons (GStep.val _ rfl rfl _ rfl (fun g => .slice pa nA da) (fun _ => rfl) (fun _ => rfl) (fun bs g ev wq hS he hr => ?_)) ?_
        · have r0 : ev (.tmp 3) = .slice pa nA da := hr (3, none) (by simp); have hk := he.1; clear hr he
          go_simp
        refine GFrom.cons (GStep.val _ rfl rfl _ rfl (fun g => .slice pb nB db) (fun _ => rfl) (fun _ => rfl) (fun bs g ev wq hS he hr => ?_)) ?_
        · have r0 : ev (.tmp 4) = .slice pb nB db := hr (4, none) (by simp); have hk := he.1; clear hr he
          go_simp
        refine GFrom.cons (GStep.call _ rfl rfl _ rfl (fun g => .int .i64 cm) (fun _ => rfl) (fun _ => rfl) 23 (fun g => #[.slice pa nA da, .slice pb nB db]) (fun bs g ev wq hS he hr => ?_) (fun L g wq hd hL hS => ?_)) ?_
        · have r0 : ev (.tmp 81) = .slice pa nA da := hr (81, some 65) (by simp); have r1 : ev (.tmp 82) = .slice pb nB db := hr (82, some 66) (by simp); have hk := he.1; have hf := he.2; clear hr he
          go_simp
        · exact (C10.out wq hS.out.kp).mono fun e w' ⟨h1, h2⟩ => ⟨h1, hid (hS.out.kept h2)⟩
        refine GFrom.cons (GStep.val _ rfl rfl _ rfl (fun g => .bool true) (fun _ => rfl) (fun _ => rfl) (fun bs g ev wq hS he hr => ?_)) ?_
        · have r0 : ev (.tmp 80) = .int .i64 cm := hr (80, some 64) (by simp); have r1 : ev (.tmp 83) = .int .i64 cm := hr (83, some 67) (by simp); have hk := he.1; clear hr he
          have e1 : (cm == cm) = true := beq_self_eq_true _
          go_simp
        refine GFrom.cons (GStep.val _ rfl rfl _ rfl (fun g => .bool true) (fun _ => rfl) (fun _ => trivial) (fun bs g ev wq hS he hr => ?_)) ?_
        · have r0 : ev (.tmp 77) = .bool true := hr (77, some 61) (by simp); have r1 : ev (.tmp 84) = .bool true := hr (84, some 68) (by simp); have hk := he.1; clear hr he
          go_simp
        refine GFrom.cons (GStep.val _ rfl rfl _ rfl (fun g => .bool true) (fun _ => rfl) (fun _ => trivial) (fun bs g ev wq hS he hr => ?_)) ?_
        · have r0 : ev (.tmp 85) = .bool true := hr (85, some 69) (by simp); have hk := he.1; clear hr he
          go_simp
        refine GFrom.cons (GStep.val _ rfl rfl _ rfl (fun g => .slice pa nA da) (fun _ => rfl) (fun _ => rfl) (fun bs g ev wq hS he hr => ?_)) ?_
        · have r0 : ev (.tmp 3) = .slice pa nA da := hr (3, none) (by simp); have hk := he.1; clear hr he
          go_simp
        refine GFrom.cons (GStep.call _ rfl rfl _ rfl (fun g => .int .i64 ct) (fun _ => rfl) (fun _ => rfl) 24 (fun g => #[.slice pa nA da]) (fun bs g ev wq hS he hr => ?_) (fun L g wq hd hL hS => ?_)) ?_
        · have r0 : ev (.tmp 87) = .slice pa nA da := hr (87, some 71) (by simp); have hk := he.1; have hf := he.2; clear hr he
          go_simp
        · exact (C11.out wq hS.out.kp).mono fun e w' ⟨h1, h2⟩ => ⟨h1, hid (hS.out.kept h2)⟩
        refine GFrom.cons (GStep.val _ rfl rfl _ rfl (fun g => .slice pa nA da) (fun _ => rfl) (fun _ => rfl) (fun bs g ev wq hS he hr => ?_)) ?_
        · have r0 : ev (.tmp 3) = .slice pa nA da := hr (3, none) (by simp); have hk := he.1; clear hr he
          go_simp
        refine GFrom.cons (GStep.call _ rfl rfl _ rfl (fun g => .int .i64 ct) (fun _ => rfl) (fun _ => rfl) 25 (fun g => #[.slice pa nA da]) (fun bs g ev wq hS he hr => ?_) (fun L g wq hd hL hS => ?_)) ?_
        · have r0 : ev (.tmp 89) = .slice pa nA da := hr (89, some 73) (by simp); have hk := he.1; have hf := he.2; clear hr he
          go_simp
        · exact (C12.out wq hS.out.kp).mono fun e w' ⟨h1, h2⟩ => ⟨h1, hid (hS.out.kept h2)⟩
        refine GFrom.cons (GStep.val _ rfl rfl _ rfl (fun g => .bool true) (fun _ => rfl) (fun _ => rfl) (fun bs g ev wq hS he hr => ?_)) ?_
        · have r0 : ev (.tmp 88) = .int .i64 ct := hr (88, some 72) (by simp); have r1 : ev (.tmp 90) = .int .i64 ct := hr (90, some 74) (by simp); have hk := he.1; clear hr he
          have e1 : (ct == ct) = true := beq_self_eq_true _
          go_simp
        refine GFrom.cons (GStep.val _ rfl rfl _ rfl (fun g => .bool true) (fun _ => rfl) (fun _ => trivial) (fun bs g ev wq hS he hr => ?_)) ?_
        · have r0 : ev (.tmp 86) = .bool true := hr (86, some 70) (by simp); have r1 : ev (.tmp 91) = .bool true := hr (91, some 75) (by simp); have hk := he.1; clear hr he
          go_simp
        refine GFrom.cons (GStep.val _ rfl rfl _ rfl (fun g => .bool true) (fun _ => rfl) (fun _ => trivial) (fun bs g ev wq hS he hr => ?_)) ?_
        · have r0 : ev (.tmp 92) = .bool true := hr (92, some 76) (by simp); have hk := he.1; clear hr he
          go_simp
        refine GFrom.cons (GStep.val _ rfl rfl _ rfl (fun g => .slice pa nA da) (fun _ => rfl) (fun _ => rfl) (fun bs g ev wq hS he hr => ?_)) ?_
        · have r0 : ev (.tmp 3) = .slice pa nA da := hr (3, none) (by simp); have hk := he.1; clear hr he
          go_simp
        refine GFrom.cons (GStep.val _ rfl rfl _ rfl (fun g => .slice pb nB db) (fun _ => rfl) (fun _ => rfl) (fun bs g ev wq hS he hr => ?_)) ?_
        · have r0 : ev (.tmp 4) = .slice pb nB db := hr (4, none) (by simp); have hk := he.1; clear hr he
          go_simp
        refine GFrom.cons (GStep.call _ rfl rfl _ rfl (fun g => .bool sm) (fun _ => rfl) (fun _ => rfl) 15 (fun g => #[.slice pa nA da, .slice pb nB db]) (fun bs g ev wq hS he hr => ?_) (fun L g wq hd hL hS => ?_)) ?_
        · have r0 : ev (.tmp 94) = .slice pa nA da := hr (94, some 78) (by simp); have r1 : ev (.tmp 95) = .slice pb nB db := hr (95, some 79) (by simp); have hk := he.1; have hf := he.2; clear hr he
          go_simp
        · exact (C13.out wq hS.out.kp).mono fun e w' ⟨h1, h2⟩ => ⟨h1, hid (hS.out.kept h2)⟩
        refine GFrom.cons (GStep.val _ rfl rfl _ rfl (fun g => .slice pa nA da) (fun _ => rfl) (fun _ => rfl) (fun bs g ev wq hS he hr => ?_)) ?_
        · have r0 : ev (.tmp 3) = .slice pa nA da := hr (3, none) (by simp); have hk := he.1; clear hr he
          go_simp
        refine GFrom.cons (GStep.val _ rfl rfl _ rfl (fun g => .slice pb nB db) (fun _ => rfl) (fun _ => rfl) (fun bs g ev wq hS he hr => ?_)) ?_
        · have r0 : ev (.tmp 4) = .slice pb nB db := hr (4, none) (by simp); have hk := he.1; clear hr he
          go_simp
        refine GFrom.cons (GStep.call _ rfl rfl _ rfl (fun g => .bool sm) (fun _ => rfl) (fun _ => rfl) 26 (fun g => #[.slice pa nA da, .slice pb nB db]) (fun bs g ev wq hS he hr => ?_) (fun L g wq hd hL hS => ?_)) ?_
        · have r0 : ev (.tmp 97) = .slice pa nA da := hr (97, some 81) (by simp); have r1 : ev (.tmp 98) = .slice pb nB db := hr (98, some 82) (by simp); have hk := he.1; have hf := he.2; clear hr he
          go_simp
        · exact (C14.out wq hS.out.kp).mono fun e w' ⟨h1, h2⟩ => ⟨h1, hid (hS.out.kept h2)⟩
        refine GFrom.cons (GStep.val _ rfl rfl _ rfl (fun g => .bool true) (fun _ => rfl) (fun _ => rfl) (fun bs g ev wq hS he hr => ?_)) ?_
        · have r0 : ev (.tmp 96) = .bool sm := hr (96, some 80) (by simp); have r1 : ev (.tmp 99) = .bool sm := hr (99, some 83) (by simp); have hk := he.1; clear hr he
          have e1 : (sm == sm) = true := beq_self_eq_true _
          go_simp
        refine GFrom.cons (GStep.val _ rfl rfl _ rfl (fun g => .bool true) (fun _ => rfl) (fun _ => trivial) (fun bs g ev wq hS he hr => ?_)) ?_
        · have r0 : ev (.tmp 93) = .bool true := hr (93, some 77) (by simp); have r1 : ev (.tmp 100) = .bool true := hr (100, some 84) (by simp); have hk := he.1; clear hr he
          go_simp
        refine GFrom.cons (GStep.val _ rfl rfl _ rfl (fun g => .bool true) (fun _ => rfl) (fun _ => trivial) (fun bs g ev wq hS he hr => ?_)) ?_
        · have r0 : ev (.tmp 101) = .bool true := hr (101, some 85) (by simp); have hk := he.1; clear hr he
          go_simp
        exact GFrom.nil
      case hS => exact hid (Dc6.start w3 _)
      case hend =>
        intro g wz hy
        have KE := hid (HF.out.k.trans hy.out.kp (fun _ _ h => h))
        clear hy
        simp only [putAll, List.zip_cons_cons, List.zip_nil_right, List.foldl_cons, List.foldl_nil, Act.put, List.setIfInBounds_toArray, List.set_cons_zero, List.set_cons_succ]
        go_wp2
        go_ret
        exact ⟨rfl, KE.out⟩

end Go.Proofs.YtbbfibgijackhaaGreatDoor
