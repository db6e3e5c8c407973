/-
  Layer 3: the statements' own first. Conditions: the library's tables stand in memory.
  Layer 3: a case in memory, the law's own great (for the seat of DotClocks and DotReads; DtAc has the same for the other one). Condition: none.
  Layer 3: DotReads' law. Conditions: a case, bytes and a text in memory; the library's tables and its two errors stand in memory.
-/
import Derived.Test.YtbbfibgijackhaaGreatDoorPkX
import Derived.Test.YtbbfibgijackhaaGreatDoorPkJ
import Derived.Test.YtbbfibgijackhaaGreatDoorPkM
import Derived.Test.YtbbfibgijackhaaGreatDoorDtE
import Derived.Test.YtbbfibgijackhaaGreatDoorDtB
import Derived.Test.YtbbfibgijackhaaGreatDoorDtD
import Derived.Test.YtbbfibgijackhaaGreatDoorPkY
import Derived.Test.YtbbfibgijackhaaGreatDoorGhostR
namespace Go.Proofs.YtbbfibgijackhaaGreatDoor
open Go.RowKit

def cA : List RunQ := [(0, 1, 3), (2, 1, 1)]
def cB : List RunQ := [(0, 4, 4), (1, 5, 5)]
def cJ : List RunQ := [(0, 1, 4), (1, 5, 5), (2, 1, 1)]
theorem mk_a (w : World) : (Instr.buildSlice 23 2 #[(0, .agg #[.int .i64 0, .int .i64 1, .int .i64 3]), (1, .agg #[.int .i64 2, .int .i64 1, .int .i64 1])]).run Tryz.prog w = .ok (.slice (some ⟨w.heap.size, 0, none⟩) 2 2) (w.alloc (.cells #[.int .i64 0, .int .i64 1, .int .i64 3, .int .i64 2, .int .i64 1, .int .i64 1] 61 (0, 0))) := by kernel_rfl
theorem mk_b (w : World) : (Instr.buildSlice 23 2 #[(0, .agg #[.int .i64 0, .int .i64 4, .int .i64 4]), (1, .agg #[.int .i64 1, .int .i64 5, .int .i64 5])]).run Tryz.prog w = .ok (.slice (some ⟨w.heap.size, 0, none⟩) 2 2) (w.alloc (.cells #[.int .i64 0, .int .i64 4, .int .i64 4, .int .i64 1, .int .i64 5, .int .i64 5] 61 (0, 0))) := by kernel_rfl
theorem mk_z (w : World) : (Instr.buildSlice 23 1 #[(0, .agg #[.int .i64 0, .int .i64 0, .int .i64 0])]).run Tryz.prog w = .ok (.slice (some ⟨w.heap.size, 0, none⟩) 1 1) (w.alloc (.cells #[.int .i64 0, .int .i64 0, .int .i64 0] 61 (0, 0))) := by kernel_rfl
theorem cl_blk {w : World} {N : Nat} {c : List RunQ} (h : Blk w N 61 (flatR runL c)) (hok : ∀ q ∈ c, RunOk q) (hm : c.length ≤ maxLen) : ClSl w (.slice (some ⟨N, 0, none⟩) c.length c.length) c :=
  ⟨runAt_ok hok, RowsSl.of_blk h rfl hm (fun i hi j hj => flatR_get c i j (fun _ _ => rfl) hi hj)⟩
theorem wpList_valZ {P : Program} {ops : Array Oper} {rest : List Oper} {o : Oper} {a : Act} {w : World} {Q : Exit → Act → World → Prop} (hw : Region.wanted o (yielded ops a.tmps) = true) (v : Value) (w' : World) (h1 : (execOp a.eval o).run P w = .ok (.value v) w')
    (h : wpList P ops Q rest (a.put o.dst v) w') : wpList P ops Q (o :: rest) a w :=
  wpList_step fun K hK => by
    rw [if_pos hw]
    unfold Oper.wp
    rw [h1]
    exact hK _ _ h
theorem z_join : joinC cA cB = cJ := by kernel_rfl
theorem z_textA : bs (textC cA) = ⟨#[48, 58, 49, 45, 51, 32, 50, 58, 49]⟩ := by kernel_rfl
theorem z_textJ : bs (textC cJ) = ⟨#[48, 58, 49, 45, 52, 32, 49, 58, 53, 32, 50, 58, 49]⟩ := by kernel_rfl
theorem z_cmp1 : cmpC cA cJ = -1 := by kernel_rfl
theorem z_cmp2 : cmpC cA cB = 2 := by kernel_rfl
theorem z_count : countC cJ = 6 := by kernel_rfl
theorem z_ra : rightC cA = true := by kernel_rfl
theorem z_hasA : hasC cA 0 2 = true := by kernel_rfl
theorem z_hasB : hasC cB 0 2 = false := by kernel_rfl
theorem z_top : topC cJ 0 = 4 := by kernel_rfl
theorem z_rz : rightC [(0, 0, 0)] = false := by kernel_rfl
theorem z_ok : (∀ q ∈ cA, RunOk q) ∧ ∀ q ∈ cB, RunOk q := by
  refine ⟨fun q hq => ?_, fun q hq => ?_⟩ <;> simp only [cA, cB, List.mem_cons, List.not_mem_nil, or_false] at hq <;> rcases hq with rfl | rfl <;> unfold RunOk I64 <;> simp
structure Fsd (w : World) (va vb vj vP : Value) (P : Nat) (zs : List Int) (W : World) : Prop where
  ha : ClSl W va cA
  hb : ClSl W vb cB
  hj : ClSl W vj cJ
  hp : PenAt W P vP zs
  k : Kp Nb w W
theorem Fsd.step {w W W' : World} {va vb vj vP : Value} {P : Nat} {zs : List Int} (h : Fsd w va vb vj vP P zs W) (k : Kp Nb W W') : Fsd w va vb vj vP P zs W' :=
  ⟨h.ha.kept k, h.hb.kept k, h.hj.kept k, h.hp.kept k (fun h => h) (fun _ _ h => h), h.k.trans k (fun _ _ h => h)⟩
set_option maxRecDepth 100000 in
set_option maxHeartbeats 4000000 in
theorem dfirst_any (w : World) (ht : Tab w) (hm : Mx w) : Calls Tryz.prog 5 #[] w fun e w' => e = .returned (.bool true) ∧ Kp Nb w w' := by
  have HT := hid ht
  have HM := hid hm
  have MA := hid mk_a
  have MB := hid mk_b
  have MZ := hid mk_z
  have ZP : Hid (putB cA = true) := hid (by kernel_rfl)
  have ZL : Hid ((bytesC cA).length ≤ 100000) := hid (bytesC_len z_ra (by decide))
  obtain ⟨N, hN⟩ : ∃ N, w.heap.size = N := ⟨_, rfl⟩
  obtain ⟨W1, hW1⟩ : ∃ W, W = w.alloc (.cells #[.int .i64 0, .int .i64 1, .int .i64 3, .int .i64 2, .int .i64 1, .int .i64 1] 61 (0, 0)) := ⟨_, rfl⟩
  obtain ⟨W2, hW2⟩ : ∃ W, W = W1.alloc (.cells #[.int .i64 0, .int .i64 4, .int .i64 4, .int .i64 1, .int .i64 5, .int .i64 5] 61 (0, 0)) := ⟨_, rfl⟩
  have S1 : W1.heap.size = N + 1 := by rw [hW1, ← hN]; exact Array.size_push _
  have A1 : ClSl W1 (.slice (some ⟨N, 0, none⟩) 2 2) cA := cl_blk (by rw [hW1, ← hN]; exact Blk.new w 61 (flatR runL cA)) z_ok.1 (by simp [cA, maxLen])
  have k12 : Kp Nb W1 W2 := by rw [hW2]; exact (Kp.refl Nb W1).alloc _
  have A2 : Hid (ClSl W2 (.slice (some ⟨N, 0, none⟩) 2 2) cA) := hid (A1.kept k12)
  have B2 : Hid (ClSl W2 (.slice (some ⟨N + 1, 0, none⟩) 2 2) cB) := hid (cl_blk (by rw [hW2, ← S1]; exact Blk.new W1 61 (flatR runL cB)) z_ok.2 (by simp [cB, maxLen]))
  have K2 : Hid (Kp Nb w W2) := hid (Kp.trans (by rw [hW1]; exact (Kp.refl Nb w).alloc _) k12 (fun _ _ h => h))
  have MA1 : Hid ((Instr.buildSlice 23 2 #[(0, .agg #[.int .i64 0, .int .i64 1, .int .i64 3]), (1, .agg #[.int .i64 2, .int .i64 1, .int .i64 1])]).run Tryz.prog w = .ok (.slice (some ⟨N, 0, none⟩) 2 2) W1) := hid (by rw [hW1, ← hN]; exact MA.out w)
  have MB1 : Hid ((Instr.buildSlice 23 2 #[(0, .agg #[.int .i64 0, .int .i64 4, .int .i64 4]), (1, .agg #[.int .i64 1, .int .i64 5, .int .i64 5])]).run Tryz.prog W1 = .ok (.slice (some ⟨N + 1, 0, none⟩) 2 2) W2) := hid (by rw [hW2, ← S1]; exact MB.out W1)
  have HNP : Hid (N + 2 ≤ W2.heap.size) := hid (by rw [hW2]; have : (W1.alloc (.cells #[.int .i64 0, .int .i64 4, .int .i64 4, .int .i64 1, .int .i64 5, .int .i64 5] 61 (0, 0))).heap.size = W1.heap.size + 1 := Array.size_push _; omega)
  clear hW1 hW2 A1 k12 S1 hN ht hm
  go_enter Tryz.func5, Tryz.ntmps5
  go_wp2_with (first
    | (refine wpList_val (by rfl) _ _ (exec_buildSliceD rfl (qs := #[(0, .agg #[.int .i64 0, .int .i64 1, .int .i64 3]), (1, .agg #[.int .i64 2, .int .i64 1, .int .i64 1])]) (by simp [Act.eval, Act.put]) MA1.out) ?_)
    | (refine wpList_val (by rfl) _ _ (exec_buildSliceD rfl (qs := #[(0, .agg #[.int .i64 0, .int .i64 4, .int .i64 4]), (1, .agg #[.int .i64 1, .int .i64 5, .int .i64 5])]) (by simp [Act.eval, Act.put]) MB1.out) ?_))
  have C := join_any _ _ cA cB W2 A2.out B2.out (by decide) (by decide)
  rw [z_join] at C
  refine C.mono ?_
  rintro r w3 ⟨vj, rfl, h3, ho3, k3⟩
  have GJ : Hid (∀ g, vj.ownBlock = some g → g < w3.heap.size) := hid (fun g hg => (ho3 g hg).2)
  obtain ⟨yj, dj, e3⟩ := h3.shape
  have e3 : vj = .slice yj 3 dj := e3
  subst e3
  have A3 := hid (A2.out.kept k3)
  have B3 := hid (B2.out.kept k3)
  have J3 := hid h3
  have K3 := hid (K2.out.trans k3 (fun _ _ h => h))
  have N3 : Hid (N + 2 ≤ w3.heap.size) := hid (by have := HNP.out; have := k3.size; omega)
  clear C k3 h3 ho3 A2 B2 K2 HNP
  obtain ⟨P, hP⟩ : ∃ P, w3.heap.size = P := ⟨_, rfl⟩
  obtain ⟨W4, hW4⟩ : ∃ W, W = w3.alloc (.cells #[.slice none 0 0] 43) := ⟨_, rfl⟩
  have PN : Hid (PenAt W4 P (.slice none 0 0) []) := hid (by rw [hW4, ← hP]; exact pen_new w3)
  have K4 : Hid (Kp Nb w3 W4) := hid (by rw [hW4]; exact (Kp.refl Nb w3).alloc _)
  have HP3 := hid hP
  have CP := dput_any P _ cA W4 (A3.out.kept K4.out) PN.out (fun g hg => by
    have : N = g := by simpa [Value.ownBlock] using hg
    have := N3.out
    have := HP3.out
    omega) (by decide)
  rw [ZP.out, if_pos rfl] at CP
  have CP := hid CP
  go_upto_region 4 with fail
  rw [← hW4]
  try simp only [hP]
  clear hW4 hP
  go_wp2_with fail
  refine CP.out.mono ?_
  rintro r w5 ⟨rfl, vP, p5, t5⟩
  have NA : ∀ g, (Value.ownBlock (.slice (some ⟨N, 0, none⟩) 2 2)) = some g → g ≠ P := fun g hg => by
    have : N = g := by simpa [Value.ownBlock] using hg
    have := N3.out
    have := HP3.out
    omega
  have NB : ∀ g, (Value.ownBlock (.slice (some ⟨N + 1, 0, none⟩) 2 2)) = some g → g ≠ P := fun g hg => by
    have : N + 1 = g := by simpa [Value.ownBlock] using hg
    have := N3.out
    have := HP3.out
    omega
  have NJ : ∀ g, (Value.slice yj 3 dj).ownBlock = some g → g ≠ P := fun g hg => by
    have := GJ.out g hg
    have := HP3.out
    omega
  have HF : Hid (Fsd w (.slice (some ⟨N, 0, none⟩) 2 2) (.slice (some ⟨N + 1, 0, none⟩) 2 2) (.slice yj 3 dj) vP P (bytesC cA) w5) := hid ⟨pen_sepC t5 (A3.out.kept K4.out) NA, pen_sepC t5 (B3.out.kept K4.out) NB, pen_sepC t5 (J3.out.kept K4.out) NJ, p5,
    (K3.out.trans K4.out (fun _ _ h => h)).trans t5.kp (fun i hi h => h.elim (fun h => by have := HP3.out; have := K3.out.size; omega) (fun h => by simp [Value.ownBlock] at h))⟩
  clear NA NB NJ
  clear CP PN K3 K4 A3 B3 J3 GJ p5 t5
  go_wp2_with fail
  have C := parse_any cA w5 z_ra (by decide) (HM.out.kept HF.out.k) (HT.out.kept HF.out.k)
  rw [z_textA] at C
  refine C.mono ?_
  rintro r w6 ⟨vc, rfl, hc, -, k⟩
  obtain ⟨yc, dc, ec⟩ := hc.shape
  have ec : vc = .slice yc 2 dc := ec
  subst ec
  have HC := hid hc
  clear hc
  have HF := hid (HF.out.step k)
  clear C k
  go_wp2_with fail
  have C := text_any _ cJ w6 HF.out.hj (by decide) (HT.out.kept HF.out.k)
  rw [z_textJ] at C
  refine C.mono ?_
  rintro r w7 ⟨rfl, k⟩
  have HC := hid (HC.out.kept k)
  have HF := hid (HF.out.step k)
  clear C k
  go_wp2_with fail
  have C := compare_any _ _ cA cJ w7 HF.out.ha HF.out.hj (by decide) (by decide)
  rw [z_cmp1] at C
  refine C.mono ?_
  rintro r w8 ⟨rfl, k⟩
  have HC := hid (HC.out.kept k)
  have HF := hid (HF.out.step k)
  clear C k
  go_wp2_with fail
  have C := compare_any _ _ cA cB w8 HF.out.ha HF.out.hb (by decide) (by decide)
  rw [z_cmp2] at C
  refine C.mono ?_
  rintro r w9 ⟨rfl, k⟩
  have HC := hid (HC.out.kept k)
  have HF := hid (HF.out.step k)
  clear C k
  go_wp2_with fail
  have C := count_any _ cJ w9 HF.out.hj (by decide)
  rw [z_count] at C
  refine C.mono ?_
  rintro r w10 ⟨rfl, k⟩
  have HC := hid (HC.out.kept k)
  have HF := hid (HF.out.step k)
  clear C k
  go_wp2_with fail
  have C := pen_bytes P vP _ w10 HF.out.hp (by have := ZL.out; omega)
  refine C.mono ?_
  rintro r w11 ⟨rb, rfl, ow, k⟩
  have HC := hid (HC.out.kept k)
  have BY : Hid (BySl Nb w11 rb (bytesC cA)) := hid (BySl.ofOwn ow HF.out.hp.bytes (fun _ _ _ h => h))
  obtain ⟨yr, dr, rfl⟩ := own_shape ow
  clear ow
  have HF := hid (HF.out.step k)
  clear C k
  go_wp2_with fail
  refine (read_any _ _ w11 BY.out (by have := ZL.out; omega)).mono ?_
  rintro r w12 ⟨Be, hBe, rfl, he, k14⟩
  have HEY := hid (EyeOn.of he w12.heap.size (Nat.le_refl _))
  have HBE := hid hBe
  have K14 := hid k14
  clear he k14 hBe
  go_wp2_with fail
  have C := dget_any Be (bytesC cA) 0 w12 (S := fun i => i = Be ∨ w12.heap.size ≤ i) (fun i => Iff.rfl) HEY.out
  rw [get_back z_ra (by decide)] at C
  dsimp only at C
  refine C.mono ?_
  rintro r w13 ⟨vg, rfl, hg, -, -, k15⟩
  obtain ⟨yg, dg, eg⟩ := hg.shape
  have eg : vg = .slice yg 2 dg := eg
  subst eg
  have K15 : Kp Nb w11 w13 := K14.out.trans (S' := Jb Be) k15 (fun i hi h => by have h' : i = Be := h; have := HBE.out; omega)
  have HF := hid (HF.out.step K15)
  have HC : Hid (ClSl w13 (.slice yc 2 dc) cA) := hid (HC.out.kept K15)
  have HG := hid hg
  clear C k15 hg K15
  go_wp2_with fail
  have C := same_any _ _ cA cA w13 HG.out HF.out.ha (by decide) (by decide)
  rw [decide_eq_true rfl] at C
  refine C.mono ?_
  rintro r w14 ⟨rfl, k⟩
  have HC := hid (HC.out.kept k)
  have HF := hid (HF.out.step k)
  clear C k
  go_wp2_with fail
  have C := same_any _ _ cA cA w14 HC.out HF.out.ha (by decide) (by decide)
  rw [decide_eq_true rfl] at C
  refine C.mono ?_
  rintro r w15 ⟨rfl, k⟩
  have HF := hid (HF.out.step k)
  clear C k
  go_wp2_with fail
  have C := has_any _ cA 0 2 w15 HF.out.ha (by decide)
  rw [z_hasA] at C
  refine C.mono ?_
  rintro r w16 ⟨rfl, k⟩
  have HF := hid (HF.out.step k)
  clear C k
  go_wp2_with fail
  have C := has_any _ cB 0 2 w16 HF.out.hb (by decide)
  rw [z_hasB] at C
  refine C.mono ?_
  rintro r w17 ⟨rfl, k⟩
  have HF := hid (HF.out.step k)
  clear C k
  go_wp2_with (first | (refine wpList_valZ (by rfl) _ _ (exec_buildSliceD rfl (qs := #[(0, .agg #[.int .i64 0, .int .i64 0, .int .i64 0])]) (by simp [Act.eval, Act.put]) (MZ.out _)) ?_))
  have C := dright_any (.slice (some ⟨w17.heap.size, 0, none⟩) 1 1) [(0, 0, 0)] (w17.alloc (.cells #[.int .i64 0, .int .i64 0, .int .i64 0] 61 (0, 0))) ⟨runAt_ok (fun _ hq => by rw [List.mem_singleton.1 hq]; exact run_zero_ok), rows_oneR (Blk.new w17 61 (runL (0, 0, 0)))⟩ (by decide)
  rw [z_rz] at C
  refine C.mono ?_
  rintro r w18 ⟨rfl, k⟩
  have k := ((Kp.refl Nb w17).alloc (.cells #[.int .i64 0, .int .i64 0, .int .i64 0] 61 (0, 0))).trans k (fun _ _ h => h)
  have HF := hid (HF.out.step k)
  clear C k
  go_wp2_with fail
  have C := top_any _ cJ 0 w18 HF.out.hj (by decide)
  rw [z_top] at C
  refine C.mono ?_
  rintro r w19 ⟨rfl, k⟩
  have HF := hid (HF.out.step k)
  clear C k
  go_wp2
  go_ret
  exact ⟨rfl, HF.out.k⟩

end Go.Proofs.YtbbfibgijackhaaGreatDoor

namespace Go.Proofs.YtbbfibgijackhaaGreatDoor
open Go.RowKit

abbrev DotQ := Int × Int
def dotL (q : DotQ) : List Value := [.int .i64 q.1, .int .i64 q.2]
def DotOk (q : DotQ) : Prop := I64 q.1 ∧ I64 q.2
def caseL (va vb : Value) (dn dd nd : Int) : List Value := [va, vb, .int .i64 dn, .int .i64 dd, .int .i64 nd]
def caseV (va vb : Value) (dn dd nd : Int) : Value := .agg #[va, vb, .int .i64 dn, .int .i64 dd, .int .i64 nd]
set_option maxRecDepth 100000 in
set_option maxHeartbeats 1000000 in
theorem great_any (pa pb : Option Addr) (nA nB da db : Nat) (dn dd nd : Int) (w : World) :
    Calls Tryz.prog 6 #[caseV (.slice pa nA da) (.slice pb nB db) dn dd nd] w fun e w' => e = .returned (.bool (decide (40 < nA ∨ 40 < nB))) ∧ Kp Nb w w' := by
  obtain ⟨N, hN⟩ : ∃ N, w.heap.size = N := ⟨_, rfl⟩
  obtain ⟨W, hW⟩ : ∃ W, W = w.alloc (.cells #[.slice pa nA da, .slice pb nB db, .int .i64 dn, .int .i64 dd, .int .i64 nd] 27) := ⟨_, rfl⟩
  have HB : Hid (Blk W N 27 (caseL (.slice pa nA da) (.slice pb nB db) dn dd nd)) := hid (by rw [hW, ← hN]; exact Blk.new w _ (caseL (.slice pa nA da) (.slice pb nB db) dn dd nd))
  have K0 : Hid (Kp Nb w W) := hid (by rw [hW]; exact (Kp.refl Nb w).alloc _)
  unfold caseV
  obtain ⟨G, hG⟩ : ∃ b, decide (40 < nA ∨ 40 < nB) = b := ⟨_, rfl⟩
  have HG := hid hG
  rw [hG]
  clear hG
  go_enter Tryz.func6, Tryz.ntmps6
  go_upto_region 1 with fail
  rw [← hW]
  clear hW hN
  have c0 : W.cell? ⟨N, 0, none⟩ = some (.slice pa nA da) := HB.out.cell 0
  have c1 : W.cell? ⟨N, 1, none⟩ = some (.slice pb nB db) := HB.out.cell 1
  by_cases h1 : 40 < nA
  · have d1 : (40 : Int) < (nA : Int) := by omega
    have hd : decide (40 < nA ∨ 40 < nB) = true := decide_eq_true (.inl h1)
    obtain rfl : true = G := hd.symm.trans HG.out
    clear hd h1
    go_wp2
    go_ret
    exact ⟨rfl, K0.out⟩
  · by_cases h2 : 40 < nB
    · have d1 : ¬ (40 : Int) < (nA : Int) := by omega
      have d2 : (40 : Int) < (nB : Int) := by omega
      have hd : decide (40 < nA ∨ 40 < nB) = true := decide_eq_true (.inr h2)
      obtain rfl : true = G := hd.symm.trans HG.out
      clear hd h1 h2
      go_wp2
      go_ret
      exact ⟨rfl, K0.out⟩
    · have d1 : ¬ (40 : Int) < (nA : Int) := by omega
      have d2 : ¬ (40 : Int) < (nB : Int) := by omega
      have hd : decide (40 < nA ∨ 40 < nB) = false := decide_eq_false (by omega)
      obtain rfl : false = G := hd.symm.trans HG.out
      clear hd h1 h2
      go_wp2
      go_ret
      exact ⟨rfl, K0.out⟩

end Go.Proofs.YtbbfibgijackhaaGreatDoor

namespace Go.Proofs.YtbbfibgijackhaaGreatDoor
open Go.RowKit

theorem BySl.sizeB {S : Nat → Prop} {w : World} {v : Value} {zs : List Int} (h : BySl S w v zs) : ∃ y d, v = .slice y zs.length d := by
  rcases h.2 with ⟨⟨a, c, rfl⟩, rfl⟩ | ⟨blk, off, cap, rfl, _⟩
  · exact ⟨a, c, rfl⟩
  · exact ⟨_, _, rfl⟩
theorem BySl.besideB {S : Nat → Prop} {w w' : World} {X : Nat} {v : Value} {zs ys : List Int} {f : Int} (h : BySl S w v zs) (g : RefAt w X ys f) (k : Kp (Jb X) w w') : BySl S w' v zs := by
  obtain ⟨hz, hv⟩ := h
  refine ⟨hz, ?_⟩
  rcases hv with hv | ⟨blk, off, cap, rfl, hc, hm, hcell, hn⟩
  · exact .inl hv
  · by_cases h0 : zs.length = 0
    · obtain rfl := List.eq_nil_of_length_eq_zero h0
      exact .inl ⟨⟨_, _, rfl⟩, rfl⟩
    · have hX : blk ≠ X := by
        intro hX
        subst hX
        have c := hcell 0 (by omega)
        rw [Blk.cell g] at c
        rcases Nat.lt_trichotomy (off + 0) 1 with h | h | h
        · rw [show off + 0 = 0 by omega] at c; simp at c
        · rw [h] at c; simp at c
        · rw [List.getElem?_eq_none (by simp; omega)] at c; cases c
      exact .inr ⟨blk, off, cap, rfl, hc, hm, fun i hi => k.cell (hcell i hi) hX, hn⟩
theorem EyeAt.besideB {w w' : World} {E X : Nat} {zs ys : List Int} {e f : Int} (h : EyeAt w E zs e) (g : RefAt w X ys f) (hne : E ≠ X) (k : Kp (Jb X) w w') : EyeAt w' E zs e := by
  obtain ⟨v, hb, hv⟩ := h
  exact ⟨v, hb.kept k hne, hv.besideB g k⟩
/-- The region that makes the two eyes. -/
structure RdB (W : World) (zs : List Int) (bs : List Bool) (g : Nat × Nat) (w : World) : Prop where
  kp : Kp Nb W w
  eye : bs[0]?.getD false = true → EyeAt w g.1 zs 0 ∧ W.heap.size ≤ g.1
  ref : bs[1]?.getD false = true → RefAt w g.2 zs 0 ∧ W.heap.size ≤ g.2
  ne : bs[0]?.getD false = true → bs[1]?.getD false = true → g.1 ≠ g.2
/-- The last region: the pen's bytes as a new slice. -/
structure RpB (W : World) (zs : List Int) (bs : List Bool) (g : Value) (w : World) : Prop where
  kp : Kp Nb W w
  by' : bs[0]?.getD false = true → BySl Nb w g zs
theorem RpB.step {W : World} {zs : List Int} {bs : List Bool} {g : Value} {w w' : World} (h : RpB W zs bs g w) (k : Kp Nb w w') : RpB W zs bs g w' := ⟨h.kp.trans k (fun _ _ h => h), fun e => (h.by' e).kept k (fun _ h => h)⟩
theorem old_set1B {L : Nat → Bool} {i : Nat} {l l' : List Value} (u : Value) (hL : L i = false) (h : l' = l.set i u) : ∀ j, L j = true → l'.getD j undef = l.getD j undef := by
  intro j hj
  subst h
  have hn : i ≠ j := by rintro rfl; rw [hL] at hj; cases hj
  rw [List.getD_eq_getElem?_getD, List.getD_eq_getElem?_getD, List.getElem?_set_ne hn]
theorem old_set2B {L : Nat → Bool} {i i2 : Nat} {l l' : List Value} (u u2 : Value) (hL : L i = false) (hL2 : L i2 = false) (h : l' = (l.set i u).set i2 u2) : ∀ j, L j = true → l'.getD j undef = l.getD j undef := by
  intro j hj
  subst h
  have hn : i ≠ j := by rintro rfl; rw [hL] at hj; cases hj
  have hn2 : i2 ≠ j := by rintro rfl; rw [hL2] at hj; cases hj
  rw [List.getD_eq_getElem?_getD, List.getD_eq_getElem?_getD, List.getElem?_set_ne hn2, List.getElem?_set_ne hn]

structure Dcr (w : World) (va vb : Value) (a b : List RunQ) (D : Nat) (dn dd nd : Int) (W : World) : Prop where
  ha : ClSl W va a
  hb : ClSl W vb b
  box : Blk W D 27 (caseL va vb dn dd nd)
  k : Kp Nb w W
theorem Dcr.step {w W W' : World} {va vb : Value} {a b : List RunQ} {D : Nat} {dn dd nd : Int} (h : Dcr w va vb a b D dn dd nd W) (k : Kp Nb W W') : Dcr w va vb a b D dn dd nd W' :=
  ⟨h.ha.kept k, h.hb.kept k, h.box.kept k (fun h => h), h.k.trans k (fun _ _ h => h)⟩
theorem getLC_len (k : Nat) : ∀ (z : List Int) (e : Int) (acc l : List RunQ) (z' : List Int) (e' : Int), getLC k z e acc = (some l, z', e') → l.length ≤ acc.length + k := by
  induction k with
  | zero => intro z e acc l z' e' h; unfold getLC at h; injection h with h; injection h with h; subst h; exact Nat.le_refl _
  | succ k ih =>
    intro z e acc l z' e' h
    unfold getLC at h
    split at h
    · injection h with h; cases h
    · have := ih _ _ _ _ _ _ h
      rw [List.length_append, List.length_singleton] at this
      omega
theorem getC_len (zs : List Int) (hz : IsBytes zs) : (getC zs 0).1.length ≤ 1024 := by
  have ht := readN_topD zs 0 1024 hz (by decide)
  unfold getC
  obtain ⟨⟨o, z, e⟩, h⟩ : ∃ r, getLC (readN zs 0 1024).1.toNat (readN zs 0 1024).2.1 (readN zs 0 1024).2.2 [] = r := ⟨_, rfl⟩
  rw [h]
  cases o with
  | none => exact Nat.zero_le _
  | some l =>
    have hl := getLC_len _ _ _ _ _ _ _ h
    rw [List.length_nil] at hl
    show (if rightC l then (l, z, e) else ([], failS z e 11, failE e 11)).1.length ≤ 1024
    split
    · show l.length ≤ 1024; omega
    · exact Nat.zero_le _

set_option maxRecDepth 100000 in
set_option maxHeartbeats 16000000 in
theorem dreads_any (va vb v : Value) (a b : List RunQ) (zs : List Int) (ls : List UInt8) (dn dd nd : Int) (w : World) (ha : ClSl w va a) (hb : ClSl w vb b) (hlo : ∀ g, va.ownBlock = some g → g < w.heap.size) (hv : BySl Nb w v zs) (ht : Tab w) (hm : Mx w) (he : Ev w) :
    Calls Tryz.prog 4 #[caseV va vb dn dd nd, v, .string (bs ls)] w fun e w' => e = .returned (.bool true) ∧ Kp Nb w w' := by
  have HT := hid ht
  have HM := hid hm
  have HE := hid he
  obtain ⟨y, d, rfl⟩ := hv.sizeB
  obtain ⟨pa, da, rfl⟩ := ha.shape
  obtain ⟨pb', db, rfl⟩ := hb.shape
  have HZB := hid hv.1
  obtain ⟨nA, hnA⟩ : ∃ n, a.length = n := ⟨_, rfl⟩
  obtain ⟨nE, hnE⟩ : ∃ n, b.length = n := ⟨_, rfl⟩
  obtain ⟨nB, hnB⟩ : ∃ n, zs.length = n := ⟨_, rfl⟩
  obtain ⟨nS, hnS⟩ : ∃ n, ls.length = n := ⟨_, rfl⟩
  have HSS := bs_size ls
  rw [hnS] at HSS
  obtain ⟨S, hS⟩ : ∃ x, bs ls = x := ⟨_, rfl⟩
  rw [hS] at HSS ⊢
  have HLS := hid hS
  have HNS := hid hnS
  have HL := hid (show a.length = nA ∧ b.length = nE from ⟨hnA, hnE⟩)
  have HNB := hid hnB
  rw [hnB] at hv ⊢
  have HV0 := hid hv
  obtain ⟨sz, hsz⟩ : ∃ s, st zs = s := ⟨_, rfl⟩
  have HSZ := hid hsz
  obtain ⟨D, hD⟩ : ∃ D, w.heap.size = D := ⟨_, rfl⟩
  obtain ⟨W0, hW0⟩ : ∃ W, W = w.alloc (.cells #[.slice pa a.length da, .slice pb' b.length db, .int .i64 dn, .int .i64 dd, .int .i64 nd] 27) := ⟨_, rfl⟩
  have HF : Hid (Dcr w (.slice pa a.length da) (.slice pb' b.length db) a b D dn dd nd W0) := hid (by
    have k0 : Kp Nb w W0 := by rw [hW0]; exact (Kp.refl Nb w).alloc _
    exact ⟨ha.kept k0, hb.kept k0, by rw [hW0, ← hD]; exact Blk.new w _ (caseL (.slice pa a.length da) (.slice pb' b.length db) dn dd nd), k0⟩)
  have HLO := hid hlo
  rw [hnA] at HLO
  rw [hnA, hnE] at HF
  rw [hnA, hnE] at hW0
  rw [hnA, hnE]
  have HDD : Hid (w.heap.size = D) := hid hD
  clear ha hb hnA hnE ht hm he hv hlo hnB hnS hS hsz
  unfold caseV
  go_enter Tryz.func4, Tryz.ntmps4
  go_upto_region 1 with fail
  rw [← hW0]
  clear hW0 hD
  go_wp2_with fail
  refine (dfirst_any W0 (HT.out.kept HF.out.k) (HM.out.kept HF.out.k)).mono ?_
  rintro r w1 ⟨rfl, k⟩
  have HF := hid (HF.out.step k)
  clear k
  have c0 : World.cell? w1 ⟨D, 0, none⟩ = some (.slice pa nA da) := HF.out.box.cell 0
  have c1 : World.cell? w1 ⟨D, 1, none⟩ = some (.slice pb' nE db) := HF.out.box.cell 1
  have c2 : World.cell? w1 ⟨D, 2, none⟩ = some (.int .i64 dn) := HF.out.box.cell 2
  have c3 : World.cell? w1 ⟨D, 3, none⟩ = some (.int .i64 dd) := HF.out.box.cell 3
  have c4 : World.cell? w1 ⟨D, 4, none⟩ = some (.int .i64 nd) := HF.out.box.cell 4
  obtain ⟨G, hG⟩ : ∃ x, decide (40 < nA ∨ 40 < nE) = x := ⟨_, rfl⟩
  have HG := hid hG
  go_wp2_with fail
  have C := great_any pa pb' nA nE da db dn dd nd w1
  rw [hG] at C
  clear hG
  unfold caseV at C
  refine C.mono ?_
  rintro r w2 ⟨rfl, k⟩
  have HF := hid (HF.out.step k)
  clear C k
  clear c0 c1 c2 c3 c4
  cases G with
  | true =>
    go_wp2
    go_ret
    exact ⟨rfl, HF.out.k⟩
  | false =>
    by_cases h1 : 1000 < nB
    · go_wp2
      go_ret
      exact ⟨rfl, HF.out.k⟩
    by_cases h2 : 1000 < nS
    · go_wp2
      go_ret
      exact ⟨rfl, HF.out.k⟩
    have hB3 : nB ≤ 1000 := by omega
    have hS3 : nS ≤ 1000 := by omega
    have HBD := hid (show nB ≤ 1000 ∧ ls.length ≤ 1000 from ⟨hB3, by have := HNS.out; omega⟩)
    have HLE : Hid (a.length ≤ 40) := hid (by have h1 := of_decide_eq_false HG.out; have := HL.out; omega)
    have HV : Hid (BySl Nb w2 (.slice y nB d) zs) := hid (HV0.out.kept HF.out.k (fun _ h => h))
    obtain ⟨P, hP⟩ : ∃ P, w2.heap.size = P := ⟨_, rfl⟩
    obtain ⟨W3, hW3⟩ : ∃ W, W = w2.alloc (.cells #[.slice none 0 0] 43) := ⟨_, rfl⟩
    have PN : Hid (PenAt W3 P (.slice none 0 0) []) := hid (by rw [hW3, ← hP]; exact pen_new w2)
    have K3 : Hid (Kp Nb w2 W3) := hid (by rw [hW3]; exact (Kp.refl Nb w2).alloc _)
    have HPP : Hid (w2.heap.size = P) := hid hP
    obtain ⟨rb, hrb⟩ : ∃ b, rightC a = b := ⟨_, rfl⟩
    have HRB := hid hrb
    have hpb : putB a = rightC a := by unfold putB; rw [decide_eq_true (by have := HLE.out; omega), Bool.and_true]
    have CP := dput_any P _ a W3 (HF.out.ha.kept K3.out) PN.out (fun g hg => by have := HLO.out g hg; have := HF.out.k.size; omega) (by have := HLE.out; omega)
    rw [hpb, hrb] at CP
    have CP := hid CP
    have HD3 := hid (HF.out.box.kept K3.out (fun h => h))
    have c0 : World.cell? W3 ⟨D, 0, none⟩ = some (.slice pa nA da) := HD3.out.cell 0
    clear hrb hpb HG HV0 HDD
    go_upto_region 6 with fail
    rw [← hW3]
    try simp only [hP]
    clear hW3 hP
    go_wp2_with fail
    refine CP.out.mono ?_
    rintro r w4 ⟨rfl, vP, p4, t4⟩
    have HP4 := hid p4
    have K4 : Hid (Kp Nb w2 w4) := hid (K3.out.trans t4.kp (fun i hi h => by
      rcases h with h | h
      · have := HPP.out; omega
      · simp [Value.ownBlock] at h))
    have HD4 := hid (HF.out.box.kept K4.out (fun h => h))
    clear p4 t4 CP PN K3 h1 h2 c0 HD3
    have c0 : World.cell? w4 ⟨D, 0, none⟩ = some (.slice pa nA da) := HD4.out.cell 0
    go_wp2_with fail
    have CR0 := rright_any _ a w4 (HF.out.ha.kept K4.out) (by have := HLE.out; omega)
    rw [HRB.out] at CR0
    refine CR0.mono ?_
    rintro r w5 ⟨rfl, k5⟩
    have HP5 := hid (HP4.out.kept k5 (fun h => h) (fun _ _ h => h))
    have K5 := hid (K4.out.trans k5 (fun _ _ h => h))
    have HD5 := hid (HD4.out.kept k5 (fun h => h))
    clear k5 CR0 HP4 K4 c0 HD4
    cases rb with
    | true =>
      have HP5 : Hid (PenAt w5 P vP (bytesC a)) := HP5
      have c0 : World.cell? w5 ⟨D, 0, none⟩ = some (.slice pa nA da) := HD5.out.cell 0
      go_wp2_with fail
      refine (rbytes_any _ a w5 (HF.out.ha.kept K5.out) (right_good HRB.out) (by have := HLE.out; omega)).mono ?_
      rintro r w5b ⟨rfl, k5⟩
      have HP5 := hid (HP5.out.kept k5 (fun h => h) (fun _ _ h => h))
      have K5 := hid (K5.out.trans k5 (fun _ _ h => h))
      clear k5 c0 HD5
      have HPL : Hid ((bytesC a).length ≤ 140737488355328) := hid (by
        unfold bytesC
        rw [List.length_append]
        have := runsB_len a (right_good HRB.out)
        have := HLE.out
        have := numBytes_length (a.length : Int) (by omega)
        omega)
      obtain ⟨zsP, hzP⟩ : ∃ z, bytesC a = z := ⟨_, rfl⟩
      rw [hzP] at HP5 HPL ⊢
      obtain ⟨sW, hsW⟩ : ∃ s, st zsP = s := ⟨_, rfl⟩
      have HSW := hid hsW
      rw [hsW]
      clear hzP hsW
      have HV5 := hid (HV.out.kept K5.out (fun _ h => h))
      have CV : Hid (∀ W, Kp Nb w5b W → (convert 40 9 (.slice y nB d)).run Tryz.prog W = .ok (.string sz) W) := hid (fun W k => by rw [← HSZ.out]; exact conv_any (HV5.out.kept k (fun _ h => h)))
      have RD : Hid (∀ W, Kp Nb w5b W → Calls Tryz.prog 29 #[.slice y nB d] W fun e w' => ∃ B, W.heap.size ≤ B ∧ e = .returned (.pointer (some ⟨B, 0, none⟩)) ∧ EyeAt w' B zs 0 ∧ Kp Nb W w') := hid (fun W k => read_any (S := Nb) _ zs W (HV5.out.kept k (fun _ h => h)) (by have := HNB.out; have := HBD.out; omega))
      go_upto_region 9 with fail
      refine region_ghost (g0 := ((0, 0) : Nat × Nat)) [none, none, none, none, none, none, none, none, none, none, some 6, some 7, none, none, none, none, none, none, none, none, none, none, none, none, none, none, none, none, none, none, none, none, none, none, none, none, none, none, none, none, none, none, none, none, some 0, some 1, some 2, some 3, some 4, some 5, none, none, none, none, none, none, none, none, none, none, none, none, none, none, none, none, none, none, none, none, none, none, none, none, none, none, none, none, none, none, none, none, none, none, none, none, none, none, none, none, none, none, none, none, none, none, none, none, none, none, none, none, none, none, none, none, none, none, none, none, none, none, none, none, none, none, none, none, none] [[(1, none)], [(44, some 0)], [(1, none)], [(46, some 2)], [(47, some 3)], [(48, some 4)], [(45, some 1)], [(49, some 5)]] [some 44, some 45, some 46, some 47, some 48, some 49, some 10, some 11] (fun g => [.slice y nB d, .pointer (some ⟨g.1, 0, none⟩), .slice y nB d, .string sz, .agg #[.string sz, .int .i64 0], .pointer (some ⟨g.2, 0, none⟩), .pointer (some ⟨g.1, 0, none⟩), .pointer (some ⟨g.2, 0, none⟩)]) [1, 5] (RdB w5b zs) (by kernel_rfl) (by kernel_rfl) (fun g => by kernel_rfl) (by kernel_rfl) ?hS (GFrom.all (n := 8) (by kernel_rfl) ?hstep) ?hend
      case hstep =>
        refine GFrom.cons (GStep.val _ rfl rfl _ rfl (fun g => .slice y nB d) (fun _ => rfl) (fun _ => trivial) (fun bs g ev wq hS he hr => ?_)) ?_
        · have r0 : ev (.tmp 1) = .slice y nB d := hr (1, none) (by simp); have hk := he.1; clear hr he
          go_simp
        refine GFrom.cons (GStep.callm _ rfl _ rfl (fun _ => trivial) 29 (fun g => #[.slice y nB d]) (fun bs g ev wq hS he hr => ?_) (fun L g wq hL hd hcl hS => ?_)) ?_
        · have r0 : ev (.tmp 44) = .slice y nB d := hr (44, some 0) (by simp); have hk := he.1; have hf := he.2; clear hr he
          go_simp
        · refine (RD.out wq hS.kp).mono ?_
          rintro e w' ⟨Bq, hB, rfl, hey, kn⟩
          have l6 : L 6 = false := by
            cases h : L 6 with
            | false => rfl
            | true => have := hcl 6 _ rfl h 1 (by kernel_rfl); rw [hL] at this; cases this
          refine ⟨_, (Bq, g.2), rfl, rfl, old_set2B (.pointer (some ⟨Bq, 0, none⟩)) (.pointer (some ⟨Bq, 0, none⟩)) hL l6 rfl, ?_⟩
          refine ⟨hS.kp.trans kn (fun _ _ h => h), fun _ => ⟨hey, Nat.le_trans hS.kp.size hB⟩, fun e1 => ?_, fun _ e2 => ?_⟩
          · have a := hS.ref (by simpa [bitsAt, upd] using e1)
            exact ⟨a.1.kept kn (fun h => h), a.2⟩
          · have a := hS.ref (by simpa [bitsAt, upd] using e2)
            have := Blk.lt a.1
            show Bq ≠ g.2
            omega
        refine GFrom.cons (GStep.val _ rfl rfl _ rfl (fun g => .slice y nB d) (fun _ => rfl) (fun _ => trivial) (fun bs g ev wq hS he hr => ?_)) ?_
        · have r0 : ev (.tmp 1) = .slice y nB d := hr (1, none) (by simp); have hk := he.1; clear hr he
          go_simp
        refine GFrom.cons (GStep.val _ rfl rfl _ rfl (fun g => .string sz) (fun _ => rfl) (fun _ => trivial) (fun bs g ev wq hS he hr => ?_)) ?_
        · have r0 : ev (.tmp 46) = .slice y nB d := hr (46, some 2) (by simp); have hk := he.1; clear hr he
          have e1 := CV.out wq hS.kp
          go_simp
        refine GFrom.cons (GStep.val _ rfl rfl _ rfl (fun g => .agg #[.string sz, .int .i64 0]) (fun _ => rfl) (fun _ => trivial) (fun bs g ev wq hS he hr => ?_)) ?_
        · have r0 : ev (.tmp 47) = .string sz := hr (47, some 3) (by simp); have hk := he.1; clear hr he
          go_simp
        refine GFrom.cons (GStep.make _ rfl _ rfl (fun _ => trivial) (fun L g ev wq hL hd hcl hS he hr => ?_)) ?_
        · have r0 : ev (.tmp 48) = .agg #[.string sz, .int .i64 0] := hr (48, some 4) (by simp); clear hr he
          have l7 : L 7 = false := by
            cases h : L 7 with
            | false => rfl
            | true => have := hcl 7 _ rfl h 5 (by kernel_rfl); rw [hL] at this; cases this
          refine ⟨.pointer (some ⟨wq.heap.size, 0, none⟩), (g.1, wq.heap.size), wq.alloc (.cells #[.string sz, .int .i64 0] 50), by go_simp, rfl, old_set2B (.pointer (some ⟨wq.heap.size, 0, none⟩)) (.pointer (some ⟨wq.heap.size, 0, none⟩)) hL l7 rfl, ?_⟩
          have kn := (Kp.refl Nb wq).alloc (.cells #[.string sz, .int .i64 0] 50)
          refine ⟨hS.kp.trans kn (fun _ _ h => h), fun e1 => ?_, fun _ => ⟨?_, hS.kp.size⟩, fun e1 _ => ?_⟩
          · have a := hS.eye (by simpa [bitsAt, upd] using e1)
            exact ⟨a.1.kept kn (fun _ _ h => h), a.2⟩
          · have hb := Blk.new wq 50 [.string sz, .int .i64 0]
            show Blk _ _ _ [.string (st zs), .int .i64 0]
            rw [HSZ.out]
            exact hb
          · have a := hS.eye (by simpa [bitsAt, upd] using e1)
            have := a.1.lt
            show g.1 ≠ wq.heap.size
            omega
        refine GFrom.cons (GStep.val _ rfl rfl _ rfl (fun g => .pointer (some ⟨g.1, 0, none⟩)) (fun _ => rfl) (fun _ => trivial) (fun bs g ev wq hS he hr => ?_)) ?_
        · have r0 : ev (.tmp 45) = .pointer (some ⟨g.1, 0, none⟩) := hr (45, some 1) (by simp); have hk := he.1; clear hr he
          go_simp
        refine GFrom.cons (GStep.val _ rfl rfl _ rfl (fun g => .pointer (some ⟨g.2, 0, none⟩)) (fun _ => rfl) (fun _ => trivial) (fun bs g ev wq hS he hr => ?_)) ?_
        · have r0 : ev (.tmp 49) = .pointer (some ⟨g.2, 0, none⟩) := hr (49, some 5) (by simp); have hk := he.1; clear hr he
          go_simp
        exact GFrom.nil
      case hS => exact ⟨(Kp.refl Nb w5b).drew, fun h => by simp at h, fun h => by simp at h, fun h => by simp at h⟩
      case hend =>
      intro g w6 h6
      obtain ⟨E, X⟩ := g
      have a1 := h6.eye (by simp)
      have a2 := h6.ref (by simp)
      have NE := hid (h6.ne (by simp) (by simp))
      dsimp only at a1 a2 NE
      have k6 := h6.kp
      have HEY := hid (EyeOn.of a1.1 w6.heap.size (Nat.le_refl _))
      have HX6 := hid a2.1
      have HEX : Hid (w5b.heap.size ≤ E ∧ w5b.heap.size ≤ X ∧ X < w6.heap.size) := hid ⟨a1.2, a2.2, Blk.lt a2.1⟩
      have HP6 := hid (HP5.out.kept k6 (fun h => h) (fun _ _ h => h))
      have HPT6 : Hid (P < w5b.heap.size ∧ ∀ g, vP.ownBlock = some g → g < w5b.heap.size) := hid ⟨HP5.out.lt, fun g hg => (HP5.out.own.lt g hg).2⟩
      have K6 := hid (K5.out.trans k6 (fun _ _ h => h))
      clear a1 a2 k6 h6 CV RD HV5 HP5
      simp only [putAll, List.zip_cons_cons, List.zip_nil_right, List.foldl_cons, List.foldl_nil, Act.put, List.setIfInBounds_toArray, List.set_cons_zero, List.set_cons_succ]
      go_wp2_with fail
      have C := dget_any E zs 0 w6 (S := fun i => i = E ∨ w6.heap.size ≤ i) (fun i => Iff.rfl) HEY.out
      have hgl := getC_len zs HZB.out
      have CG := hid (fun W h => rgetc_any X zs W h HZB.out)
      obtain ⟨⟨L3, z3, e3⟩, hG⟩ : ∃ g, getC zs 0 = g := ⟨_, rfl⟩
      rw [hG] at C hgl CG
      dsimp only at C hgl CG
      refine C.mono ?_
      rintro r w7 ⟨vg, rfl, hm, ho, he, k7⟩
      have HX7 := hid (HX6.out.kept k7 (fun h => NE.out h.symm))
      have HM7 := hid hm
      have HO7 := hid ho
      have HE7 : Hid (EyeAt w7 E z3 e3) := hid (EyeOn.at he (fun i h => .inl h))
      have HP7 := hid (HP6.out.kept k7 (fun h => by have : P = E := h; have := HPT6.out.1; have := HEX.out.1; omega) (fun g hg h => by have : g = E := h; have := HPT6.out.2 g hg; have := HEX.out.1; omega))
      have K7 : Hid (Kp Nb w2 w7) := hid (K6.out.trans k7 (fun i hi h => by have : i = E := h; have := HEX.out.1; have := K5.out.size; omega))
      have HGL := hid hgl
      obtain ⟨nG, hnG⟩ : ∃ n, L3.length = n := ⟨_, rfl⟩
      have HNG := hid hnG
      obtain ⟨pg, dg, e⟩ := hm.shape
      rw [hnG] at e
      subst e
      clear C hm ho he k7 hgl hnG hG HEY HX6 HP6 K6
      go_wp2_with fail
      refine (CG.out w7 HX7.out).mono ?_
      rintro r w8 ⟨vi, rfl, hm2, r2, k8⟩
      have HM8 : Hid (ClSl w8 (.slice pg nG dg) L3) := hid (HM7.out.keptV k8 (fun g hg h => by have : g = X := h; have := (HO7.out g hg).1; have := HEX.out.2.2; omega))
      have HI8 := hid hm2
      have X8' := hid r2
      have E8 := hid (HE7.out.besideB HX7.out NE.out k8)
      have HP8 := hid (HP7.out.kept k8 (fun h => by have : P = X := h; have := HPT6.out.1; have := HEX.out.2.1; omega) (fun g hg h => by have : g = X := h; have := HPT6.out.2 g hg; have := HEX.out.2.1; omega))
      have K8 : Hid (Kp Nb w2 w8) := hid (K7.out.trans k8 (fun i hi h => by have : i = X := h; have := HEX.out.2.1; have := K5.out.size; omega))
      obtain ⟨pi, di, e⟩ := hm2.shape
      rw [HNG.out] at e
      subst e
      clear hm2 r2 k8 HE7 HP7 K7 HX7 HM7 CG
      have KW8 := hid (HF.out.k.trans K8.out (fun _ _ h => h))
      have CP1 := hid (dparse_any ls w8 HBD.out.2 (HM.out.kept KW8.out) (HE.out.kept KW8.out) (HT.out.kept KW8.out))
      have CP2 := hid (fun W => rparse_any ls W HBD.out.2)
      have hpl : (((parT ls).getD []).length ≤ 1000) := by
        cases hp : parT ls with
        | none => exact Nat.zero_le _
        | some c => have := parT_len hp; have := HBD.out.2; show c.length ≤ 1000; omega
      unfold ParOut at CP1 CP2
      obtain ⟨PC, hPC⟩ : ∃ c, (parT ls).getD [] = c := ⟨_, rfl⟩
      obtain ⟨pb, hpb⟩ : ∃ b, (parT ls).isSome = b := ⟨_, rfl⟩
      rw [hPC, hpb] at CP1 CP2
      rw [hPC] at hpl
      have HPCL := hid hpl
      rw [HLS.out] at CP1 CP2
      clear hPC hpb hpl
      go_wp2_with fail
      refine CP1.out.mono ?_
      rintro r w9 ⟨v9, rfl, m9, k9⟩
      have M9 := hid m9
      have HM9 := hid (HM8.out.kept k9)
      have HI9 := hid (HI8.out.kept k9)
      have X9' := hid (X8'.out.kept k9 (fun h => h))
      have E9 := hid (E8.out.kept k9 (fun _ _ h => h))
      have HP9 := hid (HP8.out.kept k9 (fun h => h) (fun _ _ h => h))
      have K9 := hid (K8.out.trans k9 (fun _ _ h => h))
      obtain ⟨nP, hnP⟩ : ∃ n, PC.length = n := ⟨_, rfl⟩
      have HNP := hid hnP
      obtain ⟨pt, dt, e⟩ := m9.shape
      rw [hnP] at e
      subst e
      clear m9 k9 hnP HM8 HI8 X8' E8 HP8 KW8 CP1
      go_wp2_with fail
      refine (CP2.out w9).mono ?_
      rintro r w10 ⟨v10, rfl, m10, k10⟩
      have M10b := hid m10
      have M10 := hid (M9.out.kept k10)
      have HM10 := hid (HM9.out.kept k10)
      have HI10 := hid (HI9.out.kept k10)
      have X10' := hid (X9'.out.kept k10 (fun h => h))
      have E10 := hid (E9.out.kept k10 (fun _ _ h => h))
      have HP10 := hid (HP9.out.kept k10 (fun h => h) (fun _ _ h => h))
      have K10 := hid (K9.out.trans k10 (fun _ _ h => h))
      obtain ⟨pu, du, e⟩ := m10.shape
      rw [HNP.out] at e
      subst e
      clear m10 k10 HM9 HI9 X9' E9 HP9 M9 K9 K8 CP2
      have HA10 := hid (HF.out.ha.kept K10.out)
      have HD10 := hid (HF.out.box.kept K10.out (fun h => h))
      have HT10 := hid (HT.out.kept (HF.out.k.trans K10.out (fun _ _ h => h)))
      have S3 := hid (st_size z3)
      obtain ⟨s3, hs3⟩ : ∃ s, st z3 = s := ⟨_, rfl⟩
      have X10 : Hid (Blk w10 X 50 [.string s3, .int .i64 e3]) := hid (by rw [← hs3]; exact X10'.out)
      rw [hs3] at S3
      clear hs3 X10'
      obtain ⟨tA, htA⟩ : ∃ s, bs (textC a) = s := ⟨_, rfl⟩
      have HTA := hid htA
      clear htA
      have CR : Hid (∀ wq, Kp Nb w10 wq → Calls Tryz.prog 10 #[.slice pa nA da] wq fun e w' => e = .returned (.bool true) ∧ Kp Nb wq w') := hid (fun wq k => by rw [← HRB.out]; exact rright_any _ a wq (HA10.out.kept k) (by have := HLE.out; omega))
      have CT : Hid (∀ wq, Kp Nb w10 wq → Calls Tryz.prog 37 #[.slice pa nA da] wq fun e w' => e = .returned (.string tA) ∧ Kp Nb wq w') := hid (fun wq k => by rw [← HTA.out]; exact text_any _ a wq (HA10.out.kept k) (by have := HLE.out; omega) (HT10.out.kept k))
      have CU : Hid (∀ wq, Kp Nb w10 wq → Calls Tryz.prog 38 #[.slice pa nA da] wq fun e w' => e = .returned (.string tA) ∧ Kp Nb wq w') := hid (fun wq k => by rw [← HTA.out]; exact rtext_any _ a wq (HA10.out.kept k) (by have := HLE.out; omega))
      have CS : Hid (∀ wq, Kp Nb w10 wq → Calls Tryz.prog 15 #[.slice pg nG dg, .slice pi nG di] wq fun e w' => e = .returned (.bool true) ∧ Kp Nb wq w') := hid (fun wq k => by
        have h := same_any _ _ L3 L3 wq (HM10.out.kept k) (HI10.out.kept k) (by have := HGL.out; omega) (by have := HGL.out; omega)
        rwa [decide_eq_true rfl] at h)
      have CSP : Hid (∀ wq, Kp Nb w10 wq → Calls Tryz.prog 15 #[.slice pt nP dt, .slice pu nP du] wq fun e w' => e = .returned (.bool true) ∧ Kp Nb wq w') := hid (fun wq k => by
        have h := same_any _ _ PC PC wq (M10.out.kept k) (M10b.out.kept k) (by have := HPCL.out; omega) (by have := HPCL.out; omega)
        rwa [decide_eq_true rfl] at h)
      have EQX : Hid (((sW).toList == (sW).toList) = true) := hid (beq_self_eq_true _)
      have EQT : Hid ((tA.toList == tA.toList) = true) := hid (beq_self_eq_true _)
      have EQP : Hid ((pb == pb) = true) := hid (beq_self_eq_true _)
      go_upto_region 13 with fail
      refine region_ghost (g0 := (undef : Value)) [none, none, none, none, none, none, some 55, none, none, none, none, none, none, none, none, none, none, none, none, none, none, none, none, none, none, none, none, none, none, none, none, none, none, none, none, none, none, none, none, none, none, none, none, none, none, none, none, none, none, none, none, none, none, none, none, none, none, none, none, none, none, none, none, none, some 0, some 1, some 2, some 3, some 4, some 5, some 6, some 7, some 8, some 9, some 10, some 11, some 12, some 13, some 14, some 15, some 16, some 17, some 18, some 19, some 20, some 21, some 22, some 23, some 24, some 25, some 26, some 27, some 28, some 29, some 30, some 31, some 32, some 33, some 34, some 35, some 36, some 37, some 38, some 39, some 40, some 41, some 42, some 43, some 44, some 45, some 46, some 47, some 48, some 49, some 50, some 51, some 52, some 53, some 54] [[(8, none)], [(3, none)], [(65, some 1)], [(66, some 2)], [(64, some 0), (67, some 3)], [(68, some 4)], [(7, none)], [(70, some 6)], [(71, some 7)], [(9, none)], [(72, some 8), (73, some 9)], [(69, some 5), (74, some 10)], [(75, some 11)], [(12, none)], [(13, none)], [(77, some 13), (78, some 14)], [(76, some 12), (79, some 15)], [(80, some 16)], [(10, none)], [(82, some 18)], [(11, none)], [(84, some 20)], [(85, some 21)], [(86, some 22)], [(83, some 19), (87, some 23)], [(81, some 17), (88, some 24)], [(89, some 25)], [(10, none)], [(91, some 27)], [(11, none)], [(93, some 29)], [(94, some 30)], [(95, some 31)], [(96, some 32)], [(92, some 28), (97, some 33)], [(90, some 26), (98, some 34)], [(99, some 35)], [(3, none)], [(101, some 37)], [(102, some 38)], [(3, none)], [(104, some 40)], [(105, some 41)], [(103, some 39), (106, some 42)], [(100, some 36), (107, some 43)], [(108, some 44)], [(15, none)], [(17, none)], [(110, some 46), (111, some 47)], [(109, some 45), (112, some 48)], [(113, some 49)], [(14, none)], [(16, none)], [(115, some 51), (116, some 52)], [(114, some 50), (117, some 53)], [(118, some 54)]] [some 64, some 65, some 66, some 67, some 68, some 69, some 70, some 71, some 72, some 73, some 74, some 75, some 76, some 77, some 78, some 79, some 80, some 81, some 82, some 83, some 84, some 85, some 86, some 87, some 88, some 89, some 90, some 91, some 92, some 93, some 94, some 95, some 96, some 97, some 98, some 99, some 100, some 101, some 102, some 103, some 104, some 105, some 106, some 107, some 108, some 109, some 110, some 111, some 112, some 113, some 114, some 115, some 116, some 117, some 118, some 6] (fun g => [.bool true, .pointer (some ⟨D, 0, none⟩), .slice pa nA da, .bool true, .bool true, .bool true, .pointer (some ⟨P, 0, none⟩), g, .string sW, .string sW, .bool true, .bool true, .bool true, .slice pg nG dg, .slice pi nG di, .bool true, .bool true, .bool true, .pointer (some ⟨E, 0, none⟩), .int .i64 e3, .pointer (some ⟨X, 0, none⟩), .pointer (some ⟨X, 0, none⟩), .pointer (some ⟨X, 1, none⟩), .int .i64 e3, .bool true, .bool true, .bool true, .pointer (some ⟨E, 0, none⟩), .int .i64 (z3.length : Int), .pointer (some ⟨X, 0, none⟩), .pointer (some ⟨X, 0, none⟩), .pointer (some ⟨X, 0, none⟩), .string s3, .int .i64 (z3.length : Int), .bool true, .bool true, .bool true, .pointer (some ⟨D, 0, none⟩), .slice pa nA da, .string tA, .pointer (some ⟨D, 0, none⟩), .slice pa nA da, .string tA, .bool true, .bool true, .bool true, .bool pb, .bool pb, .bool true, .bool true, .bool true, .slice pt nP dt, .slice pu nP du, .bool true, .bool true, .bool true]) [7] (RpB w10 zsP) (by kernel_rfl) (by kernel_rfl) (fun g => by kernel_rfl) (by kernel_rfl) ?hS (GFrom.all (n := 56) (by kernel_rfl) ?hstep) ?hend
      case hstep =>
        refine GFrom.cons (GStep.val _ rfl rfl _ rfl (fun g => .bool true) (fun _ => rfl) (fun _ => trivial) (fun bs g ev wq hS he hr => ?_)) ?_
        · have r0 : ev (.tmp 8) = .bool true := hr (8, none) (by simp); have hk := he.1; clear hr he
          go_simp
        refine GFrom.cons (GStep.val _ rfl rfl _ rfl (fun g => .pointer (some ⟨D, 0, none⟩)) (fun _ => rfl) (fun _ => trivial) (fun bs g ev wq hS he hr => ?_)) ?_
        · have r0 : ev (.tmp 3) = .pointer (some ⟨D, 0, none⟩) := hr (3, none) (by simp); have hk := he.1; clear hr he
          go_simp
        refine GFrom.cons (GStep.val _ rfl rfl _ rfl (fun g => .slice pa nA da) (fun _ => rfl) (fun _ => trivial) (fun bs g ev wq hS he hr => ?_)) ?_
        · have r0 : ev (.tmp 65) = .pointer (some ⟨D, 0, none⟩) := hr (65, some 1) (by simp); have hk := he.1; clear hr he
          have c0 := (show World.cell? wq ⟨D, 0, none⟩ = some (.slice pa nA da) from (HD10.out.kept hS.kp (fun h => h)).cell 0)
          go_simp
        refine GFrom.cons (GStep.call _ rfl rfl _ rfl (fun g => .bool true) (fun _ => rfl) (fun _ => trivial) 10 (fun g => #[.slice pa nA da]) (fun bs g ev wq hS he hr => ?_) (fun L g wq hd hL hS => ?_)) ?_
        · have r0 : ev (.tmp 66) = .slice pa nA da := hr (66, some 2) (by simp); have hk := he.1; have hf := he.2; clear hr he
          go_simp
        · exact (CR.out wq hS.kp).mono fun e w' ⟨h1, h2⟩ => ⟨h1, hS.step h2⟩
        refine GFrom.cons (GStep.val _ rfl rfl _ rfl (fun g => .bool true) (fun _ => rfl) (fun _ => trivial) (fun bs g ev wq hS he hr => ?_)) ?_
        · have r0 : ev (.tmp 64) = .bool true := hr (64, some 0) (by simp); have r1 : ev (.tmp 67) = .bool true := hr (67, some 3) (by simp); have hk := he.1; clear hr he
          go_simp
        refine GFrom.cons (GStep.val _ rfl rfl _ rfl (fun g => .bool true) (fun _ => rfl) (fun _ => trivial) (fun bs g ev wq hS he hr => ?_)) ?_
        · have r0 : ev (.tmp 68) = .bool true := hr (68, some 4) (by simp); have hk := he.1; clear hr he
          go_simp
        refine GFrom.cons (GStep.val _ rfl rfl _ rfl (fun g => .pointer (some ⟨P, 0, none⟩)) (fun _ => rfl) (fun _ => rfl) (fun bs g ev wq hS he hr => ?_)) ?_
        · have r0 : ev (.tmp 7) = .pointer (some ⟨P, 0, none⟩) := hr (7, none) (by simp); have hk := he.1; clear hr he
          go_simp
        refine GFrom.cons (GStep.callm _ rfl _ rfl (fun _ => rfl) 34 (fun g => #[.pointer (some ⟨P, 0, none⟩)]) (fun bs g ev wq hS he hr => ?_) (fun L g wq hL hd hcl hS => ?_)) ?_
        · have r0 : ev (.tmp 70) = .pointer (some ⟨P, 0, none⟩) := hr (70, some 6) (by simp); have hk := he.1; have hf := he.2; clear hr he
          go_simp
        · refine (pen_bytes P vP _ wq (HP10.out.kept hS.kp (fun h => h) (fun _ _ h => h)) HPL.out).mono ?_
          rintro e w' ⟨r, rfl, ow, kn⟩
          refine ⟨r, r, rfl, rfl, old_set1B r hL rfl, ?_⟩
          exact ⟨hS.kp.trans kn (fun _ _ h => h), fun _ => BySl.ofOwn ow HP10.out.bytes (fun _ _ _ h => h)⟩
        refine GFrom.cons (GStep.make _ rfl _ rfl (fun _ => rfl) (fun L g ev wq hL hd hcl hS he hr => ?_)) ?_
        · have r0 : ev (.tmp 71) = g := hr (71, some 7) (by simp); clear hr he
          have l7 : L 7 = true := hd 7 (by kernel_rfl)
          have hb := hS.by' (by simpa [bitsAt] using l7)
          obtain ⟨yg, cg, eg⟩ := BySl.sizeB hb
          have e1 := (conv_any hb).trans (by rw [HSW.out])
          rw [eg] at r0 e1
          exact ⟨.string sW, g, wq, by go_simp, rfl, fun _ _ => rfl, by rw [bitsAt_upd rfl]; exact hS⟩
        refine GFrom.cons (GStep.val _ rfl rfl _ rfl (fun g => .string sW) (fun _ => rfl) (fun _ => rfl) (fun bs g ev wq hS he hr => ?_)) ?_
        · have r0 : ev (.tmp 9) = .string sW := hr (9, none) (by simp); have hk := he.1; clear hr he
          go_simp
        refine GFrom.cons (GStep.val _ rfl rfl _ rfl (fun g => .bool true) (fun _ => rfl) (fun _ => rfl) (fun bs g ev wq hS he hr => ?_)) ?_
        · have r0 : ev (.tmp 72) = .string sW := hr (72, some 8) (by simp); have r1 : ev (.tmp 73) = .string sW := hr (73, some 9) (by simp); have hk := he.1; clear hr he
          have e1 := EQX.out
          go_simp
        refine GFrom.cons (GStep.val _ rfl rfl _ rfl (fun g => .bool true) (fun _ => rfl) (fun _ => trivial) (fun bs g ev wq hS he hr => ?_)) ?_
        · have r0 : ev (.tmp 69) = .bool true := hr (69, some 5) (by simp); have r1 : ev (.tmp 74) = .bool true := hr (74, some 10) (by simp); have hk := he.1; clear hr he
          go_simp
        refine GFrom.cons (GStep.val _ rfl rfl _ rfl (fun g => .bool true) (fun _ => rfl) (fun _ => trivial) (fun bs g ev wq hS he hr => ?_)) ?_
        · have r0 : ev (.tmp 75) = .bool true := hr (75, some 11) (by simp); have hk := he.1; clear hr he
          go_simp
        refine GFrom.cons (GStep.val _ rfl rfl _ rfl (fun g => .slice pg nG dg) (fun _ => rfl) (fun _ => rfl) (fun bs g ev wq hS he hr => ?_)) ?_
        · have r0 : ev (.tmp 12) = .slice pg nG dg := hr (12, none) (by simp); have hk := he.1; clear hr he
          go_simp
        refine GFrom.cons (GStep.val _ rfl rfl _ rfl (fun g => .slice pi nG di) (fun _ => rfl) (fun _ => rfl) (fun bs g ev wq hS he hr => ?_)) ?_
        · have r0 : ev (.tmp 13) = .slice pi nG di := hr (13, none) (by simp); have hk := he.1; clear hr he
          go_simp
        refine GFrom.cons (GStep.call _ rfl rfl _ rfl (fun g => .bool true) (fun _ => rfl) (fun _ => rfl) 15 (fun g => #[.slice pg nG dg, .slice pi nG di]) (fun bs g ev wq hS he hr => ?_) (fun L g wq hd hL hS => ?_)) ?_
        · have r0 : ev (.tmp 77) = .slice pg nG dg := hr (77, some 13) (by simp); have r1 : ev (.tmp 78) = .slice pi nG di := hr (78, some 14) (by simp); have hk := he.1; have hf := he.2; clear hr he
          go_simp
        · exact (CS.out wq hS.kp).mono fun e w' ⟨h1, h2⟩ => ⟨h1, hS.step h2⟩
        refine GFrom.cons (GStep.val _ rfl rfl _ rfl (fun g => .bool true) (fun _ => rfl) (fun _ => trivial) (fun bs g ev wq hS he hr => ?_)) ?_
        · have r0 : ev (.tmp 76) = .bool true := hr (76, some 12) (by simp); have r1 : ev (.tmp 79) = .bool true := hr (79, some 15) (by simp); have hk := he.1; clear hr he
          go_simp
        refine GFrom.cons (GStep.val _ rfl rfl _ rfl (fun g => .bool true) (fun _ => rfl) (fun _ => trivial) (fun bs g ev wq hS he hr => ?_)) ?_
        · have r0 : ev (.tmp 80) = .bool true := hr (80, some 16) (by simp); have hk := he.1; clear hr he
          go_simp
        refine GFrom.cons (GStep.val _ rfl rfl _ rfl (fun g => .pointer (some ⟨E, 0, none⟩)) (fun _ => rfl) (fun _ => rfl) (fun bs g ev wq hS he hr => ?_)) ?_
        · have r0 : ev (.tmp 10) = .pointer (some ⟨E, 0, none⟩) := hr (10, none) (by simp); have hk := he.1; clear hr he
          go_simp
        refine GFrom.cons (GStep.call _ rfl rfl _ rfl (fun g => .int .i64 e3) (fun _ => rfl) (fun _ => rfl) 35 (fun g => #[.pointer (some ⟨E, 0, none⟩)]) (fun bs g ev wq hS he hr => ?_) (fun L g wq hd hL hS => ?_)) ?_
        · have r0 : ev (.tmp 82) = .pointer (some ⟨E, 0, none⟩) := hr (82, some 18) (by simp); have hk := he.1; have hf := he.2; clear hr he
          go_simp
        · exact (err_any E z3 e3 wq (E10.out.kept hS.kp (fun _ _ h => h))).mono fun e w' ⟨h1, h2⟩ => ⟨h1, by rw [← h2]; exact hS⟩
        refine GFrom.cons (GStep.val _ rfl rfl _ rfl (fun g => .pointer (some ⟨X, 0, none⟩)) (fun _ => rfl) (fun _ => rfl) (fun bs g ev wq hS he hr => ?_)) ?_
        · have r0 : ev (.tmp 11) = .pointer (some ⟨X, 0, none⟩) := hr (11, none) (by simp); have hk := he.1; clear hr he
          go_simp
        refine GFrom.cons (GStep.val _ rfl rfl _ rfl (fun g => .pointer (some ⟨X, 0, none⟩)) (fun _ => rfl) (fun _ => rfl) (fun bs g ev wq hS he hr => ?_)) ?_
        · have r0 : ev (.tmp 84) = .pointer (some ⟨X, 0, none⟩) := hr (84, some 20) (by simp); have hk := he.1; clear hr he
          go_simp
        refine GFrom.cons (GStep.val _ rfl rfl _ rfl (fun g => .pointer (some ⟨X, 1, none⟩)) (fun _ => rfl) (fun _ => rfl) (fun bs g ev wq hS he hr => ?_)) ?_
        · have r0 : ev (.tmp 85) = .pointer (some ⟨X, 0, none⟩) := hr (85, some 21) (by simp); have hk := he.1; clear hr he
          go_simp
        refine GFrom.cons (GStep.val _ rfl rfl _ rfl (fun g => .int .i64 e3) (fun _ => rfl) (fun _ => rfl) (fun bs g ev wq hS he hr => ?_)) ?_
        · have r0 : ev (.tmp 86) = .pointer (some ⟨X, 1, none⟩) := hr (86, some 22) (by simp); have hk := he.1; clear hr he
          have c0 := (X10.out.kept hS.kp (fun h => h)).cell 1
          go_simp
        refine GFrom.cons (GStep.val _ rfl rfl _ rfl (fun g => .bool true) (fun _ => rfl) (fun _ => rfl) (fun bs g ev wq hS he hr => ?_)) ?_
        · have r0 : ev (.tmp 83) = .int .i64 e3 := hr (83, some 19) (by simp); have r1 : ev (.tmp 87) = .int .i64 e3 := hr (87, some 23) (by simp); have hk := he.1; clear hr he
          go_simp
        refine GFrom.cons (GStep.val _ rfl rfl _ rfl (fun g => .bool true) (fun _ => rfl) (fun _ => trivial) (fun bs g ev wq hS he hr => ?_)) ?_
        · have r0 : ev (.tmp 81) = .bool true := hr (81, some 17) (by simp); have r1 : ev (.tmp 88) = .bool true := hr (88, some 24) (by simp); have hk := he.1; clear hr he
          go_simp
        refine GFrom.cons (GStep.val _ rfl rfl _ rfl (fun g => .bool true) (fun _ => rfl) (fun _ => trivial) (fun bs g ev wq hS he hr => ?_)) ?_
        · have r0 : ev (.tmp 89) = .bool true := hr (89, some 25) (by simp); have hk := he.1; clear hr he
          go_simp
        refine GFrom.cons (GStep.val _ rfl rfl _ rfl (fun g => .pointer (some ⟨E, 0, none⟩)) (fun _ => rfl) (fun _ => rfl) (fun bs g ev wq hS he hr => ?_)) ?_
        · have r0 : ev (.tmp 10) = .pointer (some ⟨E, 0, none⟩) := hr (10, none) (by simp); have hk := he.1; clear hr he
          go_simp
        refine GFrom.cons (GStep.call _ rfl rfl _ rfl (fun g => .int .i64 (z3.length : Int)) (fun _ => rfl) (fun _ => rfl) 36 (fun g => #[.pointer (some ⟨E, 0, none⟩)]) (fun bs g ev wq hS he hr => ?_) (fun L g wq hd hL hS => ?_)) ?_
        · have r0 : ev (.tmp 91) = .pointer (some ⟨E, 0, none⟩) := hr (91, some 27) (by simp); have hk := he.1; have hf := he.2; clear hr he
          go_simp
        · exact (left_any E z3 e3 wq (E10.out.kept hS.kp (fun _ _ h => h))).mono fun e w' ⟨h1, h2⟩ => ⟨h1, by rw [← h2]; exact hS⟩
        refine GFrom.cons (GStep.val _ rfl rfl _ rfl (fun g => .pointer (some ⟨X, 0, none⟩)) (fun _ => rfl) (fun _ => rfl) (fun bs g ev wq hS he hr => ?_)) ?_
        · have r0 : ev (.tmp 11) = .pointer (some ⟨X, 0, none⟩) := hr (11, none) (by simp); have hk := he.1; clear hr he
          go_simp
        refine GFrom.cons (GStep.val _ rfl rfl _ rfl (fun g => .pointer (some ⟨X, 0, none⟩)) (fun _ => rfl) (fun _ => rfl) (fun bs g ev wq hS he hr => ?_)) ?_
        · have r0 : ev (.tmp 93) = .pointer (some ⟨X, 0, none⟩) := hr (93, some 29) (by simp); have hk := he.1; clear hr he
          go_simp
        refine GFrom.cons (GStep.val _ rfl rfl _ rfl (fun g => .pointer (some ⟨X, 0, none⟩)) (fun _ => rfl) (fun _ => rfl) (fun bs g ev wq hS he hr => ?_)) ?_
        · have r0 : ev (.tmp 94) = .pointer (some ⟨X, 0, none⟩) := hr (94, some 30) (by simp); have hk := he.1; clear hr he
          go_simp
        refine GFrom.cons (GStep.val _ rfl rfl _ rfl (fun g => .string s3) (fun _ => rfl) (fun _ => rfl) (fun bs g ev wq hS he hr => ?_)) ?_
        · have r0 : ev (.tmp 95) = .pointer (some ⟨X, 0, none⟩) := hr (95, some 31) (by simp); have hk := he.1; clear hr he
          have c0 := (X10.out.kept hS.kp (fun h => h)).cell 0
          go_simp
        refine GFrom.cons (GStep.val _ rfl rfl _ rfl (fun g => .int .i64 (z3.length : Int)) (fun _ => rfl) (fun _ => rfl) (fun bs g ev wq hS he hr => ?_)) ?_
        · have r0 : ev (.tmp 96) = .string s3 := hr (96, some 32) (by simp); have hk := he.1; clear hr he
          have e1 := S3.out
          go_simp
        refine GFrom.cons (GStep.val _ rfl rfl _ rfl (fun g => .bool true) (fun _ => rfl) (fun _ => rfl) (fun bs g ev wq hS he hr => ?_)) ?_
        · have r0 : ev (.tmp 92) = .int .i64 (z3.length : Int) := hr (92, some 28) (by simp); have r1 : ev (.tmp 97) = .int .i64 (z3.length : Int) := hr (97, some 33) (by simp); have hk := he.1; clear hr he
          go_simp
        refine GFrom.cons (GStep.val _ rfl rfl _ rfl (fun g => .bool true) (fun _ => rfl) (fun _ => trivial) (fun bs g ev wq hS he hr => ?_)) ?_
        · have r0 : ev (.tmp 90) = .bool true := hr (90, some 26) (by simp); have r1 : ev (.tmp 98) = .bool true := hr (98, some 34) (by simp); have hk := he.1; clear hr he
          go_simp
        refine GFrom.cons (GStep.val _ rfl rfl _ rfl (fun g => .bool true) (fun _ => rfl) (fun _ => trivial) (fun bs g ev wq hS he hr => ?_)) ?_
        · have r0 : ev (.tmp 99) = .bool true := hr (99, some 35) (by simp); have hk := he.1; clear hr he
          go_simp
        refine GFrom.cons (GStep.val _ rfl rfl _ rfl (fun g => .pointer (some ⟨D, 0, none⟩)) (fun _ => rfl) (fun _ => rfl) (fun bs g ev wq hS he hr => ?_)) ?_
        · have r0 : ev (.tmp 3) = .pointer (some ⟨D, 0, none⟩) := hr (3, none) (by simp); have hk := he.1; clear hr he
          go_simp
        refine GFrom.cons (GStep.val _ rfl rfl _ rfl (fun g => .slice pa nA da) (fun _ => rfl) (fun _ => rfl) (fun bs g ev wq hS he hr => ?_)) ?_
        · have r0 : ev (.tmp 101) = .pointer (some ⟨D, 0, none⟩) := hr (101, some 37) (by simp); have hk := he.1; clear hr he
          have c0 := (show World.cell? wq ⟨D, 0, none⟩ = some (.slice pa nA da) from (HD10.out.kept hS.kp (fun h => h)).cell 0)
          go_simp
        refine GFrom.cons (GStep.call _ rfl rfl _ rfl (fun g => .string tA) (fun _ => rfl) (fun _ => rfl) 37 (fun g => #[.slice pa nA da]) (fun bs g ev wq hS he hr => ?_) (fun L g wq hd hL hS => ?_)) ?_
        · have r0 : ev (.tmp 102) = .slice pa nA da := hr (102, some 38) (by simp); have hk := he.1; have hf := he.2; clear hr he
          go_simp
        · exact (CT.out wq hS.kp).mono fun e w' ⟨h1, h2⟩ => ⟨h1, hS.step h2⟩
        refine GFrom.cons (GStep.val _ rfl rfl _ rfl (fun g => .pointer (some ⟨D, 0, none⟩)) (fun _ => rfl) (fun _ => rfl) (fun bs g ev wq hS he hr => ?_)) ?_
        · have r0 : ev (.tmp 3) = .pointer (some ⟨D, 0, none⟩) := hr (3, none) (by simp); have hk := he.1; clear hr he
          go_simp
        refine GFrom.cons (GStep.val _ rfl rfl _ rfl (fun g => .slice pa nA da) (fun _ => rfl) (fun _ => rfl) (fun bs g ev wq hS he hr => ?_)) ?_
        · have r0 : ev (.tmp 104) = .pointer (some ⟨D, 0, none⟩) := hr (104, some 40) (by simp); have hk := he.1; clear hr he
          have c0 := (show World.cell? wq ⟨D, 0, none⟩ = some (.slice pa nA da) from (HD10.out.kept hS.kp (fun h => h)).cell 0)
          go_simp
        refine GFrom.cons (GStep.call _ rfl rfl _ rfl (fun g => .string tA) (fun _ => rfl) (fun _ => rfl) 38 (fun g => #[.slice pa nA da]) (fun bs g ev wq hS he hr => ?_) (fun L g wq hd hL hS => ?_)) ?_
        · have r0 : ev (.tmp 105) = .slice pa nA da := hr (105, some 41) (by simp); have hk := he.1; have hf := he.2; clear hr he
          go_simp
        · exact (CU.out wq hS.kp).mono fun e w' ⟨h1, h2⟩ => ⟨h1, hS.step h2⟩
        refine GFrom.cons (GStep.val _ rfl rfl _ rfl (fun g => .bool true) (fun _ => rfl) (fun _ => rfl) (fun bs g ev wq hS he hr => ?_)) ?_
        · have r0 : ev (.tmp 103) = .string tA := hr (103, some 39) (by simp); have r1 : ev (.tmp 106) = .string tA := hr (106, some 42) (by simp); have hk := he.1; clear hr he
          have e1 := EQT.out
          go_simp
        refine GFrom.cons (GStep.val _ rfl rfl _ rfl (fun g => .bool true) (fun _ => rfl) (fun _ => trivial) (fun bs g ev wq hS he hr => ?_)) ?_
        · have r0 : ev (.tmp 100) = .bool true := hr (100, some 36) (by simp); have r1 : ev (.tmp 107) = .bool true := hr (107, some 43) (by simp); have hk := he.1; clear hr he
          go_simp
        refine GFrom.cons (GStep.val _ rfl rfl _ rfl (fun g => .bool true) (fun _ => rfl) (fun _ => trivial) (fun bs g ev wq hS he hr => ?_)) ?_
        · have r0 : ev (.tmp 108) = .bool true := hr (108, some 44) (by simp); have hk := he.1; clear hr he
          go_simp
        refine GFrom.cons (GStep.val _ rfl rfl _ rfl (fun g => .bool pb) (fun _ => rfl) (fun _ => rfl) (fun bs g ev wq hS he hr => ?_)) ?_
        · have r0 : ev (.tmp 15) = .bool pb := hr (15, none) (by simp); have hk := he.1; clear hr he
          go_simp
        refine GFrom.cons (GStep.val _ rfl rfl _ rfl (fun g => .bool pb) (fun _ => rfl) (fun _ => rfl) (fun bs g ev wq hS he hr => ?_)) ?_
        · have r0 : ev (.tmp 17) = .bool pb := hr (17, none) (by simp); have hk := he.1; clear hr he
          go_simp
        refine GFrom.cons (GStep.val _ rfl rfl _ rfl (fun g => .bool true) (fun _ => rfl) (fun _ => rfl) (fun bs g ev wq hS he hr => ?_)) ?_
        · have r0 : ev (.tmp 110) = .bool pb := hr (110, some 46) (by simp); have r1 : ev (.tmp 111) = .bool pb := hr (111, some 47) (by simp); have hk := he.1; clear hr he
          have e1 := EQP.out
          go_simp
        refine GFrom.cons (GStep.val _ rfl rfl _ rfl (fun g => .bool true) (fun _ => rfl) (fun _ => trivial) (fun bs g ev wq hS he hr => ?_)) ?_
        · have r0 : ev (.tmp 109) = .bool true := hr (109, some 45) (by simp); have r1 : ev (.tmp 112) = .bool true := hr (112, some 48) (by simp); have hk := he.1; clear hr he
          go_simp
        refine GFrom.cons (GStep.val _ rfl rfl _ rfl (fun g => .bool true) (fun _ => rfl) (fun _ => trivial) (fun bs g ev wq hS he hr => ?_)) ?_
        · have r0 : ev (.tmp 113) = .bool true := hr (113, some 49) (by simp); have hk := he.1; clear hr he
          go_simp
        refine GFrom.cons (GStep.val _ rfl rfl _ rfl (fun g => .slice pt nP dt) (fun _ => rfl) (fun _ => rfl) (fun bs g ev wq hS he hr => ?_)) ?_
        · have r0 : ev (.tmp 14) = .slice pt nP dt := hr (14, none) (by simp); have hk := he.1; clear hr he
          go_simp
        refine GFrom.cons (GStep.val _ rfl rfl _ rfl (fun g => .slice pu nP du) (fun _ => rfl) (fun _ => rfl) (fun bs g ev wq hS he hr => ?_)) ?_
        · have r0 : ev (.tmp 16) = .slice pu nP du := hr (16, none) (by simp); have hk := he.1; clear hr he
          go_simp
        refine GFrom.cons (GStep.call _ rfl rfl _ rfl (fun g => .bool true) (fun _ => rfl) (fun _ => rfl) 15 (fun g => #[.slice pt nP dt, .slice pu nP du]) (fun bs g ev wq hS he hr => ?_) (fun L g wq hd hL hS => ?_)) ?_
        · have r0 : ev (.tmp 115) = .slice pt nP dt := hr (115, some 51) (by simp); have r1 : ev (.tmp 116) = .slice pu nP du := hr (116, some 52) (by simp); have hk := he.1; have hf := he.2; clear hr he
          go_simp
        · exact (CSP.out wq hS.kp).mono fun e w' ⟨h1, h2⟩ => ⟨h1, hS.step h2⟩
        refine GFrom.cons (GStep.val _ rfl rfl _ rfl (fun g => .bool true) (fun _ => rfl) (fun _ => trivial) (fun bs g ev wq hS he hr => ?_)) ?_
        · have r0 : ev (.tmp 114) = .bool true := hr (114, some 50) (by simp); have r1 : ev (.tmp 117) = .bool true := hr (117, some 53) (by simp); have hk := he.1; clear hr he
          go_simp
        refine GFrom.cons (GStep.val _ rfl rfl _ rfl (fun g => .bool true) (fun _ => rfl) (fun _ => trivial) (fun bs g ev wq hS he hr => ?_)) ?_
        · have r0 : ev (.tmp 118) = .bool true := hr (118, some 54) (by simp); have hk := he.1; clear hr he
          go_simp
        exact GFrom.nil
      case hS => exact ⟨(Kp.refl Nb w10).drew, fun h => by simp at h⟩
      case hend =>
      intro g w11 h11
      have K11 := hid (HF.out.k.trans (K10.out.trans h11.kp (fun _ _ h => h)) (fun _ _ h => h))
      clear h11
      simp only [putAll, List.zip_cons_cons, List.zip_nil_right, List.foldl_cons, List.foldl_nil, Act.put, List.setIfInBounds_toArray, List.set_cons_zero, List.set_cons_succ]
      go_wp2
      go_ret
      exact ⟨rfl, K11.out⟩
    | false =>
      obtain ⟨zsP, hzP⟩ : ∃ z : List Int, [] = z := ⟨_, rfl⟩
      have HP5 : Hid (PenAt w5 P vP zsP) := by rw [← hzP]; exact HP5
      have HPL : Hid (zsP.length ≤ 140737488355328) := hid (by rw [← hzP]; exact Nat.zero_le _)
      have HSW : Hid (st zsP = st []) := hid (by rw [← hzP])
      clear hzP HD5
      have HV5 := hid (HV.out.kept K5.out (fun _ h => h))
      have CV : Hid (∀ W, Kp Nb w5 W → (convert 40 9 (.slice y nB d)).run Tryz.prog W = .ok (.string sz) W) := hid (fun W k => by rw [← HSZ.out]; exact conv_any (HV5.out.kept k (fun _ h => h)))
      have RD : Hid (∀ W, Kp Nb w5 W → Calls Tryz.prog 29 #[.slice y nB d] W fun e w' => ∃ B, W.heap.size ≤ B ∧ e = .returned (.pointer (some ⟨B, 0, none⟩)) ∧ EyeAt w' B zs 0 ∧ Kp Nb W w') := hid (fun W k => read_any (S := Nb) _ zs W (HV5.out.kept k (fun _ h => h)) (by have := HNB.out; have := HBD.out; omega))
      go_upto_region 9 with fail
      refine region_ghost (g0 := ((0, 0) : Nat × Nat)) [none, none, none, none, none, none, none, none, none, none, some 6, some 7, none, none, none, none, none, none, none, none, none, none, none, none, none, none, none, none, none, none, none, none, none, none, none, none, none, none, none, none, none, none, none, none, some 0, some 1, some 2, some 3, some 4, some 5, none, none, none, none, none, none, none, none, none, none, none, none, none, none, none, none, none, none, none, none, none, none, none, none, none, none, none, none, none, none, none, none, none, none, none, none, none, none, none, none, none, none, none, none, none, none, none, none, none, none, none, none, none, none, none, none, none, none, none, none, none, none, none, none, none, none, none, none, none] [[(1, none)], [(44, some 0)], [(1, none)], [(46, some 2)], [(47, some 3)], [(48, some 4)], [(45, some 1)], [(49, some 5)]] [some 44, some 45, some 46, some 47, some 48, some 49, some 10, some 11] (fun g => [.slice y nB d, .pointer (some ⟨g.1, 0, none⟩), .slice y nB d, .string sz, .agg #[.string sz, .int .i64 0], .pointer (some ⟨g.2, 0, none⟩), .pointer (some ⟨g.1, 0, none⟩), .pointer (some ⟨g.2, 0, none⟩)]) [1, 5] (RdB w5 zs) (by kernel_rfl) (by kernel_rfl) (fun g => by kernel_rfl) (by kernel_rfl) ?hS (GFrom.all (n := 8) (by kernel_rfl) ?hstep) ?hend
      case hstep =>
        refine GFrom.cons (GStep.val _ rfl rfl _ rfl (fun g => .slice y nB d) (fun _ => rfl) (fun _ => trivial) (fun bs g ev wq hS he hr => ?_)) ?_
        · have r0 : ev (.tmp 1) = .slice y nB d := hr (1, none) (by simp); have hk := he.1; clear hr he
          go_simp
        refine GFrom.cons (GStep.callm _ rfl _ rfl (fun _ => trivial) 29 (fun g => #[.slice y nB d]) (fun bs g ev wq hS he hr => ?_) (fun L g wq hL hd hcl hS => ?_)) ?_
        · have r0 : ev (.tmp 44) = .slice y nB d := hr (44, some 0) (by simp); have hk := he.1; have hf := he.2; clear hr he
          go_simp
        · refine (RD.out wq hS.kp).mono ?_
          rintro e w' ⟨Bq, hB, rfl, hey, kn⟩
          have l6 : L 6 = false := by
            cases h : L 6 with
            | false => rfl
            | true => have := hcl 6 _ rfl h 1 (by kernel_rfl); rw [hL] at this; cases this
          refine ⟨_, (Bq, g.2), rfl, rfl, old_set2B (.pointer (some ⟨Bq, 0, none⟩)) (.pointer (some ⟨Bq, 0, none⟩)) hL l6 rfl, ?_⟩
          refine ⟨hS.kp.trans kn (fun _ _ h => h), fun _ => ⟨hey, Nat.le_trans hS.kp.size hB⟩, fun e1 => ?_, fun _ e2 => ?_⟩
          · have a := hS.ref (by simpa [bitsAt, upd] using e1)
            exact ⟨a.1.kept kn (fun h => h), a.2⟩
          · have a := hS.ref (by simpa [bitsAt, upd] using e2)
            have := Blk.lt a.1
            show Bq ≠ g.2
            omega
        refine GFrom.cons (GStep.val _ rfl rfl _ rfl (fun g => .slice y nB d) (fun _ => rfl) (fun _ => trivial) (fun bs g ev wq hS he hr => ?_)) ?_
        · have r0 : ev (.tmp 1) = .slice y nB d := hr (1, none) (by simp); have hk := he.1; clear hr he
          go_simp
        refine GFrom.cons (GStep.val _ rfl rfl _ rfl (fun g => .string sz) (fun _ => rfl) (fun _ => trivial) (fun bs g ev wq hS he hr => ?_)) ?_
        · have r0 : ev (.tmp 46) = .slice y nB d := hr (46, some 2) (by simp); have hk := he.1; clear hr he
          have e1 := CV.out wq hS.kp
          go_simp
        refine GFrom.cons (GStep.val _ rfl rfl _ rfl (fun g => .agg #[.string sz, .int .i64 0]) (fun _ => rfl) (fun _ => trivial) (fun bs g ev wq hS he hr => ?_)) ?_
        · have r0 : ev (.tmp 47) = .string sz := hr (47, some 3) (by simp); have hk := he.1; clear hr he
          go_simp
        refine GFrom.cons (GStep.make _ rfl _ rfl (fun _ => trivial) (fun L g ev wq hL hd hcl hS he hr => ?_)) ?_
        · have r0 : ev (.tmp 48) = .agg #[.string sz, .int .i64 0] := hr (48, some 4) (by simp); clear hr he
          have l7 : L 7 = false := by
            cases h : L 7 with
            | false => rfl
            | true => have := hcl 7 _ rfl h 5 (by kernel_rfl); rw [hL] at this; cases this
          refine ⟨.pointer (some ⟨wq.heap.size, 0, none⟩), (g.1, wq.heap.size), wq.alloc (.cells #[.string sz, .int .i64 0] 50), by go_simp, rfl, old_set2B (.pointer (some ⟨wq.heap.size, 0, none⟩)) (.pointer (some ⟨wq.heap.size, 0, none⟩)) hL l7 rfl, ?_⟩
          have kn := (Kp.refl Nb wq).alloc (.cells #[.string sz, .int .i64 0] 50)
          refine ⟨hS.kp.trans kn (fun _ _ h => h), fun e1 => ?_, fun _ => ⟨?_, hS.kp.size⟩, fun e1 _ => ?_⟩
          · have a := hS.eye (by simpa [bitsAt, upd] using e1)
            exact ⟨a.1.kept kn (fun _ _ h => h), a.2⟩
          · have hb := Blk.new wq 50 [.string sz, .int .i64 0]
            show Blk _ _ _ [.string (st zs), .int .i64 0]
            rw [HSZ.out]
            exact hb
          · have a := hS.eye (by simpa [bitsAt, upd] using e1)
            have := a.1.lt
            show g.1 ≠ wq.heap.size
            omega
        refine GFrom.cons (GStep.val _ rfl rfl _ rfl (fun g => .pointer (some ⟨g.1, 0, none⟩)) (fun _ => rfl) (fun _ => trivial) (fun bs g ev wq hS he hr => ?_)) ?_
        · have r0 : ev (.tmp 45) = .pointer (some ⟨g.1, 0, none⟩) := hr (45, some 1) (by simp); have hk := he.1; clear hr he
          go_simp
        refine GFrom.cons (GStep.val _ rfl rfl _ rfl (fun g => .pointer (some ⟨g.2, 0, none⟩)) (fun _ => rfl) (fun _ => trivial) (fun bs g ev wq hS he hr => ?_)) ?_
        · have r0 : ev (.tmp 49) = .pointer (some ⟨g.2, 0, none⟩) := hr (49, some 5) (by simp); have hk := he.1; clear hr he
          go_simp
        exact GFrom.nil
      case hS => exact ⟨(Kp.refl Nb w5).drew, fun h => by simp at h, fun h => by simp at h, fun h => by simp at h⟩
      case hend =>
      intro g w6 h6
      obtain ⟨E, X⟩ := g
      have a1 := h6.eye (by simp)
      have a2 := h6.ref (by simp)
      have NE := hid (h6.ne (by simp) (by simp))
      dsimp only at a1 a2 NE
      have k6 := h6.kp
      have HEY := hid (EyeOn.of a1.1 w6.heap.size (Nat.le_refl _))
      have HX6 := hid a2.1
      have HEX : Hid (w5.heap.size ≤ E ∧ w5.heap.size ≤ X ∧ X < w6.heap.size) := hid ⟨a1.2, a2.2, Blk.lt a2.1⟩
      have HP6 := hid (HP5.out.kept k6 (fun h => h) (fun _ _ h => h))
      have HPT6 : Hid (P < w5.heap.size ∧ ∀ g, vP.ownBlock = some g → g < w5.heap.size) := hid ⟨HP5.out.lt, fun g hg => (HP5.out.own.lt g hg).2⟩
      have K6 := hid (K5.out.trans k6 (fun _ _ h => h))
      clear a1 a2 k6 h6 CV RD HV5 HP5
      simp only [putAll, List.zip_cons_cons, List.zip_nil_right, List.foldl_cons, List.foldl_nil, Act.put, List.setIfInBounds_toArray, List.set_cons_zero, List.set_cons_succ]
      go_wp2_with fail
      have C := dget_any E zs 0 w6 (S := fun i => i = E ∨ w6.heap.size ≤ i) (fun i => Iff.rfl) HEY.out
      have hgl := getC_len zs HZB.out
      have CG := hid (fun W h => rgetc_any X zs W h HZB.out)
      obtain ⟨⟨L3, z3, e3⟩, hG⟩ : ∃ g, getC zs 0 = g := ⟨_, rfl⟩
      rw [hG] at C hgl CG
      dsimp only at C hgl CG
      refine C.mono ?_
      rintro r w7 ⟨vg, rfl, hm, ho, he, k7⟩
      have HX7 := hid (HX6.out.kept k7 (fun h => NE.out h.symm))
      have HM7 := hid hm
      have HO7 := hid ho
      have HE7 : Hid (EyeAt w7 E z3 e3) := hid (EyeOn.at he (fun i h => .inl h))
      have HP7 := hid (HP6.out.kept k7 (fun h => by have : P = E := h; have := HPT6.out.1; have := HEX.out.1; omega) (fun g hg h => by have : g = E := h; have := HPT6.out.2 g hg; have := HEX.out.1; omega))
      have K7 : Hid (Kp Nb w2 w7) := hid (K6.out.trans k7 (fun i hi h => by have : i = E := h; have := HEX.out.1; have := K5.out.size; omega))
      have HGL := hid hgl
      obtain ⟨nG, hnG⟩ : ∃ n, L3.length = n := ⟨_, rfl⟩
      have HNG := hid hnG
      obtain ⟨pg, dg, e⟩ := hm.shape
      rw [hnG] at e
      subst e
      clear C hm ho he k7 hgl hnG hG HEY HX6 HP6 K6
      go_wp2_with fail
      refine (CG.out w7 HX7.out).mono ?_
      rintro r w8 ⟨vi, rfl, hm2, r2, k8⟩
      have HM8 : Hid (ClSl w8 (.slice pg nG dg) L3) := hid (HM7.out.keptV k8 (fun g hg h => by have : g = X := h; have := (HO7.out g hg).1; have := HEX.out.2.2; omega))
      have HI8 := hid hm2
      have X8' := hid r2
      have E8 := hid (HE7.out.besideB HX7.out NE.out k8)
      have HP8 := hid (HP7.out.kept k8 (fun h => by have : P = X := h; have := HPT6.out.1; have := HEX.out.2.1; omega) (fun g hg h => by have : g = X := h; have := HPT6.out.2 g hg; have := HEX.out.2.1; omega))
      have K8 : Hid (Kp Nb w2 w8) := hid (K7.out.trans k8 (fun i hi h => by have : i = X := h; have := HEX.out.2.1; have := K5.out.size; omega))
      obtain ⟨pi, di, e⟩ := hm2.shape
      rw [HNG.out] at e
      subst e
      clear hm2 r2 k8 HE7 HP7 K7 HX7 HM7 CG
      have KW8 := hid (HF.out.k.trans K8.out (fun _ _ h => h))
      have CP1 := hid (dparse_any ls w8 HBD.out.2 (HM.out.kept KW8.out) (HE.out.kept KW8.out) (HT.out.kept KW8.out))
      have CP2 := hid (fun W => rparse_any ls W HBD.out.2)
      have hpl : (((parT ls).getD []).length ≤ 1000) := by
        cases hp : parT ls with
        | none => exact Nat.zero_le _
        | some c => have := parT_len hp; have := HBD.out.2; show c.length ≤ 1000; omega
      unfold ParOut at CP1 CP2
      obtain ⟨PC, hPC⟩ : ∃ c, (parT ls).getD [] = c := ⟨_, rfl⟩
      obtain ⟨pb, hpb⟩ : ∃ b, (parT ls).isSome = b := ⟨_, rfl⟩
      rw [hPC, hpb] at CP1 CP2
      rw [hPC] at hpl
      have HPCL := hid hpl
      rw [HLS.out] at CP1 CP2
      clear hPC hpb hpl
      go_wp2_with fail
      refine CP1.out.mono ?_
      rintro r w9 ⟨v9, rfl, m9, k9⟩
      have M9 := hid m9
      have HM9 := hid (HM8.out.kept k9)
      have HI9 := hid (HI8.out.kept k9)
      have X9' := hid (X8'.out.kept k9 (fun h => h))
      have E9 := hid (E8.out.kept k9 (fun _ _ h => h))
      have HP9 := hid (HP8.out.kept k9 (fun h => h) (fun _ _ h => h))
      have K9 := hid (K8.out.trans k9 (fun _ _ h => h))
      obtain ⟨nP, hnP⟩ : ∃ n, PC.length = n := ⟨_, rfl⟩
      have HNP := hid hnP
      obtain ⟨pt, dt, e⟩ := m9.shape
      rw [hnP] at e
      subst e
      clear m9 k9 hnP HM8 HI8 X8' E8 HP8 KW8 CP1
      go_wp2_with fail
      refine (CP2.out w9).mono ?_
      rintro r w10 ⟨v10, rfl, m10, k10⟩
      have M10b := hid m10
      have M10 := hid (M9.out.kept k10)
      have HM10 := hid (HM9.out.kept k10)
      have HI10 := hid (HI9.out.kept k10)
      have X10' := hid (X9'.out.kept k10 (fun h => h))
      have E10 := hid (E9.out.kept k10 (fun _ _ h => h))
      have HP10 := hid (HP9.out.kept k10 (fun h => h) (fun _ _ h => h))
      have K10 := hid (K9.out.trans k10 (fun _ _ h => h))
      obtain ⟨pu, du, e⟩ := m10.shape
      rw [HNP.out] at e
      subst e
      clear m10 k10 HM9 HI9 X9' E9 HP9 M9 K9 K8 CP2
      have HA10 := hid (HF.out.ha.kept K10.out)
      have HD10 := hid (HF.out.box.kept K10.out (fun h => h))
      have HT10 := hid (HT.out.kept (HF.out.k.trans K10.out (fun _ _ h => h)))
      have S3 := hid (st_size z3)
      obtain ⟨s3, hs3⟩ : ∃ s, st z3 = s := ⟨_, rfl⟩
      have X10 : Hid (Blk w10 X 50 [.string s3, .int .i64 e3]) := hid (by rw [← hs3]; exact X10'.out)
      rw [hs3] at S3
      clear hs3 X10'
      obtain ⟨tA, htA⟩ : ∃ s, bs (textC a) = s := ⟨_, rfl⟩
      have HTA := hid htA
      clear htA
      have CR : Hid (∀ wq, Kp Nb w10 wq → Calls Tryz.prog 10 #[.slice pa nA da] wq fun e w' => e = .returned (.bool false) ∧ Kp Nb wq w') := hid (fun wq k => by rw [← HRB.out]; exact rright_any _ a wq (HA10.out.kept k) (by have := HLE.out; omega))
      have CT : Hid (∀ wq, Kp Nb w10 wq → Calls Tryz.prog 37 #[.slice pa nA da] wq fun e w' => e = .returned (.string tA) ∧ Kp Nb wq w') := hid (fun wq k => by rw [← HTA.out]; exact text_any _ a wq (HA10.out.kept k) (by have := HLE.out; omega) (HT10.out.kept k))
      have CU : Hid (∀ wq, Kp Nb w10 wq → Calls Tryz.prog 38 #[.slice pa nA da] wq fun e w' => e = .returned (.string tA) ∧ Kp Nb wq w') := hid (fun wq k => by rw [← HTA.out]; exact rtext_any _ a wq (HA10.out.kept k) (by have := HLE.out; omega))
      have CS : Hid (∀ wq, Kp Nb w10 wq → Calls Tryz.prog 15 #[.slice pg nG dg, .slice pi nG di] wq fun e w' => e = .returned (.bool true) ∧ Kp Nb wq w') := hid (fun wq k => by
        have h := same_any _ _ L3 L3 wq (HM10.out.kept k) (HI10.out.kept k) (by have := HGL.out; omega) (by have := HGL.out; omega)
        rwa [decide_eq_true rfl] at h)
      have CSP : Hid (∀ wq, Kp Nb w10 wq → Calls Tryz.prog 15 #[.slice pt nP dt, .slice pu nP du] wq fun e w' => e = .returned (.bool true) ∧ Kp Nb wq w') := hid (fun wq k => by
        have h := same_any _ _ PC PC wq (M10.out.kept k) (M10b.out.kept k) (by have := HPCL.out; omega) (by have := HPCL.out; omega)
        rwa [decide_eq_true rfl] at h)
      have EQX : Hid ((((st [])).toList == ((st [])).toList) = true) := hid (beq_self_eq_true _)
      have EQT : Hid ((tA.toList == tA.toList) = true) := hid (beq_self_eq_true _)
      have EQP : Hid ((pb == pb) = true) := hid (beq_self_eq_true _)
      go_upto_region 13 with fail
      refine region_ghost (g0 := (undef : Value)) [none, none, none, none, none, none, some 55, none, none, none, none, none, none, none, none, none, none, none, none, none, none, none, none, none, none, none, none, none, none, none, none, none, none, none, none, none, none, none, none, none, none, none, none, none, none, none, none, none, none, none, none, none, none, none, none, none, none, none, none, none, none, none, none, none, some 0, some 1, some 2, some 3, some 4, some 5, some 6, some 7, some 8, some 9, some 10, some 11, some 12, some 13, some 14, some 15, some 16, some 17, some 18, some 19, some 20, some 21, some 22, some 23, some 24, some 25, some 26, some 27, some 28, some 29, some 30, some 31, some 32, some 33, some 34, some 35, some 36, some 37, some 38, some 39, some 40, some 41, some 42, some 43, some 44, some 45, some 46, some 47, some 48, some 49, some 50, some 51, some 52, some 53, some 54] [[(8, none)], [(3, none)], [(65, some 1)], [(66, some 2)], [(64, some 0), (67, some 3)], [(68, some 4)], [(7, none)], [(70, some 6)], [(71, some 7)], [(9, none)], [(72, some 8), (73, some 9)], [(69, some 5), (74, some 10)], [(75, some 11)], [(12, none)], [(13, none)], [(77, some 13), (78, some 14)], [(76, some 12), (79, some 15)], [(80, some 16)], [(10, none)], [(82, some 18)], [(11, none)], [(84, some 20)], [(85, some 21)], [(86, some 22)], [(83, some 19), (87, some 23)], [(81, some 17), (88, some 24)], [(89, some 25)], [(10, none)], [(91, some 27)], [(11, none)], [(93, some 29)], [(94, some 30)], [(95, some 31)], [(96, some 32)], [(92, some 28), (97, some 33)], [(90, some 26), (98, some 34)], [(99, some 35)], [(3, none)], [(101, some 37)], [(102, some 38)], [(3, none)], [(104, some 40)], [(105, some 41)], [(103, some 39), (106, some 42)], [(100, some 36), (107, some 43)], [(108, some 44)], [(15, none)], [(17, none)], [(110, some 46), (111, some 47)], [(109, some 45), (112, some 48)], [(113, some 49)], [(14, none)], [(16, none)], [(115, some 51), (116, some 52)], [(114, some 50), (117, some 53)], [(118, some 54)]] [some 64, some 65, some 66, some 67, some 68, some 69, some 70, some 71, some 72, some 73, some 74, some 75, some 76, some 77, some 78, some 79, some 80, some 81, some 82, some 83, some 84, some 85, some 86, some 87, some 88, some 89, some 90, some 91, some 92, some 93, some 94, some 95, some 96, some 97, some 98, some 99, some 100, some 101, some 102, some 103, some 104, some 105, some 106, some 107, some 108, some 109, some 110, some 111, some 112, some 113, some 114, some 115, some 116, some 117, some 118, some 6] (fun g => [.bool false, .pointer (some ⟨D, 0, none⟩), .slice pa nA da, .bool false, .bool true, .bool true, .pointer (some ⟨P, 0, none⟩), g, .string (st []), .string (st []), .bool true, .bool true, .bool true, .slice pg nG dg, .slice pi nG di, .bool true, .bool true, .bool true, .pointer (some ⟨E, 0, none⟩), .int .i64 e3, .pointer (some ⟨X, 0, none⟩), .pointer (some ⟨X, 0, none⟩), .pointer (some ⟨X, 1, none⟩), .int .i64 e3, .bool true, .bool true, .bool true, .pointer (some ⟨E, 0, none⟩), .int .i64 (z3.length : Int), .pointer (some ⟨X, 0, none⟩), .pointer (some ⟨X, 0, none⟩), .pointer (some ⟨X, 0, none⟩), .string s3, .int .i64 (z3.length : Int), .bool true, .bool true, .bool true, .pointer (some ⟨D, 0, none⟩), .slice pa nA da, .string tA, .pointer (some ⟨D, 0, none⟩), .slice pa nA da, .string tA, .bool true, .bool true, .bool true, .bool pb, .bool pb, .bool true, .bool true, .bool true, .slice pt nP dt, .slice pu nP du, .bool true, .bool true, .bool true]) [7] (RpB w10 zsP) (by kernel_rfl) (by kernel_rfl) (fun g => by kernel_rfl) (by kernel_rfl) ?hS (GFrom.all (n := 56) (by kernel_rfl) ?hstep) ?hend
      case hstep =>
        refine GFrom.cons (GStep.val _ rfl rfl _ rfl (fun g => .bool false) (fun _ => rfl) (fun _ => trivial) (fun bs g ev wq hS he hr => ?_)) ?_
        · have r0 : ev (.tmp 8) = .bool false := hr (8, none) (by simp); have hk := he.1; clear hr he
          go_simp
        refine GFrom.cons (GStep.val _ rfl rfl _ rfl (fun g => .pointer (some ⟨D, 0, none⟩)) (fun _ => rfl) (fun _ => trivial) (fun bs g ev wq hS he hr => ?_)) ?_
        · have r0 : ev (.tmp 3) = .pointer (some ⟨D, 0, none⟩) := hr (3, none) (by simp); have hk := he.1; clear hr he
          go_simp
        refine GFrom.cons (GStep.val _ rfl rfl _ rfl (fun g => .slice pa nA da) (fun _ => rfl) (fun _ => trivial) (fun bs g ev wq hS he hr => ?_)) ?_
        · have r0 : ev (.tmp 65) = .pointer (some ⟨D, 0, none⟩) := hr (65, some 1) (by simp); have hk := he.1; clear hr he
          have c0 := (show World.cell? wq ⟨D, 0, none⟩ = some (.slice pa nA da) from (HD10.out.kept hS.kp (fun h => h)).cell 0)
          go_simp
        refine GFrom.cons (GStep.call _ rfl rfl _ rfl (fun g => .bool false) (fun _ => rfl) (fun _ => trivial) 10 (fun g => #[.slice pa nA da]) (fun bs g ev wq hS he hr => ?_) (fun L g wq hd hL hS => ?_)) ?_
        · have r0 : ev (.tmp 66) = .slice pa nA da := hr (66, some 2) (by simp); have hk := he.1; have hf := he.2; clear hr he
          go_simp
        · exact (CR.out wq hS.kp).mono fun e w' ⟨h1, h2⟩ => ⟨h1, hS.step h2⟩
        refine GFrom.cons (GStep.val _ rfl rfl _ rfl (fun g => .bool true) (fun _ => rfl) (fun _ => trivial) (fun bs g ev wq hS he hr => ?_)) ?_
        · have r0 : ev (.tmp 64) = .bool false := hr (64, some 0) (by simp); have r1 : ev (.tmp 67) = .bool false := hr (67, some 3) (by simp); have hk := he.1; clear hr he
          go_simp
        refine GFrom.cons (GStep.val _ rfl rfl _ rfl (fun g => .bool true) (fun _ => rfl) (fun _ => trivial) (fun bs g ev wq hS he hr => ?_)) ?_
        · have r0 : ev (.tmp 68) = .bool true := hr (68, some 4) (by simp); have hk := he.1; clear hr he
          go_simp
        refine GFrom.cons (GStep.val _ rfl rfl _ rfl (fun g => .pointer (some ⟨P, 0, none⟩)) (fun _ => rfl) (fun _ => rfl) (fun bs g ev wq hS he hr => ?_)) ?_
        · have r0 : ev (.tmp 7) = .pointer (some ⟨P, 0, none⟩) := hr (7, none) (by simp); have hk := he.1; clear hr he
          go_simp
        refine GFrom.cons (GStep.callm _ rfl _ rfl (fun _ => rfl) 34 (fun g => #[.pointer (some ⟨P, 0, none⟩)]) (fun bs g ev wq hS he hr => ?_) (fun L g wq hL hd hcl hS => ?_)) ?_
        · have r0 : ev (.tmp 70) = .pointer (some ⟨P, 0, none⟩) := hr (70, some 6) (by simp); have hk := he.1; have hf := he.2; clear hr he
          go_simp
        · refine (pen_bytes P vP _ wq (HP10.out.kept hS.kp (fun h => h) (fun _ _ h => h)) HPL.out).mono ?_
          rintro e w' ⟨r, rfl, ow, kn⟩
          refine ⟨r, r, rfl, rfl, old_set1B r hL rfl, ?_⟩
          exact ⟨hS.kp.trans kn (fun _ _ h => h), fun _ => BySl.ofOwn ow HP10.out.bytes (fun _ _ _ h => h)⟩
        refine GFrom.cons (GStep.make _ rfl _ rfl (fun _ => rfl) (fun L g ev wq hL hd hcl hS he hr => ?_)) ?_
        · have r0 : ev (.tmp 71) = g := hr (71, some 7) (by simp); clear hr he
          have l7 : L 7 = true := hd 7 (by kernel_rfl)
          have hb := hS.by' (by simpa [bitsAt] using l7)
          obtain ⟨yg, cg, eg⟩ := BySl.sizeB hb
          have e1 := (conv_any hb).trans (by rw [HSW.out])
          rw [eg] at r0 e1
          exact ⟨.string (st []), g, wq, by go_simp, rfl, fun _ _ => rfl, by rw [bitsAt_upd rfl]; exact hS⟩
        refine GFrom.cons (GStep.val _ rfl rfl _ rfl (fun g => .string (st [])) (fun _ => rfl) (fun _ => rfl) (fun bs g ev wq hS he hr => ?_)) ?_
        · have r0 : ev (.tmp 9) = .string (st []) := hr (9, none) (by simp); have hk := he.1; clear hr he
          go_simp
        refine GFrom.cons (GStep.val _ rfl rfl _ rfl (fun g => .bool true) (fun _ => rfl) (fun _ => rfl) (fun bs g ev wq hS he hr => ?_)) ?_
        · have r0 : ev (.tmp 72) = .string (st []) := hr (72, some 8) (by simp); have r1 : ev (.tmp 73) = .string (st []) := hr (73, some 9) (by simp); have hk := he.1; clear hr he
          have e1 := EQX.out
          go_simp
        refine GFrom.cons (GStep.val _ rfl rfl _ rfl (fun g => .bool true) (fun _ => rfl) (fun _ => trivial) (fun bs g ev wq hS he hr => ?_)) ?_
        · have r0 : ev (.tmp 69) = .bool true := hr (69, some 5) (by simp); have r1 : ev (.tmp 74) = .bool true := hr (74, some 10) (by simp); have hk := he.1; clear hr he
          go_simp
        refine GFrom.cons (GStep.val _ rfl rfl _ rfl (fun g => .bool true) (fun _ => rfl) (fun _ => trivial) (fun bs g ev wq hS he hr => ?_)) ?_
        · have r0 : ev (.tmp 75) = .bool true := hr (75, some 11) (by simp); have hk := he.1; clear hr he
          go_simp
        refine GFrom.cons (GStep.val _ rfl rfl _ rfl (fun g => .slice pg nG dg) (fun _ => rfl) (fun _ => rfl) (fun bs g ev wq hS he hr => ?_)) ?_
        · have r0 : ev (.tmp 12) = .slice pg nG dg := hr (12, none) (by simp); have hk := he.1; clear hr he
          go_simp
        refine GFrom.cons (GStep.val _ rfl rfl _ rfl (fun g => .slice pi nG di) (fun _ => rfl) (fun _ => rfl) (fun bs g ev wq hS he hr => ?_)) ?_
        · have r0 : ev (.tmp 13) = .slice pi nG di := hr (13, none) (by simp); have hk := he.1; clear hr he
          go_simp
        refine GFrom.cons (GStep.call _ rfl rfl _ rfl (fun g => .bool true) (fun _ => rfl) (fun _ => rfl) 15 (fun g => #[.slice pg nG dg, .slice pi nG di]) (fun bs g ev wq hS he hr => ?_) (fun L g wq hd hL hS => ?_)) ?_
        · have r0 : ev (.tmp 77) = .slice pg nG dg := hr (77, some 13) (by simp); have r1 : ev (.tmp 78) = .slice pi nG di := hr (78, some 14) (by simp); have hk := he.1; have hf := he.2; clear hr he
          go_simp
        · exact (CS.out wq hS.kp).mono fun e w' ⟨h1, h2⟩ => ⟨h1, hS.step h2⟩
        refine GFrom.cons (GStep.val _ rfl rfl _ rfl (fun g => .bool true) (fun _ => rfl) (fun _ => trivial) (fun bs g ev wq hS he hr => ?_)) ?_
        · have r0 : ev (.tmp 76) = .bool true := hr (76, some 12) (by simp); have r1 : ev (.tmp 79) = .bool true := hr (79, some 15) (by simp); have hk := he.1; clear hr he
          go_simp
        refine GFrom.cons (GStep.val _ rfl rfl _ rfl (fun g => .bool true) (fun _ => rfl) (fun _ => trivial) (fun bs g ev wq hS he hr => ?_)) ?_
        · have r0 : ev (.tmp 80) = .bool true := hr (80, some 16) (by simp); have hk := he.1; clear hr he
          go_simp
        refine GFrom.cons (GStep.val _ rfl rfl _ rfl (fun g => .pointer (some ⟨E, 0, none⟩)) (fun _ => rfl) (fun _ => rfl) (fun bs g ev wq hS he hr => ?_)) ?_
        · have r0 : ev (.tmp 10) = .pointer (some ⟨E, 0, none⟩) := hr (10, none) (by simp); have hk := he.1; clear hr he
          go_simp
        refine GFrom.cons (GStep.call _ rfl rfl _ rfl (fun g => .int .i64 e3) (fun _ => rfl) (fun _ => rfl) 35 (fun g => #[.pointer (some ⟨E, 0, none⟩)]) (fun bs g ev wq hS he hr => ?_) (fun L g wq hd hL hS => ?_)) ?_
        · have r0 : ev (.tmp 82) = .pointer (some ⟨E, 0, none⟩) := hr (82, some 18) (by simp); have hk := he.1; have hf := he.2; clear hr he
          go_simp
        · exact (err_any E z3 e3 wq (E10.out.kept hS.kp (fun _ _ h => h))).mono fun e w' ⟨h1, h2⟩ => ⟨h1, by rw [← h2]; exact hS⟩
        refine GFrom.cons (GStep.val _ rfl rfl _ rfl (fun g => .pointer (some ⟨X, 0, none⟩)) (fun _ => rfl) (fun _ => rfl) (fun bs g ev wq hS he hr => ?_)) ?_
        · have r0 : ev (.tmp 11) = .pointer (some ⟨X, 0, none⟩) := hr (11, none) (by simp); have hk := he.1; clear hr he
          go_simp
        refine GFrom.cons (GStep.val _ rfl rfl _ rfl (fun g => .pointer (some ⟨X, 0, none⟩)) (fun _ => rfl) (fun _ => rfl) (fun bs g ev wq hS he hr => ?_)) ?_
        · have r0 : ev (.tmp 84) = .pointer (some ⟨X, 0, none⟩) := hr (84, some 20) (by simp); have hk := he.1; clear hr he
          go_simp
        refine GFrom.cons (GStep.val _ rfl rfl _ rfl (fun g => .pointer (some ⟨X, 1, none⟩)) (fun _ => rfl) (fun _ => rfl) (fun bs g ev wq hS he hr => ?_)) ?_
        · have r0 : ev (.tmp 85) = .pointer (some ⟨X, 0, none⟩) := hr (85, some 21) (by simp); have hk := he.1; clear hr he
          go_simp
        refine GFrom.cons (GStep.val _ rfl rfl _ rfl (fun g => .int .i64 e3) (fun _ => rfl) (fun _ => rfl) (fun bs g ev wq hS he hr => ?_)) ?_
        · have r0 : ev (.tmp 86) = .pointer (some ⟨X, 1, none⟩) := hr (86, some 22) (by simp); have hk := he.1; clear hr he
          have c0 := (X10.out.kept hS.kp (fun h => h)).cell 1
          go_simp
        refine GFrom.cons (GStep.val _ rfl rfl _ rfl (fun g => .bool true) (fun _ => rfl) (fun _ => rfl) (fun bs g ev wq hS he hr => ?_)) ?_
        · have r0 : ev (.tmp 83) = .int .i64 e3 := hr (83, some 19) (by simp); have r1 : ev (.tmp 87) = .int .i64 e3 := hr (87, some 23) (by simp); have hk := he.1; clear hr he
          go_simp
        refine GFrom.cons (GStep.val _ rfl rfl _ rfl (fun g => .bool true) (fun _ => rfl) (fun _ => trivial) (fun bs g ev wq hS he hr => ?_)) ?_
        · have r0 : ev (.tmp 81) = .bool true := hr (81, some 17) (by simp); have r1 : ev (.tmp 88) = .bool true := hr (88, some 24) (by simp); have hk := he.1; clear hr he
          go_simp
        refine GFrom.cons (GStep.val _ rfl rfl _ rfl (fun g => .bool true) (fun _ => rfl) (fun _ => trivial) (fun bs g ev wq hS he hr => ?_)) ?_
        · have r0 : ev (.tmp 89) = .bool true := hr (89, some 25) (by simp); have hk := he.1; clear hr he
          go_simp
        refine GFrom.cons (GStep.val _ rfl rfl _ rfl (fun g => .pointer (some ⟨E, 0, none⟩)) (fun _ => rfl) (fun _ => rfl) (fun bs g ev wq hS he hr => ?_)) ?_
        · have r0 : ev (.tmp 10) = .pointer (some ⟨E, 0, none⟩) := hr (10, none) (by simp); have hk := he.1; clear hr he
          go_simp
        refine GFrom.cons (GStep.call _ rfl rfl _ rfl (fun g => .int .i64 (z3.length : Int)) (fun _ => rfl) (fun _ => rfl) 36 (fun g => #[.pointer (some ⟨E, 0, none⟩)]) (fun bs g ev wq hS he hr => ?_) (fun L g wq hd hL hS => ?_)) ?_
        · have r0 : ev (.tmp 91) = .pointer (some ⟨E, 0, none⟩) := hr (91, some 27) (by simp); have hk := he.1; have hf := he.2; clear hr he
          go_simp
        · exact (left_any E z3 e3 wq (E10.out.kept hS.kp (fun _ _ h => h))).mono fun e w' ⟨h1, h2⟩ => ⟨h1, by rw [← h2]; exact hS⟩
        refine GFrom.cons (GStep.val _ rfl rfl _ rfl (fun g => .pointer (some ⟨X, 0, none⟩)) (fun _ => rfl) (fun _ => rfl) (fun bs g ev wq hS he hr => ?_)) ?_
        · have r0 : ev (.tmp 11) = .pointer (some ⟨X, 0, none⟩) := hr (11, none) (by simp); have hk := he.1; clear hr he
          go_simp
        refine GFrom.cons (GStep.val _ rfl rfl _ rfl (fun g => .pointer (some ⟨X, 0, none⟩)) (fun _ => rfl) (fun _ => rfl) (fun bs g ev wq hS he hr => ?_)) ?_
        · have r0 : ev (.tmp 93) = .pointer (some ⟨X, 0, none⟩) := hr (93, some 29) (by simp); have hk := he.1; clear hr he
          go_simp
        refine GFrom.cons (GStep.val _ rfl rfl _ rfl (fun g => .pointer (some ⟨X, 0, none⟩)) (fun _ => rfl) (fun _ => rfl) (fun bs g ev wq hS he hr => ?_)) ?_
        · have r0 : ev (.tmp 94) = .pointer (some ⟨X, 0, none⟩) := hr (94, some 30) (by simp); have hk := he.1; clear hr he
          go_simp
        refine GFrom.cons (GStep.val _ rfl rfl _ rfl (fun g => .string s3) (fun _ => rfl) (fun _ => rfl) (fun bs g ev wq hS he hr => ?_)) ?_
        · have r0 : ev (.tmp 95) = .pointer (some ⟨X, 0, none⟩) := hr (95, some 31) (by simp); have hk := he.1; clear hr he
          have c0 := (X10.out.kept hS.kp (fun h => h)).cell 0
          go_simp
        refine GFrom.cons (GStep.val _ rfl rfl _ rfl (fun g => .int .i64 (z3.length : Int)) (fun _ => rfl) (fun _ => rfl) (fun bs g ev wq hS he hr => ?_)) ?_
        · have r0 : ev (.tmp 96) = .string s3 := hr (96, some 32) (by simp); have hk := he.1; clear hr he
          have e1 := S3.out
          go_simp
        refine GFrom.cons (GStep.val _ rfl rfl _ rfl (fun g => .bool true) (fun _ => rfl) (fun _ => rfl) (fun bs g ev wq hS he hr => ?_)) ?_
        · have r0 : ev (.tmp 92) = .int .i64 (z3.length : Int) := hr (92, some 28) (by simp); have r1 : ev (.tmp 97) = .int .i64 (z3.length : Int) := hr (97, some 33) (by simp); have hk := he.1; clear hr he
          go_simp
        refine GFrom.cons (GStep.val _ rfl rfl _ rfl (fun g => .bool true) (fun _ => rfl) (fun _ => trivial) (fun bs g ev wq hS he hr => ?_)) ?_
        · have r0 : ev (.tmp 90) = .bool true := hr (90, some 26) (by simp); have r1 : ev (.tmp 98) = .bool true := hr (98, some 34) (by simp); have hk := he.1; clear hr he
          go_simp
        refine GFrom.cons (GStep.val _ rfl rfl _ rfl (fun g => .bool true) (fun _ => rfl) (fun _ => trivial) (fun bs g ev wq hS he hr => ?_)) ?_
        · have r0 : ev (.tmp 99) = .bool true := hr (99, some 35) (by simp); have hk := he.1; clear hr he
          go_simp
        refine GFrom.cons (GStep.val _ rfl rfl _ rfl (fun g => .pointer (some ⟨D, 0, none⟩)) (fun _ => rfl) (fun _ => rfl) (fun bs g ev wq hS he hr => ?_)) ?_
        · have r0 : ev (.tmp 3) = .pointer (some ⟨D, 0, none⟩) := hr (3, none) (by simp); have hk := he.1; clear hr he
          go_simp
        refine GFrom.cons (GStep.val _ rfl rfl _ rfl (fun g => .slice pa nA da) (fun _ => rfl) (fun _ => rfl) (fun bs g ev wq hS he hr => ?_)) ?_
        · have r0 : ev (.tmp 101) = .pointer (some ⟨D, 0, none⟩) := hr (101, some 37) (by simp); have hk := he.1; clear hr he
          have c0 := (show World.cell? wq ⟨D, 0, none⟩ = some (.slice pa nA da) from (HD10.out.kept hS.kp (fun h => h)).cell 0)
          go_simp
        refine GFrom.cons (GStep.call _ rfl rfl _ rfl (fun g => .string tA) (fun _ => rfl) (fun _ => rfl) 37 (fun g => #[.slice pa nA da]) (fun bs g ev wq hS he hr => ?_) (fun L g wq hd hL hS => ?_)) ?_
        · have r0 : ev (.tmp 102) = .slice pa nA da := hr (102, some 38) (by simp); have hk := he.1; have hf := he.2; clear hr he
          go_simp
        · exact (CT.out wq hS.kp).mono fun e w' ⟨h1, h2⟩ => ⟨h1, hS.step h2⟩
        refine GFrom.cons (GStep.val _ rfl rfl _ rfl (fun g => .pointer (some ⟨D, 0, none⟩)) (fun _ => rfl) (fun _ => rfl) (fun bs g ev wq hS he hr => ?_)) ?_
        · have r0 : ev (.tmp 3) = .pointer (some ⟨D, 0, none⟩) := hr (3, none) (by simp); have hk := he.1; clear hr he
          go_simp
        refine GFrom.cons (GStep.val _ rfl rfl _ rfl (fun g => .slice pa nA da) (fun _ => rfl) (fun _ => rfl) (fun bs g ev wq hS he hr => ?_)) ?_
        · have r0 : ev (.tmp 104) = .pointer (some ⟨D, 0, none⟩) := hr (104, some 40) (by simp); have hk := he.1; clear hr he
          have c0 := (show World.cell? wq ⟨D, 0, none⟩ = some (.slice pa nA da) from (HD10.out.kept hS.kp (fun h => h)).cell 0)
          go_simp
        refine GFrom.cons (GStep.call _ rfl rfl _ rfl (fun g => .string tA) (fun _ => rfl) (fun _ => rfl) 38 (fun g => #[.slice pa nA da]) (fun bs g ev wq hS he hr => ?_) (fun L g wq hd hL hS => ?_)) ?_
        · have r0 : ev (.tmp 105) = .slice pa nA da := hr (105, some 41) (by simp); have hk := he.1; have hf := he.2; clear hr he
          go_simp
        · exact (CU.out wq hS.kp).mono fun e w' ⟨h1, h2⟩ => ⟨h1, hS.step h2⟩
        refine GFrom.cons (GStep.val _ rfl rfl _ rfl (fun g => .bool true) (fun _ => rfl) (fun _ => rfl) (fun bs g ev wq hS he hr => ?_)) ?_
        · have r0 : ev (.tmp 103) = .string tA := hr (103, some 39) (by simp); have r1 : ev (.tmp 106) = .string tA := hr (106, some 42) (by simp); have hk := he.1; clear hr he
          have e1 := EQT.out
          go_simp
        refine GFrom.cons (GStep.val _ rfl rfl _ rfl (fun g => .bool true) (fun _ => rfl) (fun _ => trivial) (fun bs g ev wq hS he hr => ?_)) ?_
        · have r0 : ev (.tmp 100) = .bool true := hr (100, some 36) (by simp); have r1 : ev (.tmp 107) = .bool true := hr (107, some 43) (by simp); have hk := he.1; clear hr he
          go_simp
        refine GFrom.cons (GStep.val _ rfl rfl _ rfl (fun g => .bool true) (fun _ => rfl) (fun _ => trivial) (fun bs g ev wq hS he hr => ?_)) ?_
        · have r0 : ev (.tmp 108) = .bool true := hr (108, some 44) (by simp); have hk := he.1; clear hr he
          go_simp
        refine GFrom.cons (GStep.val _ rfl rfl _ rfl (fun g => .bool pb) (fun _ => rfl) (fun _ => rfl) (fun bs g ev wq hS he hr => ?_)) ?_
        · have r0 : ev (.tmp 15) = .bool pb := hr (15, none) (by simp); have hk := he.1; clear hr he
          go_simp
        refine GFrom.cons (GStep.val _ rfl rfl _ rfl (fun g => .bool pb) (fun _ => rfl) (fun _ => rfl) (fun bs g ev wq hS he hr => ?_)) ?_
        · have r0 : ev (.tmp 17) = .bool pb := hr (17, none) (by simp); have hk := he.1; clear hr he
          go_simp
        refine GFrom.cons (GStep.val _ rfl rfl _ rfl (fun g => .bool true) (fun _ => rfl) (fun _ => rfl) (fun bs g ev wq hS he hr => ?_)) ?_
        · have r0 : ev (.tmp 110) = .bool pb := hr (110, some 46) (by simp); have r1 : ev (.tmp 111) = .bool pb := hr (111, some 47) (by simp); have hk := he.1; clear hr he
          have e1 := EQP.out
          go_simp
        refine GFrom.cons (GStep.val _ rfl rfl _ rfl (fun g => .bool true) (fun _ => rfl) (fun _ => trivial) (fun bs g ev wq hS he hr => ?_)) ?_
        · have r0 : ev (.tmp 109) = .bool true := hr (109, some 45) (by simp); have r1 : ev (.tmp 112) = .bool true := hr (112, some 48) (by simp); have hk := he.1; clear hr he
          go_simp
        refine GFrom.cons (GStep.val _ rfl rfl _ rfl (fun g => .bool true) (fun _ => rfl) (fun _ => trivial) (fun bs g ev wq hS he hr => ?_)) ?_
        · have r0 : ev (.tmp 113) = .bool true := hr (113, some 49) (by simp); have hk := he.1; clear hr he
          go_simp
        refine GFrom.cons (GStep.val _ rfl rfl _ rfl (fun g => .slice pt nP dt) (fun _ => rfl) (fun _ => rfl) (fun bs g ev wq hS he hr => ?_)) ?_
        · have r0 : ev (.tmp 14) = .slice pt nP dt := hr (14, none) (by simp); have hk := he.1; clear hr he
          go_simp
        refine GFrom.cons (GStep.val _ rfl rfl _ rfl (fun g => .slice pu nP du) (fun _ => rfl) (fun _ => rfl) (fun bs g ev wq hS he hr => ?_)) ?_
        · have r0 : ev (.tmp 16) = .slice pu nP du := hr (16, none) (by simp); have hk := he.1; clear hr he
          go_simp
        refine GFrom.cons (GStep.call _ rfl rfl _ rfl (fun g => .bool true) (fun _ => rfl) (fun _ => rfl) 15 (fun g => #[.slice pt nP dt, .slice pu nP du]) (fun bs g ev wq hS he hr => ?_) (fun L g wq hd hL hS => ?_)) ?_
        · have r0 : ev (.tmp 115) = .slice pt nP dt := hr (115, some 51) (by simp); have r1 : ev (.tmp 116) = .slice pu nP du := hr (116, some 52) (by simp); have hk := he.1; have hf := he.2; clear hr he
          go_simp
        · exact (CSP.out wq hS.kp).mono fun e w' ⟨h1, h2⟩ => ⟨h1, hS.step h2⟩
        refine GFrom.cons (GStep.val _ rfl rfl _ rfl (fun g => .bool true) (fun _ => rfl) (fun _ => trivial) (fun bs g ev wq hS he hr => ?_)) ?_
        · have r0 : ev (.tmp 114) = .bool true := hr (114, some 50) (by simp); have r1 : ev (.tmp 117) = .bool true := hr (117, some 53) (by simp); have hk := he.1; clear hr he
          go_simp
        refine GFrom.cons (GStep.val _ rfl rfl _ rfl (fun g => .bool true) (fun _ => rfl) (fun _ => trivial) (fun bs g ev wq hS he hr => ?_)) ?_
        · have r0 : ev (.tmp 118) = .bool true := hr (118, some 54) (by simp); have hk := he.1; clear hr he
          go_simp
        exact GFrom.nil
      case hS => exact ⟨(Kp.refl Nb w10).drew, fun h => by simp at h⟩
      case hend =>
      intro g w11 h11
      have K11 := hid (HF.out.k.trans (K10.out.trans h11.kp (fun _ _ h => h)) (fun _ _ h => h))
      clear h11
      simp only [putAll, List.zip_cons_cons, List.zip_nil_right, List.foldl_cons, List.foldl_nil, Act.put, List.setIfInBounds_toArray, List.set_cons_zero, List.set_cons_succ]
      go_wp2
      go_ret
      exact ⟨rfl, K11.out⟩

end Go.Proofs.YtbbfibgijackhaaGreatDoor
