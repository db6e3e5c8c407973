/-
  Layer 10: the walk of first (under way). No condition.
-/
import Derived.Test.YtofjkaemakdmeaaCelG
import Derived.Test.YtofjkaemakdmeaaGhost
namespace Go.Proofs.Ytofjkaemakdmeaa
open Go.RowKit

def mA : List Int := [1, 0, 0, 0, 0, 0, 0, 0, 0, 0, 0, 0, 0, 0, 0, 0]
def mB : List Int := [2, 0, 0, 0, 0, 0, 0, 0, 0, 0, 0, 0, 0, 0, 0, 0]
def mC : List Int := [3, 0, 0, 0, 0, 0, 0, 0, 0, 0, 0, 0, 0, 0, 0, 0]
theorem isBytes_of {zs : List Int} (h : zs.all (fun z => decide (0 ≤ z ∧ z < 256)) = true) : IsBytes zs := IsBytes.of fun z hz => of_decide_eq_true (List.all_eq_true.1 h z hz)
theorem okA : MarkOk mA := ⟨rfl, isBytes_of (by decide)⟩
theorem okB : MarkOk mB := ⟨rfl, isBytes_of (by decide)⟩
theorem okC : MarkOk mC := ⟨rfl, isBytes_of (by decide)⟩
theorem layAB : layL mA mB = mC := by kernel_rfl
theorem layCB : layL mC mB = mA := by kernel_rfl
theorem chk_ab : bits .xor .u64 (bits .xor .u64 (chk mA) (chk mB)) (chk mB) = chk mA := by kernel_rfl
theorem chk_0a : bits .xor .u64 0 (chk mA) = chk mA := by kernel_rfl
theorem lay0A : layL (List.replicate 16 0) mA = mA := by kernel_rfl
def qC : Int := bits .xor .u64 (chk mA) (chk mB)
theorem sum_ab : sumC [(1, mA, chk mA), (1, mB, chk mB)] = (2, mC, qC) := by kernel_rfl
theorem get_c : getC (cellBytes 2 mC qC) = ((2, mC, qC), [], 0) := by kernel_rfl
theorem eq_mark (m : List Int) (hm : m.length = 16) (w : World) : Sem.run Try.prog (Op.equalIn 10000 23 (markV m) (markV m)) w = .ok true w := by
  have h := run_mark_eq m m hm hm w
  rw [decide_eq_true rfl] at h
  exact h
theorem eq_cellA (w : World) : Sem.run Try.prog (Op.equalIn 10000 26 (cellV 1 mA (chk mA)) (cellV 1 mA (chk mA))) w = .ok true w := by kernel_rfl
theorem eq_cellC (w : World) : Sem.run Try.prog (Op.equalIn 10000 26 (cellV 2 mC qC) (cellV 2 mC qC)) w = .ok true w := by kernel_rfl

/-- What the great region of first keeps: the ghost is the pen's bytes, the eye's block, the slice of cells. -/
structure FirS (v0 : World) (bs : List Bool) (g : Value × Nat × Value) (w : World) : Prop where
  kp : Kp Nb v0 w
  by' : bs[0]?.getD false = true → bs[1]?.getD false = false → BySl Nb w g.1 (cellBytes 2 mC qC)
  eye : bs[1]?.getD false = true → bs[2]?.getD false = false → EyeAt w g.2.1 (cellBytes 2 mC qC) 0
  low : bs[1]?.getD false = true → v0.heap.size ≤ g.2.1
  sl : bs[3]?.getD false = true → CelSl w g.2.2 [(1, mA, chk mA), (1, mB, chk mB)]
theorem old_set {L : Nat → Bool} {i : Nat} {l l' : List Value} (u : Value) (hL : L i = false) (h : l' = l.set i u) : ∀ j, L j = true → l'.getD j undef = l.getD j undef := by
  intro j hj
  subst h
  have hn : i ≠ j := by rintro rfl; rw [hL] at hj; cases hj
  rw [List.getD_eq_getElem?_getD, List.getD_eq_getElem?_getD, List.getElem?_set_ne hn]
theorem zs_len : (cellBytes 2 mC qC).length ≤ 140737488355328 := Nat.le_of_ble_eq_true (by kernel_rfl)
theorem FirS.keptN {v0 w w' : World} {bs : List Bool} {g : Value × Nat × Value} (h : FirS v0 bs g w) (k : Kp Nb w w') : FirS v0 bs g w' :=
  ⟨h.kp.trans k (fun _ _ h => h), fun e1 e2 => (h.by' e1 e2).kept k (fun _ h => h), fun e1 e2 => (h.eye e1 e2).kept k (fun _ _ h => h), h.low, fun e => (h.sl e).kept k⟩

theorem pen_new (w : World) : PenAt (w.alloc (.cells #[.slice none 0 0] 43)) w.heap.size (.slice none 0 0) [] :=
  ⟨Blk.new w 43 [.slice none 0 0], World.ownsRow_nil _ _ _ _, by simp [Value.ownBlock], fun i => by simp⟩
theorem penTo_own {a b : World} {B : Nat} {v v' : Value} (h : PenTo a b B v v') (hv : v.ownBlock = none) : ∀ g, v'.ownBlock = some g → a.heap.size ≤ g := by
  rcases h.at' with e | e
  · intro g hg; rw [e, hv] at hg; cases hg
  · exact e
theorem cell_whole {w : World} {B t : Nat} {c : Int} {m : List Int} {k : Int} (hm : m.length = 16) (h : Blk w B t (cellL c m k)) : (Instr.loadAt 26 (.pointer (some ⟨B, 0, none⟩))).run Try.prog w = .ok (cellV c m k) w := by
  obtain ⟨d, h1, h2⟩ := cell_under
  exact run_loadAt_mid w B 0 26 (cellL c m k) d (range_of h) h1 h2 (cell_infoL c m k hm)
theorem lenA : mA.length = 16 := rfl
theorem there_new {w : World} {zs cs : List Value} (hz : zs.length = 18) (hc : cs.length = 18) : (w.alloc (.cells zs.toArray 26)).there w.heap.size 0 cs.toArray.size := by
  rw [show cs.toArray.size = 18 from by rw [List.size_toArray]; exact hc]
  exact (Blk.new w 26 zs).there 0 18 (by omega)
theorem qC_eq : bits .xor .u64 (chk mA) (chk mB) = qC := rfl
theorem build_mA (w : World) : (Instr.build 23 #[(0, .int .u8 1)]).run Try.prog w = .ok (markV mA) w := run_build w 23 _ _ (by kernel_rfl)
theorem build_mB (w : World) : (Instr.build 23 #[(0, .int .u8 2)]).run Try.prog w = .ok (markV mB) w := run_build w 23 _ _ (by kernel_rfl)
theorem build_mC (w : World) : (Instr.build 23 #[(0, .int .u8 3)]).run Try.prog w = .ok (markV mC) w := run_build w 23 _ _ (by kernel_rfl)
theorem build_c0 (w : World) : (Instr.build 26 #[]).run Try.prog w = .ok (cellV 0 (List.replicate 16 0) 0) w := run_build w 26 _ _ (by kernel_rfl)

theorem exec_eqlCell {ev : Operand → Value} {o : Oper} {x y : Operand} {t' : TypeId} {xs ys : Array Value} {b : Bool} {w : World} (ho : o.op = .binOp .eql 26 x y t') (hx : ev x = .agg xs) (hy : ev y = .agg ys)
    (h : Sem.run Try.prog (Op.equal 26 (.agg xs) (.agg ys)) w = .ok b w) : (execOp ev o).run Try.prog w = .ok (.value (.bool b)) w := by
  have h1 : Sem.run Try.prog (eqGuard .eql 26 x y (.agg xs) (.agg ys)) w = .ok () w := by go_simp
  have h2 : Sem.run Try.prog (binOp .eql 26 (.agg xs) (.agg ys)) w = .ok (.bool b) w := by
    show Sem.run Try.prog (do pure (Value.bool (← Op.equal 26 (.agg xs) (.agg ys)))) w = _
    simp only [Sem.run_bind, Sem.run_pure, Result.andThen_ok, h]
  unfold execOp
  simp only [ho, hx, hy, Sem.run_bind, Sem.run_pure, Result.andThen_ok, h1, h2]
theorem make_ab (qa qb : Int) (w : World) : (Instr.buildSlice 27 2 #[(0, cellV 1 mA qa), (1, cellV 1 mB qb)]).run Try.prog w = .ok (.slice (some ⟨w.heap.size, 0, none⟩) 2 2) (w.alloc (.cells (cellL 1 mA qa ++ cellL 1 mB qb).toArray 26 (0, 0))) := by kernel_rfl
theorem celSl_ab {W : World} {B : Nat} {qa qb : Int} (h : Blk W B 26 (cellL 1 mA qa ++ cellL 1 mB qb)) : CelSl W (.slice (some ⟨B, 0, none⟩) 2 2) [(1, mA, qa), (1, mB, qb)] := by
  refine ⟨fun i => ?_, .inr ⟨B, 0, 2, rfl, Nat.le_refl 2, by decide, fun i hi => ?_⟩⟩
  · rcases i with _ | _ | i
    · rfl
    · rfl
    · exact List.length_replicate (n := 16)
  · intro j v hv
    have hi' : i < 2 := hi
    have hj : j < 18 := by
      have := (List.getElem?_eq_some_iff.1 hv).1
      rcases i with _ | _ | i
      · exact this
      · exact this
      · omega
    rcases i with _ | _ | i
    · have c := h.cell j
      rw [List.getElem?_append_left (show j < (cellL 1 mA qa).length from hj)] at c
      rw [show 0 + 0 * 18 + j = j from by omega]
      exact c.trans hv
    · have c := h.cell (18 + j)
      rw [List.getElem?_append_right (show (cellL 1 mA qa).length ≤ 18 + j from Nat.le_add_right 18 j)] at c
      rw [show 18 + j - (cellL 1 mA qa).length = j from Nat.add_sub_cancel_left 18 j] at c
      rw [show 0 + (0 + 1) * 18 + j = 18 + j from by omega]
      exact c.trans hv
    · omega
theorem exec_buildSlice {P : Program} {ev : Operand → Value} {o : Oper} {T : TypeId} {n : Nat} {ps : Array (Nat × Operand)} {qs : Array (Nat × Value)} {v : Value} {w w' : World} (ho : o.op = .buildSlice T n ps) (hq : (ps.map fun (i, x) => (i, ev x)) = qs) (hl : (Instr.buildSlice T n qs).run P w = .ok v w') : (execOp ev o).run P w = .ok (.value v) w' := by
  unfold execOp
  simp only [ho, hq, Sem.run_bind, Sem.run_pure, Result.andThen_ok, hl]
set_option maxRecDepth 100000 in
set_option maxHeartbeats 3000000 in
theorem cfirst_any (w : World) : Calls Try.prog 8 #[] w fun e w' => e = .returned (.bool true) ∧ Kp Nb w w' := by
  have h1 := build_mA
  have h2 := build_mB
  have lA := cellL_length 1 mA (chk mA) rfl
  have lB := cellL_length 1 mB (chk mB) rfl
  have LA := hid lA
  have LB := hid lB
  obtain ⟨qa, hqa⟩ : ∃ q, chk mA = q := ⟨_, rfl⟩
  obtain ⟨qb, hqb⟩ : ∃ q, chk mB = q := ⟨_, rfl⟩
  have CA : Hid (∀ w, Calls Try.prog 12 #[markV mA] w fun e w' => e = .returned (cellV 1 mA qa) ∧ Kp Nb w w') := hid (fun w => by rw [← hqa]; exact cof_any mA w okA)
  have CB : Hid (∀ w, Calls Try.prog 12 #[markV mB] w fun e w' => e = .returned (cellV 1 mB qb) ∧ Kp Nb w w') := hid (fun w => by rw [← hqb]; exact cof_any mB w okB)
  have HQA := hid hqa
  have HQB := hid hqb
  rw [hqa] at LA
  rw [hqb] at LB
  clear hqa hqb lA lB
  go_enter Try.func8, Try.ntmps8
  go_wp2_with fail
  refine (CA.out _).mono ?_
  rintro e w1 ⟨rfl, k1⟩
  have K1 := hid k1
  clear k1
  go_wp2_with fail
  refine (CB.out _).mono ?_
  rintro e w2 ⟨rfl, k2⟩
  have K2 := hid (K1.out.trans k2 (fun _ _ h => h))
  clear k2 h1 h2
  obtain ⟨zs, hz⟩ : ∃ zs, zs = cellL 0 (List.replicate 16 0) 0 := ⟨_, rfl⟩
  have ZL : Hid (zs.length = 18) := hid (by rw [hz]; exact cellL_length 0 _ 0 (by simp))
  obtain ⟨Wz, hWz⟩ : ∃ W, W = (w2.alloc (.cells zs.toArray 26)).alloc (.cells zs.toArray 26) := ⟨_, rfl⟩
  obtain ⟨N, hN⟩ : ∃ N, w2.heap.size = N := ⟨_, rfl⟩
  have B1 : Hid (Blk Wz N 26 zs) := hid (by rw [hWz, ← hN]; exact (Blk.new w2 _ _).alloc _)
  have B2 : Hid (Blk Wz (N + 1) 26 zs) := hid (by
    have h := Blk.new (w2.alloc (.cells zs.toArray 26)) 26 zs
    simp only [World.size_alloc] at h
    rw [hWz, ← hN]
    exact h)
  have KZ : Hid (Kp Nb w2 Wz) := hid (by rw [hWz]; exact ((Kp.refl Nb w2).alloc _).alloc _)
  have HNN := hid hN
  rw [hz] at hWz
  clear hz
  obtain ⟨Wy, hWy⟩ : ∃ W, W = Wz.setCells N 0 (cellL 1 mA qa) := ⟨_, rfl⟩
  have jk : Kp (Jb N) Wz Wy := by rw [hWy]; exact Kp.setCells (S := Jb N) (fun _ => show N = N from rfl) _ 0 _ (Kp.refl _ _)
  have B3 : Hid (Blk Wy N 26 (cellL 1 mA qa)) := hid (by rw [hWy]; exact row_set B1.out (LA.out.trans ZL.out.symm))
  have B4 : Hid (Blk Wy (N + 1) 26 zs) := hid (B2.out.kept jk (fun h => by have h' : N + 1 = N := h; omega))
  have KY : Hid (Kp Nb w2 Wy) := hid (KZ.out.trans jk (fun i hi h => by have h' : i = N := h; omega))
  obtain ⟨Wx, hWx⟩ : ∃ W, W = Wy.setCells (N + 1) 0 (cellL 1 mB qb) := ⟨_, rfl⟩
  have jk2 : Kp (Jb (N + 1)) Wy Wx := by rw [hWx]; exact Kp.setCells (S := Jb (N + 1)) (fun _ => show N + 1 = N + 1 from rfl) _ 0 _ (Kp.refl _ _)
  have B5 : Hid (Blk Wx N 26 (cellL 1 mA qa)) := hid (B3.out.kept jk2 (fun h => by have h' : N = N + 1 := h; omega))
  have B6 : Hid (Blk Wx (N + 1) 26 (cellL 1 mB qb)) := hid (by rw [hWx]; exact row_set B4.out (LB.out.trans ZL.out.symm))
  have KX : Hid (Kp Nb w2 Wx) := hid (KY.out.trans jk2 (fun i hi h => by have h' : i = N + 1 := h; omega))
  have T1 : Hid (Wz.there N 0 (cellL 1 mA qa).toArray.size) := hid (by rw [show (cellL 1 mA qa).toArray.size = 18 from by rw [List.size_toArray]; exact LA.out]; exact B1.out.there 0 18 (by have := ZL.out; omega))
  have T2 : Hid (Wy.there (N + 1) 0 (cellL 1 mB qb).toArray.size) := hid (by rw [show (cellL 1 mB qb).toArray.size = 18 from by rw [List.size_toArray]; exact LB.out]; exact B4.out.there 0 18 (by have := ZL.out; omega))
  have I1 : Hid ((Try.prog.info? 26).map (·.size) = some (cellL 1 mA qa).toArray.size) := hid (by rw [show (cellL 1 mA qa).toArray.size = 18 from by rw [List.size_toArray]; exact LA.out]; exact cell_info)
  have I2 : Hid ((Try.prog.info? 26).map (·.size) = some (cellL 1 mB qb).toArray.size) := hid (by rw [show (cellL 1 mB qb).toArray.size = 18 from by rw [List.size_toArray]; exact LB.out]; exact cell_info)
  have O1 := hid (all_oneCell_toArray (cellL_one 1 mA qa))
  have O2 := hid (all_oneCell_toArray (cellL_one 1 mB qb))
  clear jk jk2
  rw [hWz] at T1 hWy
  rw [hWy] at T2 hWx
  go_upto_region 2 with (first
    | (refine wpList_store_mid (by rfl) 26 (.tmp 1) (.tmp 7) (by rfl) N 0 (cellL 1 mA qa).toArray (by rfl) (by rfl) (by exact T1.out) (by exact I1.out) (by exact O1.out) ?_)
    | (refine wpList_store_mid (by rfl) 26 (.tmp 2) (.tmp 9) (by rfl) (N + 1) 0 (cellL 1 mB qb).toArray (by rfl) (by rfl) (by exact T2.out) (by exact I2.out) (by exact O2.out) ?_))
  rw [show (((w2.alloc (.cells #[.int .i64 0, .int .u8 0, .int .u8 0, .int .u8 0, .int .u8 0, .int .u8 0, .int .u8 0, .int .u8 0, .int .u8 0, .int .u8 0, .int .u8 0, .int .u8 0, .int .u8 0, .int .u8 0, .int .u8 0, .int .u8 0, .int .u8 0, .int .u64 0] 26)).alloc (.cells #[.int .i64 0, .int .u8 0, .int .u8 0, .int .u8 0, .int .u8 0, .int .u8 0, .int .u8 0, .int .u8 0, .int .u8 0, .int .u8 0, .int .u8 0, .int .u8 0, .int .u8 0, .int .u8 0, .int .u8 0, .int .u8 0, .int .u8 0, .int .u64 0] 26)).setCells N 0 (cellL 1 mA qa)).setCells (N + 1) 0 (cellL 1 mB qb) = Wx from hWx.symm]
  have K3 := hid (K2.out.trans KX.out (fun _ _ h => h))
  have HNW : Hid (w.heap.size ≤ N) := hid (by rw [← hN]; exact K2.out.size)
  clear hWx hWy hWz hN HNN B1 B2 B3 B4 T1 T2 O1 O2 KZ KY KX K2 K1 ZL
  obtain ⟨d', hu, hd⟩ := cell_under
  have HU := hid hu
  have J1 := hid (cell_infoL 1 mA qa rfl)
  have J2 := hid (cell_infoL 1 mB qb rfl)
  clear hu
  obtain ⟨qc, hqc⟩ : ∃ q, bits .xor .u64 qa qb = q := ⟨_, rfl⟩
  have CD : Hid (∀ w, Calls Try.prog 14 #[cellV 1 mA qa, cellV 1 mB qb] w fun e w' => e = .returned (cellV 2 mC qc) ∧ Kp Nb w w') := hid (fun w => by
    have h := cadd_any 1 1 mA mB qa qb w rfl rfl
    rw [layAB, hqc, show IntKind.i64.wrap (1 + 1) = 2 from by decide] at h
    exact h)
  have HQC : Hid (qc = qC) := hid (by rw [← hqc, ← HQA.out, ← HQB.out]; rfl)
  clear hqc
  simp only [Act.put]
  go_wp2_with (first
    | (refine wpList_load_mid (by rfl) 26 (.tmp 1) (by rfl) N 0 (by rfl) (cellL 1 mA qa) d' (by exact range_of B5.out) (by exact HU.out) hd (by exact J1.out) ?_)
    | (refine wpList_load_mid (by rfl) 26 (.tmp 2) (by rfl) (N + 1) 0 (by rfl) (cellL 1 mB qb) d' (by exact range_of B6.out) (by exact HU.out) hd (by exact J2.out) ?_))
  refine (CD.out _).mono ?_
  rintro e w3 ⟨rfl, k3⟩
  have B7 := hid (B5.out.kept k3 (fun h => h))
  have B8 := hid (B6.out.kept k3 (fun h => h))
  have K4 := hid (K3.out.trans k3 (fun _ _ h => h))
  clear k3 B5 B6 K3
  obtain ⟨zs, hz⟩ : ∃ zs, zs = cellL 0 (List.replicate 16 0) 0 := ⟨_, rfl⟩
  have ZL : Hid (zs.length = 18) := hid (by rw [hz]; exact cellL_length 0 _ 0 (by simp))
  have LC : Hid ((cellL 2 mC qc).length = 18) := hid (cellL_length 2 mC qc rfl)
  obtain ⟨M, hM⟩ : ∃ M, w3.heap.size = M := ⟨_, rfl⟩
  have HMN : Hid (N + 1 < M) := hid (by rw [← hM]; exact B8.out.lt)
  have C1 : Hid (Blk (w3.alloc (.cells zs.toArray 26)) M 26 zs) := hid (by rw [← hM]; exact Blk.new w3 _ _)
  obtain ⟨Wc, hWc⟩ : ∃ W, W = (w3.alloc (.cells zs.toArray 26)).setCells M 0 (cellL 2 mC qc) := ⟨_, rfl⟩
  have C2 : Hid (Blk Wc M 26 (cellL 2 mC qc)) := hid (by rw [hWc]; exact row_set C1.out (LC.out.trans ZL.out.symm))
  have KC : Hid (Kp Nb w3 Wc) := hid (by rw [hWc]; exact Kp.setCells (fun h => by omega) _ 0 _ ((Kp.refl Nb w3).alloc _))
  have T3 : Hid ((w3.alloc (.cells zs.toArray 26)).there M 0 (cellL 2 mC qc).toArray.size) := hid (by rw [show (cellL 2 mC qc).toArray.size = 18 from by rw [List.size_toArray]; exact LC.out]; exact C1.out.there 0 18 (by have := ZL.out; omega))
  have I3 : Hid ((Try.prog.info? 26).map (·.size) = some (cellL 2 mC qc).toArray.size) := hid (by rw [show (cellL 2 mC qc).toArray.size = 18 from by rw [List.size_toArray]; exact LC.out]; exact cell_info)
  have O3 := hid (all_oneCell_toArray (cellL_one 2 mC qc))
  rw [hz] at T3 hWc
  clear hz
  go_upto_region 3 with (refine wpList_store_mid (by rfl) 26 (.tmp 3) (.tmp 12) (by rfl) M 0 (cellL 2 mC qc).toArray (by rfl) (by rfl) (by exact T3.out) (by exact I3.out) (by exact O3.out) ?_)
  rw [show (w3.alloc (.cells #[.int .i64 0, .int .u8 0, .int .u8 0, .int .u8 0, .int .u8 0, .int .u8 0, .int .u8 0, .int .u8 0, .int .u8 0, .int .u8 0, .int .u8 0, .int .u8 0, .int .u8 0, .int .u8 0, .int .u8 0, .int .u8 0, .int .u8 0, .int .u64 0] 26)).setCells M 0 (cellL 2 mC qc) = Wc from hWc.symm]
  have B9 := hid (B7.out.kept KC.out (fun h => h))
  have B10 := hid (B8.out.kept KC.out (fun h => h))
  have K5 := hid (K4.out.trans KC.out (fun _ _ h => h))
  clear hWc hM C1 T3 I3 O3 KC B7 B8 K4 I1 I2
  simp only [Act.put]
  have HP := hid (pen_new Wc)
  have KP := hid ((Kp.refl Nb Wc).alloc (.cells #[.slice none 0 0] 43))
  obtain ⟨P, hP⟩ : ∃ P, Wc.heap.size = P := ⟨_, rfl⟩
  rw [hP] at HP
  have HPW : Hid (w.heap.size ≤ P) := hid (by rw [← hP]; exact K5.out.size)
  have HPC := hid hP
  obtain ⟨Wp, hWp⟩ : ∃ W, W = Wc.alloc (.cells #[.slice none 0 0] 43) := ⟨_, rfl⟩
  rw [← hWp] at HP KP
  go_upto_region 4 with fail
  rw [← hWp]
  clear hWp hP
  have C3 := hid (C2.out.kept KP.out (fun h => h))
  have B11 := hid (B9.out.kept KP.out (fun h => h))
  have B12 := hid (B10.out.kept KP.out (fun h => h))
  have J3 := hid (cell_infoL 2 mC qc rfl)
  have LN := hid (show N ≠ P by have := HPC.out; have := B9.out.lt; omega)
  have LN1 := hid (show N + 1 ≠ P by have := HPC.out; have := B10.out.lt; omega)
  have LM := hid (show M ≠ P by have := HPC.out; have := C2.out.lt; omega)
  clear C2 B9 B10
  go_wp2_with (refine wpList_load_mid (by rfl) 26 (.tmp 3) (by rfl) M 0 (by rfl) (cellL 2 mC qc) d' (by exact range_of C3.out) (by exact HU.out) hd (by exact J3.out) ?_)
  refine (cput_any P (.slice none 0 0) [] 2 mC qc _ HP.out okC (by decide) (by decide)).mono ?_
  rintro e v0 ⟨rfl, vp, hp, tp⟩
  rw [List.nil_append] at hp
  have HPP := hid hp
  have kpp : Kp Nb Wc v0 := KP.out.trans tp.kp (fun i hi h => by
    rcases h with h | h
    · have := HPC.out; omega
    · cases h)
  have jn : ∀ i, i < Wc.heap.size → ¬ Pb P (.slice none 0 0) i := fun i hi h => by
    rcases h with h | h
    · have := HPC.out; omega
    · cases h
  have K6 := hid (K5.out.trans kpp (fun _ _ h => h))
  have KJ : Kp (Jb P) _ v0 := tp.kp.mono (S' := Jb P) (fun i hi h => by rcases h with h | h; exact h; cases h)
  have D1 := hid (B11.out.kept KJ (fun h => LN.out h))
  have D2 := hid (B12.out.kept KJ (fun h => LN1.out h))
  have D3 := hid (C3.out.kept KJ (fun h => LM.out h))
  go_wp2
  -- R5
  have CKA : Hid (∀ w, Calls Try.prog 10 #[markV mA] w fun e w' => e = .returned (.int .u64 qa) ∧ Kp Nb w w') := hid (fun w => by rw [← HQA.out]; exact chk_any mA w okA)
  have PUA : Hid (∀ w, Calls Try.prog 17 #[cellV 1 mA qa] w fun e w' => e = .returned (.int .i64 1) ∧ Kp Nb w w') := hid (fun w => by rw [← HQA.out]; exact pure_one mA w okA)
  have PUC : Hid (∀ w, Calls Try.prog 17 #[cellV 2 mC qc] w fun e w' => e = .returned (.int .i64 0) ∧ Kp Nb w w') := hid (fun w => by skip; exact pure_not 2 mC qc w okC (by decide) (by decide))
  have PUN : Hid (∀ w, Calls Try.prog 17 #[cellV (-1) mA qa] w fun e w' => e = .returned (.int .i64 (-1)) ∧ Kp Nb w w') := hid (fun w => by rw [← HQA.out]; exact pure_neg mA w okA)
  have SCB : Hid (∀ w, Calls Try.prog 15 #[cellV 2 mC qc, cellV 1 mB qb] w fun e w' => e = .returned (cellV 1 mA qa) ∧ Kp Nb w w') := hid (fun w => by have h := csub_any 2 1 mC mB qc qb w rfl rfl; rw [layCB, show bits .xor .u64 qc qb = qa from by rw [HQC.out, ← HQB.out, ← HQA.out]; exact chk_ab, show IntKind.i64.wrap (2 - 1) = 1 from by decide] at h; exact h)
  have SOA : Hid (∀ w, Calls Try.prog 15 #[cellV 0 (List.replicate 16 0) 0, cellV 1 mA qa] w fun e w' => e = .returned (cellV (-1) mA qa) ∧ Kp Nb w w') := hid (fun w => by have h := csub_any 0 1 (List.replicate 16 0) mA 0 qa w rfl rfl; rw [lay0A, show bits .xor .u64 0 qa = qa from by rw [← HQA.out]; exact chk_0a, show IntKind.i64.wrap (0 - 1) = -1 from by decide] at h; exact h)
  have RI : Hid (∀ w, Calls Try.prog 19 #[cellV 2 mC qc] w fun e w' => e = .returned (.bool true) ∧ Kp Nb w w') := hid (fun w => by have h := cright_any 2 mC qc w; rw [show crightB 2 = true from by decide] at h; exact h)
  have SUM : Hid (∀ v w, CelSl w v [(1, mA, chk mA), (1, mB, chk mB)] → Calls Try.prog 16 #[v] w fun e w' => e = .returned (cellV 2 mC qc) ∧ Kp Nb w w') := hid (fun v w hv => by have h := csum_any v _ w hv; rw [sum_ab] at h; rw [HQC.out]; exact h)
  have EA : Hid (∀ w, Sem.run Try.prog (Op.equalIn 10000 26 (cellV 1 mA qa) (cellV 1 mA qa)) w = .ok true w) := hid (fun w => by rw [← HQA.out]; exact eq_cellA w)
  have EC : Hid (∀ w, Sem.run Try.prog (Op.equalIn 10000 26 (cellV 2 mC qc) (cellV 2 mC qc)) w = .ok true w) := hid (fun w => by rw [HQC.out]; exact eq_cellC w)
  simp only [List.append_eq, List.cons_append, List.nil_append]
  refine region_ghost (g0 := ((undef, 0, undef) : Value × Nat × Value)) [some 74, none, none, none, none, none, none, none, none, none, none, none, none, none, none, none, none, none, some 0, some 1, some 2, some 3, some 4, some 5, some 6, some 7, some 8, some 9, some 10, some 11, some 12, some 13, some 14, some 15, some 16, some 17, some 18, some 19, some 20, some 21, some 22, some 23, some 24, some 25, some 26, some 27, some 28, some 29, some 30, some 31, some 32, some 33, some 34, some 35, some 36, some 37, some 38, some 39, some 40, some 41, some 42, some 43, some 44, some 45, some 46, some 47, some 48, some 49, some 50, some 51, some 52, some 53, some 54, some 55, some 56, some 57, some 58, some 59, some 60, some 61, some 62, some 63, some 64, some 65, some 66, some 67, some 68, some 69, some 70, some 71, some 72, some 73] [[(1, none)], [(18, some 0)], [(19, some 1)], [(20, some 2)], [(1, none)], [(22, some 4)], [], [(23, some 5), (24, some 6)], [(21, some 3), (25, some 7)], [(26, some 8)], [(1, none)], [(28, some 10)], [], [(30, some 12)], [(29, some 11), (31, some 13)], [(27, some 9), (32, some 14)], [(33, some 15)], [(3, none)], [(35, some 17)], [(36, some 18)], [(34, some 16), (37, some 19)], [(38, some 20)], [(3, none)], [(40, some 22)], [], [(41, some 23), (42, some 24)], [(39, some 21), (43, some 25)], [(44, some 26)], [(1, none)], [(46, some 28)], [(47, some 29)], [(45, some 27), (48, some 30)], [(49, some 31)], [(3, none)], [(51, some 33)], [(52, some 34)], [(50, some 32), (53, some 35)], [(54, some 36)], [(3, none)], [(2, none)], [(56, some 38), (57, some 39)], [(1, none)], [(58, some 40), (59, some 41)], [(55, some 37), (60, some 42)], [(61, some 43)], [], [(1, none)], [(63, some 45), (64, some 46)], [(65, some 47)], [(66, some 48)], [(62, some 44), (67, some 49)], [(68, some 50)], [(5, none)], [(69, some 51), (70, some 52)], [(71, some 53)], [(4, none)], [(73, some 55)], [(74, some 56)], [(75, some 57)], [(3, none)], [(76, some 58), (77, some 59)], [(72, some 54), (78, some 60)], [(79, some 61)], [(1, none)], [(2, none)], [(81, some 63), (82, some 64)], [(83, some 65)], [(3, none)], [(84, some 66), (85, some 67)], [(80, some 62), (86, some 68)], [(87, some 69)], [(3, none)], [(89, some 71)], [(88, some 70), (90, some 72)], [(91, some 73)]] [some 18, some 19, some 20, some 21, some 22, some 23, some 24, some 25, some 26, some 27, some 28, some 29, some 30, some 31, some 32, some 33, some 34, some 35, some 36, some 37, some 38, some 39, some 40, some 41, some 42, some 43, some 44, some 45, some 46, some 47, some 48, some 49, some 50, some 51, some 52, some 53, some 54, some 55, some 56, some 57, some 58, some 59, some 60, some 61, some 62, some 63, some 64, some 65, some 66, some 67, some 68, some 69, some 70, some 71, some 72, some 73, some 74, some 75, some 76, some 77, some 78, some 79, some 80, some 81, some 82, some 83, some 84, some 85, some 86, some 87, some 88, some 89, some 90, some 91, some 0] (fun g => [.pointer (some ⟨N, 0, none⟩), .int .i64 1, .bool true, .bool true, .pointer (some ⟨N, 1, none⟩), markV mA, markV mA, .bool true, .bool true, .bool true, .pointer (some ⟨N, 17, none⟩), .int .u64 qa, markV mA, .int .u64 qa, .bool true, .bool true, .bool true, .pointer (some ⟨M, 0, none⟩), .int .i64 2, .bool true, .bool true, .bool true, .pointer (some ⟨M, 1, none⟩), markV mC, markV mC, .bool true, .bool true, .bool true, cellV 1 mA qa, .int .i64 1, .bool true, .bool true, .bool true, cellV 2 mC qc, .int .i64 0, .bool true, .bool true, .bool true, cellV 2 mC qc, cellV 1 mB qb, cellV 1 mA qa, cellV 1 mA qa, .bool true, .bool true, .bool true, cellV 0 (List.replicate 16 0) 0, cellV 1 mA qa, cellV (-1) mA qa, .int .i64 (-1), .bool true, .bool true, .bool true, .bool true, .bool true, .bool true, .pointer (some ⟨P, 0, none⟩), g.1, .pointer (some ⟨g.2.1, 0, none⟩), cellV 2 mC qc, cellV 2 mC qc, .bool true, .bool true, .bool true, cellV 1 mA qa, cellV 1 mB qb, g.2.2, cellV 2 mC qc, cellV 2 mC qc, .bool true, .bool true, .bool true, cellV 2 mC qc, .bool true, .bool true, .bool true]) [56, 57, 58, 65] (FirS v0) (by kernel_rfl) (by kernel_rfl) (fun g => by kernel_rfl) (by kernel_rfl) ?hS (GFrom.all (n := 75) (by kernel_rfl) ?hstep) ?hend
  case hstep =>
    refine GFrom.cons (GStep.val _ rfl rfl _ rfl (fun g => .pointer (some ⟨N, 0, none⟩)) (fun _ => rfl) (fun _ => trivial) (fun bs g ev wq hS he hr => ?_)) ?_
    · have r0 : ev (.tmp 1) = .pointer (some ⟨N, 0, none⟩) := hr (1, none) (by simp); have hk := he.1; clear hr he
      go_simp
    refine GFrom.cons (GStep.val _ rfl rfl _ rfl (fun g => .int .i64 1) (fun _ => rfl) (fun _ => trivial) (fun bs g ev wq hS he hr => ?_)) ?_
    · have r0 : ev (.tmp 18) = .pointer (some ⟨N, 0, none⟩) := hr (18, some 0) (by simp); have hk := he.1; clear hr he
      have c0 := cell_c (D1.out.kept hS.kp (fun h => h))
      go_simp
    refine GFrom.cons (GStep.val _ rfl rfl _ rfl (fun g => .bool true) (fun _ => rfl) (fun _ => trivial) (fun bs g ev wq hS he hr => ?_)) ?_
    · have r0 : ev (.tmp 19) = .int .i64 1 := hr (19, some 1) (by simp); have hk := he.1; clear hr he
      go_simp
    refine GFrom.cons (GStep.val _ rfl rfl _ rfl (fun g => .bool true) (fun _ => rfl) (fun _ => trivial) (fun bs g ev wq hS he hr => ?_)) ?_
    · have r0 : ev (.tmp 20) = .bool true := hr (20, some 2) (by simp); have hk := he.1; clear hr he
      go_simp
    refine GFrom.cons (GStep.val _ rfl rfl _ rfl (fun g => .pointer (some ⟨N, 1, none⟩)) (fun _ => rfl) (fun _ => rfl) (fun bs g ev wq hS he hr => ?_)) ?_
    · have r0 : ev (.tmp 1) = .pointer (some ⟨N, 0, none⟩) := hr (1, none) (by simp); have hk := he.1; clear hr he
      go_simp
    refine GFrom.cons (GStep.val _ rfl rfl _ rfl (fun g => markV mA) (fun _ => rfl) (fun _ => rfl) (fun bs g ev wq hS he hr => ?_)) ?_
    · have r0 : ev (.tmp 22) = .pointer (some ⟨N, 1, none⟩) := hr (22, some 4) (by simp); have hk := he.1; clear hr he
      exact exec_load rfl r0 (mark_part (m := mA) (hid rfl) (D1.out.kept hS.kp (fun h => h)))
    refine GFrom.cons (GStep.val _ rfl rfl _ rfl (fun g => markV mA) (fun _ => rfl) (fun _ => rfl) (fun bs g ev wq hS he hr => ?_)) ?_
    · have hk := he.1; clear hr he
      exact exec_build rfl (by simp [hk]) (build_mA wq)
    refine GFrom.cons (GStep.val _ rfl rfl _ rfl (fun g => .bool true) (fun _ => rfl) (fun _ => rfl) (fun bs g ev wq hS he hr => ?_)) ?_
    · have r0 : ev (.tmp 23) = markV mA := hr (23, some 5) (by simp); have r1 : ev (.tmp 24) = markV mA := hr (24, some 6) (by simp); have hk := he.1; clear hr he
      have e1 := eq_mark mA rfl wq
      go_simp
    refine GFrom.cons (GStep.val _ rfl rfl _ rfl (fun g => .bool true) (fun _ => rfl) (fun _ => trivial) (fun bs g ev wq hS he hr => ?_)) ?_
    · have r0 : ev (.tmp 21) = .bool true := hr (21, some 3) (by simp); have r1 : ev (.tmp 25) = .bool true := hr (25, some 7) (by simp); have hk := he.1; clear hr he
      go_simp
    refine GFrom.cons (GStep.val _ rfl rfl _ rfl (fun g => .bool true) (fun _ => rfl) (fun _ => trivial) (fun bs g ev wq hS he hr => ?_)) ?_
    · have r0 : ev (.tmp 26) = .bool true := hr (26, some 8) (by simp); have hk := he.1; clear hr he
      go_simp
    refine GFrom.cons (GStep.val _ rfl rfl _ rfl (fun g => .pointer (some ⟨N, 17, none⟩)) (fun _ => rfl) (fun _ => rfl) (fun bs g ev wq hS he hr => ?_)) ?_
    · have r0 : ev (.tmp 1) = .pointer (some ⟨N, 0, none⟩) := hr (1, none) (by simp); have hk := he.1; clear hr he
      go_simp
    refine GFrom.cons (GStep.val _ rfl rfl _ rfl (fun g => .int .u64 qa) (fun _ => rfl) (fun _ => rfl) (fun bs g ev wq hS he hr => ?_)) ?_
    · have r0 : ev (.tmp 28) = .pointer (some ⟨N, 17, none⟩) := hr (28, some 10) (by simp); have hk := he.1; clear hr he
      have c0 := cell_k (m := mA) rfl (D1.out.kept hS.kp (fun h => h))
      go_simp
    refine GFrom.cons (GStep.val _ rfl rfl _ rfl (fun g => markV mA) (fun _ => rfl) (fun _ => rfl) (fun bs g ev wq hS he hr => ?_)) ?_
    · have hk := he.1; clear hr he
      exact exec_build rfl (by simp [hk]) (build_mA wq)
    refine GFrom.cons (GStep.call _ rfl rfl _ rfl (fun g => .int .u64 qa) (fun _ => rfl) (fun _ => rfl) 10 (fun g => #[markV mA]) (fun bs g ev wq hS he hr => ?_) (fun L g wq hd hL hS => ?_)) ?_
    · have r0 : ev (.tmp 30) = markV mA := hr (30, some 12) (by simp); have hk := he.1; have hf := he.2; clear hr he
      go_simp
    · exact (CKA.out wq).mono fun e w' ⟨h1, h2⟩ => ⟨h1, hS.keptN h2⟩
    refine GFrom.cons (GStep.val _ rfl rfl _ rfl (fun g => .bool true) (fun _ => rfl) (fun _ => rfl) (fun bs g ev wq hS he hr => ?_)) ?_
    · have r0 : ev (.tmp 29) = .int .u64 qa := hr (29, some 11) (by simp); have r1 : ev (.tmp 31) = .int .u64 qa := hr (31, some 13) (by simp); have hk := he.1; clear hr he
      go_simp
    refine GFrom.cons (GStep.val _ rfl rfl _ rfl (fun g => .bool true) (fun _ => rfl) (fun _ => trivial) (fun bs g ev wq hS he hr => ?_)) ?_
    · have r0 : ev (.tmp 27) = .bool true := hr (27, some 9) (by simp); have r1 : ev (.tmp 32) = .bool true := hr (32, some 14) (by simp); have hk := he.1; clear hr he
      go_simp
    refine GFrom.cons (GStep.val _ rfl rfl _ rfl (fun g => .bool true) (fun _ => rfl) (fun _ => trivial) (fun bs g ev wq hS he hr => ?_)) ?_
    · have r0 : ev (.tmp 33) = .bool true := hr (33, some 15) (by simp); have hk := he.1; clear hr he
      go_simp
    refine GFrom.cons (GStep.val _ rfl rfl _ rfl (fun g => .pointer (some ⟨M, 0, none⟩)) (fun _ => rfl) (fun _ => rfl) (fun bs g ev wq hS he hr => ?_)) ?_
    · have r0 : ev (.tmp 3) = .pointer (some ⟨M, 0, none⟩) := hr (3, none) (by simp); have hk := he.1; clear hr he
      go_simp
    refine GFrom.cons (GStep.val _ rfl rfl _ rfl (fun g => .int .i64 2) (fun _ => rfl) (fun _ => rfl) (fun bs g ev wq hS he hr => ?_)) ?_
    · have r0 : ev (.tmp 35) = .pointer (some ⟨M, 0, none⟩) := hr (35, some 17) (by simp); have hk := he.1; clear hr he
      have c0 := cell_c (D3.out.kept hS.kp (fun h => h))
      go_simp
    refine GFrom.cons (GStep.val _ rfl rfl _ rfl (fun g => .bool true) (fun _ => rfl) (fun _ => rfl) (fun bs g ev wq hS he hr => ?_)) ?_
    · have r0 : ev (.tmp 36) = .int .i64 2 := hr (36, some 18) (by simp); have hk := he.1; clear hr he
      go_simp
    refine GFrom.cons (GStep.val _ rfl rfl _ rfl (fun g => .bool true) (fun _ => rfl) (fun _ => trivial) (fun bs g ev wq hS he hr => ?_)) ?_
    · have r0 : ev (.tmp 34) = .bool true := hr (34, some 16) (by simp); have r1 : ev (.tmp 37) = .bool true := hr (37, some 19) (by simp); have hk := he.1; clear hr he
      go_simp
    refine GFrom.cons (GStep.val _ rfl rfl _ rfl (fun g => .bool true) (fun _ => rfl) (fun _ => trivial) (fun bs g ev wq hS he hr => ?_)) ?_
    · have r0 : ev (.tmp 38) = .bool true := hr (38, some 20) (by simp); have hk := he.1; clear hr he
      go_simp
    refine GFrom.cons (GStep.val _ rfl rfl _ rfl (fun g => .pointer (some ⟨M, 1, none⟩)) (fun _ => rfl) (fun _ => rfl) (fun bs g ev wq hS he hr => ?_)) ?_
    · have r0 : ev (.tmp 3) = .pointer (some ⟨M, 0, none⟩) := hr (3, none) (by simp); have hk := he.1; clear hr he
      go_simp
    refine GFrom.cons (GStep.val _ rfl rfl _ rfl (fun g => markV mC) (fun _ => rfl) (fun _ => rfl) (fun bs g ev wq hS he hr => ?_)) ?_
    · have r0 : ev (.tmp 40) = .pointer (some ⟨M, 1, none⟩) := hr (40, some 22) (by simp); have hk := he.1; clear hr he
      exact exec_load rfl r0 (mark_part (m := mC) (hid rfl) (D3.out.kept hS.kp (fun h => h)))
    refine GFrom.cons (GStep.val _ rfl rfl _ rfl (fun g => markV mC) (fun _ => rfl) (fun _ => rfl) (fun bs g ev wq hS he hr => ?_)) ?_
    · have hk := he.1; clear hr he
      exact exec_build rfl (by simp [hk]) (build_mC wq)
    refine GFrom.cons (GStep.val _ rfl rfl _ rfl (fun g => .bool true) (fun _ => rfl) (fun _ => rfl) (fun bs g ev wq hS he hr => ?_)) ?_
    · have r0 : ev (.tmp 41) = markV mC := hr (41, some 23) (by simp); have r1 : ev (.tmp 42) = markV mC := hr (42, some 24) (by simp); have hk := he.1; clear hr he
      have e1 := eq_mark mC rfl wq
      go_simp
    refine GFrom.cons (GStep.val _ rfl rfl _ rfl (fun g => .bool true) (fun _ => rfl) (fun _ => trivial) (fun bs g ev wq hS he hr => ?_)) ?_
    · have r0 : ev (.tmp 39) = .bool true := hr (39, some 21) (by simp); have r1 : ev (.tmp 43) = .bool true := hr (43, some 25) (by simp); have hk := he.1; clear hr he
      go_simp
    refine GFrom.cons (GStep.val _ rfl rfl _ rfl (fun g => .bool true) (fun _ => rfl) (fun _ => trivial) (fun bs g ev wq hS he hr => ?_)) ?_
    · have r0 : ev (.tmp 44) = .bool true := hr (44, some 26) (by simp); have hk := he.1; clear hr he
      go_simp
    refine GFrom.cons (GStep.val _ rfl rfl _ rfl (fun g => cellV 1 mA qa) (fun _ => rfl) (fun _ => rfl) (fun bs g ev wq hS he hr => ?_)) ?_
    · have r0 : ev (.tmp 1) = .pointer (some ⟨N, 0, none⟩) := hr (1, none) (by simp); have hk := he.1; clear hr he
      exact exec_load rfl r0 (cell_whole (m := mA) rfl (D1.out.kept hS.kp (fun h => h)))
    refine GFrom.cons (GStep.call _ rfl rfl _ rfl (fun g => .int .i64 1) (fun _ => rfl) (fun _ => rfl) 17 (fun g => #[cellV 1 mA qa]) (fun bs g ev wq hS he hr => ?_) (fun L g wq hd hL hS => ?_)) ?_
    · have r0 : ev (.tmp 46) = cellV 1 mA qa := hr (46, some 28) (by simp); have hk := he.1; have hf := he.2; clear hr he
      go_simp
    · exact (PUA.out wq).mono fun e w' ⟨h1, h2⟩ => ⟨h1, hS.keptN h2⟩
    refine GFrom.cons (GStep.val _ rfl rfl _ rfl (fun g => .bool true) (fun _ => rfl) (fun _ => rfl) (fun bs g ev wq hS he hr => ?_)) ?_
    · have r0 : ev (.tmp 47) = .int .i64 1 := hr (47, some 29) (by simp); have hk := he.1; clear hr he
      go_simp
    refine GFrom.cons (GStep.val _ rfl rfl _ rfl (fun g => .bool true) (fun _ => rfl) (fun _ => trivial) (fun bs g ev wq hS he hr => ?_)) ?_
    · have r0 : ev (.tmp 45) = .bool true := hr (45, some 27) (by simp); have r1 : ev (.tmp 48) = .bool true := hr (48, some 30) (by simp); have hk := he.1; clear hr he
      go_simp
    refine GFrom.cons (GStep.val _ rfl rfl _ rfl (fun g => .bool true) (fun _ => rfl) (fun _ => trivial) (fun bs g ev wq hS he hr => ?_)) ?_
    · have r0 : ev (.tmp 49) = .bool true := hr (49, some 31) (by simp); have hk := he.1; clear hr he
      go_simp
    refine GFrom.cons (GStep.val _ rfl rfl _ rfl (fun g => cellV 2 mC qc) (fun _ => rfl) (fun _ => rfl) (fun bs g ev wq hS he hr => ?_)) ?_
    · have r0 : ev (.tmp 3) = .pointer (some ⟨M, 0, none⟩) := hr (3, none) (by simp); have hk := he.1; clear hr he
      exact exec_load rfl r0 (cell_whole (m := mC) rfl (D3.out.kept hS.kp (fun h => h)))
    refine GFrom.cons (GStep.call _ rfl rfl _ rfl (fun g => .int .i64 0) (fun _ => rfl) (fun _ => rfl) 17 (fun g => #[cellV 2 mC qc]) (fun bs g ev wq hS he hr => ?_) (fun L g wq hd hL hS => ?_)) ?_
    · have r0 : ev (.tmp 51) = cellV 2 mC qc := hr (51, some 33) (by simp); have hk := he.1; have hf := he.2; clear hr he
      go_simp
    · exact (PUC.out wq).mono fun e w' ⟨h1, h2⟩ => ⟨h1, hS.keptN h2⟩
    refine GFrom.cons (GStep.val _ rfl rfl _ rfl (fun g => .bool true) (fun _ => rfl) (fun _ => rfl) (fun bs g ev wq hS he hr => ?_)) ?_
    · have r0 : ev (.tmp 52) = .int .i64 0 := hr (52, some 34) (by simp); have hk := he.1; clear hr he
      go_simp
    refine GFrom.cons (GStep.val _ rfl rfl _ rfl (fun g => .bool true) (fun _ => rfl) (fun _ => trivial) (fun bs g ev wq hS he hr => ?_)) ?_
    · have r0 : ev (.tmp 50) = .bool true := hr (50, some 32) (by simp); have r1 : ev (.tmp 53) = .bool true := hr (53, some 35) (by simp); have hk := he.1; clear hr he
      go_simp
    refine GFrom.cons (GStep.val _ rfl rfl _ rfl (fun g => .bool true) (fun _ => rfl) (fun _ => trivial) (fun bs g ev wq hS he hr => ?_)) ?_
    · have r0 : ev (.tmp 54) = .bool true := hr (54, some 36) (by simp); have hk := he.1; clear hr he
      go_simp
    refine GFrom.cons (GStep.val _ rfl rfl _ rfl (fun g => cellV 2 mC qc) (fun _ => rfl) (fun _ => rfl) (fun bs g ev wq hS he hr => ?_)) ?_
    · have r0 : ev (.tmp 3) = .pointer (some ⟨M, 0, none⟩) := hr (3, none) (by simp); have hk := he.1; clear hr he
      exact exec_load rfl r0 (cell_whole (m := mC) rfl (D3.out.kept hS.kp (fun h => h)))
    refine GFrom.cons (GStep.val _ rfl rfl _ rfl (fun g => cellV 1 mB qb) (fun _ => rfl) (fun _ => rfl) (fun bs g ev wq hS he hr => ?_)) ?_
    · have r0 : ev (.tmp 2) = .pointer (some ⟨(N + 1), 0, none⟩) := hr (2, none) (by simp); have hk := he.1; clear hr he
      exact exec_load rfl r0 (cell_whole (m := mB) rfl (D2.out.kept hS.kp (fun h => h)))
    refine GFrom.cons (GStep.call _ rfl rfl _ rfl (fun g => cellV 1 mA qa) (fun _ => rfl) (fun _ => rfl) 15 (fun g => #[cellV 2 mC qc, cellV 1 mB qb]) (fun bs g ev wq hS he hr => ?_) (fun L g wq hd hL hS => ?_)) ?_
    · have r0 : ev (.tmp 56) = cellV 2 mC qc := hr (56, some 38) (by simp); have r1 : ev (.tmp 57) = cellV 1 mB qb := hr (57, some 39) (by simp); have hk := he.1; have hf := he.2; clear hr he
      go_simp
    · exact (SCB.out wq).mono fun e w' ⟨h1, h2⟩ => ⟨h1, hS.keptN h2⟩
    refine GFrom.cons (GStep.val _ rfl rfl _ rfl (fun g => cellV 1 mA qa) (fun _ => rfl) (fun _ => rfl) (fun bs g ev wq hS he hr => ?_)) ?_
    · have r0 : ev (.tmp 1) = .pointer (some ⟨N, 0, none⟩) := hr (1, none) (by simp); have hk := he.1; clear hr he
      exact exec_load rfl r0 (cell_whole (m := mA) rfl (D1.out.kept hS.kp (fun h => h)))
    refine GFrom.cons (GStep.val _ rfl rfl _ rfl (fun g => .bool true) (fun _ => rfl) (fun _ => rfl) (fun bs g ev wq hS he hr => ?_)) ?_
    · have r0 : ev (.tmp 58) = cellV 1 mA qa := hr (58, some 40) (by simp); have r1 : ev (.tmp 59) = cellV 1 mA qa := hr (59, some 41) (by simp); have hk := he.1; clear hr he
      exact exec_eqlCell rfl r0 r1 (EA.out wq)
    refine GFrom.cons (GStep.val _ rfl rfl _ rfl (fun g => .bool true) (fun _ => rfl) (fun _ => trivial) (fun bs g ev wq hS he hr => ?_)) ?_
    · have r0 : ev (.tmp 55) = .bool true := hr (55, some 37) (by simp); have r1 : ev (.tmp 60) = .bool true := hr (60, some 42) (by simp); have hk := he.1; clear hr he
      go_simp
    refine GFrom.cons (GStep.val _ rfl rfl _ rfl (fun g => .bool true) (fun _ => rfl) (fun _ => trivial) (fun bs g ev wq hS he hr => ?_)) ?_
    · have r0 : ev (.tmp 61) = .bool true := hr (61, some 43) (by simp); have hk := he.1; clear hr he
      go_simp
    refine GFrom.cons (GStep.val _ rfl rfl _ rfl (fun g => cellV 0 (List.replicate 16 0) 0) (fun _ => rfl) (fun _ => rfl) (fun bs g ev wq hS he hr => ?_)) ?_
    · have hk := he.1; clear hr he
      exact exec_build rfl (by simp) (build_c0 wq)
    refine GFrom.cons (GStep.val _ rfl rfl _ rfl (fun g => cellV 1 mA qa) (fun _ => rfl) (fun _ => rfl) (fun bs g ev wq hS he hr => ?_)) ?_
    · have r0 : ev (.tmp 1) = .pointer (some ⟨N, 0, none⟩) := hr (1, none) (by simp); have hk := he.1; clear hr he
      exact exec_load rfl r0 (cell_whole (m := mA) rfl (D1.out.kept hS.kp (fun h => h)))
    refine GFrom.cons (GStep.call _ rfl rfl _ rfl (fun g => cellV (-1) mA qa) (fun _ => rfl) (fun _ => rfl) 15 (fun g => #[cellV 0 (List.replicate 16 0) 0, cellV 1 mA qa]) (fun bs g ev wq hS he hr => ?_) (fun L g wq hd hL hS => ?_)) ?_
    · have r0 : ev (.tmp 63) = cellV 0 (List.replicate 16 0) 0 := hr (63, some 45) (by simp); have r1 : ev (.tmp 64) = cellV 1 mA qa := hr (64, some 46) (by simp); have hk := he.1; have hf := he.2; clear hr he
      go_simp
    · exact (SOA.out wq).mono fun e w' ⟨h1, h2⟩ => ⟨h1, hS.keptN h2⟩
    refine GFrom.cons (GStep.call _ rfl rfl _ rfl (fun g => .int .i64 (-1)) (fun _ => rfl) (fun _ => rfl) 17 (fun g => #[cellV (-1) mA qa]) (fun bs g ev wq hS he hr => ?_) (fun L g wq hd hL hS => ?_)) ?_
    · have r0 : ev (.tmp 65) = cellV (-1) mA qa := hr (65, some 47) (by simp); have hk := he.1; have hf := he.2; clear hr he
      go_simp
    · exact (PUN.out wq).mono fun e w' ⟨h1, h2⟩ => ⟨h1, hS.keptN h2⟩
    refine GFrom.cons (GStep.val _ rfl rfl _ rfl (fun g => .bool true) (fun _ => rfl) (fun _ => rfl) (fun bs g ev wq hS he hr => ?_)) ?_
    · have r0 : ev (.tmp 66) = .int .i64 (-1) := hr (66, some 48) (by simp); have hk := he.1; clear hr he
      go_simp
    refine GFrom.cons (GStep.val _ rfl rfl _ rfl (fun g => .bool true) (fun _ => rfl) (fun _ => trivial) (fun bs g ev wq hS he hr => ?_)) ?_
    · have r0 : ev (.tmp 62) = .bool true := hr (62, some 44) (by simp); have r1 : ev (.tmp 67) = .bool true := hr (67, some 49) (by simp); have hk := he.1; clear hr he
      go_simp
    refine GFrom.cons (GStep.val _ rfl rfl _ rfl (fun g => .bool true) (fun _ => rfl) (fun _ => trivial) (fun bs g ev wq hS he hr => ?_)) ?_
    · have r0 : ev (.tmp 68) = .bool true := hr (68, some 50) (by simp); have hk := he.1; clear hr he
      go_simp
    refine GFrom.cons (GStep.val _ rfl rfl _ rfl (fun g => .bool true) (fun _ => rfl) (fun _ => rfl) (fun bs g ev wq hS he hr => ?_)) ?_
    · have r0 : ev (.tmp 5) = .bool true := hr (5, none) (by simp); have hk := he.1; clear hr he
      go_simp
    refine GFrom.cons (GStep.val _ rfl rfl _ rfl (fun g => .bool true) (fun _ => rfl) (fun _ => trivial) (fun bs g ev wq hS he hr => ?_)) ?_
    · have r0 : ev (.tmp 69) = .bool true := hr (69, some 51) (by simp); have r1 : ev (.tmp 70) = .bool true := hr (70, some 52) (by simp); have hk := he.1; clear hr he
      go_simp
    refine GFrom.cons (GStep.val _ rfl rfl _ rfl (fun g => .bool true) (fun _ => rfl) (fun _ => trivial) (fun bs g ev wq hS he hr => ?_)) ?_
    · have r0 : ev (.tmp 71) = .bool true := hr (71, some 53) (by simp); have hk := he.1; clear hr he
      go_simp
    refine GFrom.cons (GStep.val _ rfl rfl _ rfl (fun g => .pointer (some ⟨P, 0, none⟩)) (fun _ => rfl) (fun _ => rfl) (fun bs g ev wq hS he hr => ?_)) ?_
    · have r0 : ev (.tmp 4) = .pointer (some ⟨P, 0, none⟩) := hr (4, none) (by simp); have hk := he.1; clear hr he
      go_simp
    refine GFrom.cons (GStep.callm _ rfl _ rfl (fun _ => rfl) 26 (fun g => #[.pointer (some ⟨P, 0, none⟩)]) (fun bs g ev wq hS he hr => ?_) (fun L g wq hL hd hcl hS => ?_)) ?_
    · have r0 : ev (.tmp 73) = .pointer (some ⟨P, 0, none⟩) := hr (73, some 55) (by simp); have hk := he.1; have hf := he.2; clear hr he
      go_simp
    · refine (pen_bytes P _ _ wq (HPP.out.kept hS.kp (fun h => h) (fun _ _ h => h)) (by rw [HQC.out]; exact zs_len)).mono ?_
      rintro e w' ⟨r, rfl, ow, kn⟩
      have hy := BySl.ofOwn (S := Nb) ow HPP.out.bytes (fun _ _ _ h => h)
      rw [HQC.out] at hy
      have hn := hS.keptN kn
      refine ⟨r, (r, g.2), rfl, rfl, old_set r hL rfl, ?_⟩
      exact ⟨hn.kp, fun _ _ => hy, fun e1 e2 => hn.eye (by simpa [bitsAt, upd] using e1) (by simpa [bitsAt, upd] using e2), fun e1 => hn.low (by simpa [bitsAt, upd] using e1), fun e1 => hn.sl (by simpa [bitsAt, upd] using e1)⟩
    refine GFrom.cons (GStep.callm _ rfl _ rfl (fun _ => rfl) 23 (fun g => #[g.1]) (fun bs g ev wq hS he hr => ?_) (fun L g wq hL hd hcl hS => ?_)) ?_
    · have r0 : ev (.tmp 74) = g.1 := hr (74, some 56) (by simp); have hk := he.1; have hf := he.2; clear hr he
      go_simp
    · refine (read_any (S := Nb) g.1 _ wq (hS.by' (by simp [bitsAt, hd 56 (by kernel_rfl)]) (by simp [bitsAt, hL])) zs_len).mono ?_
      rintro e w' ⟨Bq, hB, rfl, hey, kn⟩
      have hn := hS.keptN kn
      have hz := hS.kp.size
      refine ⟨_, (g.1, Bq, g.2.2), rfl, rfl, old_set _ hL rfl, ?_⟩
      exact ⟨hn.kp, fun _ e2 => by simp [bitsAt, upd] at e2, fun _ _ => hey, fun _ => Nat.le_trans hz hB, fun e1 => hn.sl (by simpa [bitsAt, upd] using e1)⟩
    refine GFrom.cons (GStep.callm _ rfl _ rfl (fun _ => rfl) 24 (fun g => #[.pointer (some ⟨g.2.1, 0, none⟩)]) (fun bs g ev wq hS he hr => ?_) (fun L g wq hL hd hcl hS => ?_)) ?_
    · have r0 : ev (.tmp 75) = .pointer (some ⟨g.2.1, 0, none⟩) := hr (75, some 57) (by simp); have hk := he.1; have hf := he.2; clear hr he
      go_simp
    · have b1 : L 57 = true := hd 57 (by kernel_rfl)
      refine (cget_any g.2.1 _ wq (hS.eye (by simp [bitsAt, b1]) (by simp [bitsAt, hL])) zs_len).mono ?_
      rintro e w' ⟨h1, -, kn⟩
      rw [get_c] at h1
      have lo := hS.low (by simp [bitsAt, b1])
      refine ⟨cellV 2 mC qC, g, h1, by rw [HQC.out]; rfl, fun _ _ => rfl, ?_⟩
      refine ⟨hS.kp.trans kn (fun i hi h => by have h' : i = g.2.1 := h; omega), fun _ e2 => by simp [bitsAt, upd, b1] at e2, fun _ e2 => by simp [bitsAt, upd] at e2, fun _ => lo, fun e1 => ?_⟩
      have l65 : L 65 = true := by simpa [bitsAt, upd] using e1
      have l62 : L 62 = true := hcl 65 _ rfl l65 62 (by kernel_rfl)
      have l58 : L 58 = true := hcl 62 _ rfl l62 58 (by kernel_rfl)
      rw [hL] at l58
      cases l58
    refine GFrom.cons (GStep.val _ rfl rfl _ rfl (fun g => cellV 2 mC qc) (fun _ => rfl) (fun _ => rfl) (fun bs g ev wq hS he hr => ?_)) ?_
    · have r0 : ev (.tmp 3) = .pointer (some ⟨M, 0, none⟩) := hr (3, none) (by simp); have hk := he.1; clear hr he
      exact exec_load rfl r0 (cell_whole (m := mC) rfl (D3.out.kept hS.kp (fun h => h)))
    refine GFrom.cons (GStep.val _ rfl rfl _ rfl (fun g => .bool true) (fun _ => rfl) (fun _ => rfl) (fun bs g ev wq hS he hr => ?_)) ?_
    · have r0 : ev (.tmp 76) = cellV 2 mC qc := hr (76, some 58) (by simp); have r1 : ev (.tmp 77) = cellV 2 mC qc := hr (77, some 59) (by simp); have hk := he.1; clear hr he
      exact exec_eqlCell rfl r0 r1 (EC.out wq)
    refine GFrom.cons (GStep.val _ rfl rfl _ rfl (fun g => .bool true) (fun _ => rfl) (fun _ => trivial) (fun bs g ev wq hS he hr => ?_)) ?_
    · have r0 : ev (.tmp 72) = .bool true := hr (72, some 54) (by simp); have r1 : ev (.tmp 78) = .bool true := hr (78, some 60) (by simp); have hk := he.1; clear hr he
      go_simp
    refine GFrom.cons (GStep.val _ rfl rfl _ rfl (fun g => .bool true) (fun _ => rfl) (fun _ => trivial) (fun bs g ev wq hS he hr => ?_)) ?_
    · have r0 : ev (.tmp 79) = .bool true := hr (79, some 61) (by simp); have hk := he.1; clear hr he
      go_simp
    refine GFrom.cons (GStep.val _ rfl rfl _ rfl (fun g => cellV 1 mA qa) (fun _ => rfl) (fun _ => rfl) (fun bs g ev wq hS he hr => ?_)) ?_
    · have r0 : ev (.tmp 1) = .pointer (some ⟨N, 0, none⟩) := hr (1, none) (by simp); have hk := he.1; clear hr he
      exact exec_load rfl r0 (cell_whole (m := mA) rfl (D1.out.kept hS.kp (fun h => h)))
    refine GFrom.cons (GStep.val _ rfl rfl _ rfl (fun g => cellV 1 mB qb) (fun _ => rfl) (fun _ => rfl) (fun bs g ev wq hS he hr => ?_)) ?_
    · have r0 : ev (.tmp 2) = .pointer (some ⟨(N + 1), 0, none⟩) := hr (2, none) (by simp); have hk := he.1; clear hr he
      exact exec_load rfl r0 (cell_whole (m := mB) rfl (D2.out.kept hS.kp (fun h => h)))
    refine GFrom.cons (GStep.make _ rfl _ rfl (fun _ => rfl) (fun L g ev wq hL hd hcl hS he hr => ?_)) ?_
    · have r0 : ev (.tmp 81) = cellV 1 mA qa := hr (81, some 63) (by simp); have r1 : ev (.tmp 82) = cellV 1 mB qb := hr (82, some 64) (by simp); clear hr he
      have hc := celSl_ab (Blk.new wq 26 (cellL 1 mA qa ++ cellL 1 mB qb))
      have hn := hS.keptN ((Kp.refl Nb wq).alloc (.cells (cellL 1 mA qa ++ cellL 1 mB qb).toArray 26))
      refine ⟨.slice (some ⟨wq.heap.size, 0, none⟩) 2 2, (g.1, g.2.1, .slice (some ⟨wq.heap.size, 0, none⟩) 2 2), _, exec_buildSlice rfl (by simp [r0, r1]) (make_ab qa qb wq), rfl, old_set _ hL rfl, ?_⟩
      exact ⟨hn.kp, fun e1 e2 => hn.by' (by simpa [bitsAt, upd] using e1) (by simpa [bitsAt, upd] using e2), fun e1 e2 => hn.eye (by simpa [bitsAt, upd] using e1) (by simpa [bitsAt, upd] using e2), fun e1 => hn.low (by simpa [bitsAt, upd] using e1), fun _ => by rw [HQA.out, HQB.out]; exact hc⟩
    refine GFrom.cons (GStep.call _ rfl rfl _ rfl (fun g => cellV 2 mC qc) (fun _ => rfl) (fun _ => rfl) 16 (fun g => #[g.2.2]) (fun bs g ev wq hS he hr => ?_) (fun L g wq hd hL hS => ?_)) ?_
    · have r0 : ev (.tmp 83) = g.2.2 := hr (83, some 65) (by simp); have hk := he.1; have hf := he.2; clear hr he
      go_simp
    · exact (SUM.out g.2.2 wq (hS.sl (by simp [bitsAt, hd 65 (by kernel_rfl)]))).mono fun e w' ⟨h1, h2⟩ => ⟨h1, hS.keptN h2⟩
    refine GFrom.cons (GStep.val _ rfl rfl _ rfl (fun g => cellV 2 mC qc) (fun _ => rfl) (fun _ => rfl) (fun bs g ev wq hS he hr => ?_)) ?_
    · have r0 : ev (.tmp 3) = .pointer (some ⟨M, 0, none⟩) := hr (3, none) (by simp); have hk := he.1; clear hr he
      exact exec_load rfl r0 (cell_whole (m := mC) rfl (D3.out.kept hS.kp (fun h => h)))
    refine GFrom.cons (GStep.val _ rfl rfl _ rfl (fun g => .bool true) (fun _ => rfl) (fun _ => rfl) (fun bs g ev wq hS he hr => ?_)) ?_
    · have r0 : ev (.tmp 84) = cellV 2 mC qc := hr (84, some 66) (by simp); have r1 : ev (.tmp 85) = cellV 2 mC qc := hr (85, some 67) (by simp); have hk := he.1; clear hr he
      exact exec_eqlCell rfl r0 r1 (EC.out wq)
    refine GFrom.cons (GStep.val _ rfl rfl _ rfl (fun g => .bool true) (fun _ => rfl) (fun _ => trivial) (fun bs g ev wq hS he hr => ?_)) ?_
    · have r0 : ev (.tmp 80) = .bool true := hr (80, some 62) (by simp); have r1 : ev (.tmp 86) = .bool true := hr (86, some 68) (by simp); have hk := he.1; clear hr he
      go_simp
    refine GFrom.cons (GStep.val _ rfl rfl _ rfl (fun g => .bool true) (fun _ => rfl) (fun _ => trivial) (fun bs g ev wq hS he hr => ?_)) ?_
    · have r0 : ev (.tmp 87) = .bool true := hr (87, some 69) (by simp); have hk := he.1; clear hr he
      go_simp
    refine GFrom.cons (GStep.val _ rfl rfl _ rfl (fun g => cellV 2 mC qc) (fun _ => rfl) (fun _ => rfl) (fun bs g ev wq hS he hr => ?_)) ?_
    · have r0 : ev (.tmp 3) = .pointer (some ⟨M, 0, none⟩) := hr (3, none) (by simp); have hk := he.1; clear hr he
      exact exec_load rfl r0 (cell_whole (m := mC) rfl (D3.out.kept hS.kp (fun h => h)))
    refine GFrom.cons (GStep.call _ rfl rfl _ rfl (fun g => .bool true) (fun _ => rfl) (fun _ => rfl) 19 (fun g => #[cellV 2 mC qc]) (fun bs g ev wq hS he hr => ?_) (fun L g wq hd hL hS => ?_)) ?_
    · have r0 : ev (.tmp 89) = cellV 2 mC qc := hr (89, some 71) (by simp); have hk := he.1; have hf := he.2; clear hr he
      go_simp
    · exact (RI.out wq).mono fun e w' ⟨h1, h2⟩ => ⟨h1, hS.keptN h2⟩
    refine GFrom.cons (GStep.val _ rfl rfl _ rfl (fun g => .bool true) (fun _ => rfl) (fun _ => trivial) (fun bs g ev wq hS he hr => ?_)) ?_
    · have r0 : ev (.tmp 88) = .bool true := hr (88, some 70) (by simp); have r1 : ev (.tmp 90) = .bool true := hr (90, some 72) (by simp); have hk := he.1; clear hr he
      go_simp
    refine GFrom.cons (GStep.val _ rfl rfl _ rfl (fun g => .bool true) (fun _ => rfl) (fun _ => trivial) (fun bs g ev wq hS he hr => ?_)) ?_
    · have r0 : ev (.tmp 91) = .bool true := hr (91, some 73) (by simp); have hk := he.1; clear hr he
      go_simp
    exact GFrom.nil
  case hS => exact ⟨(Kp.refl Nb _).drew, fun h => by simp at h, fun h => by simp at h, fun h => by simp at h, fun h => by simp at h⟩
  case hend =>
    intro g w7 h7
    have KE := hid (K6.out.trans h7.kp (fun _ _ h => h))
    clear h7
    simp only [putAll, List.zip_cons_cons, List.zip_nil_right, List.foldl_cons, List.foldl_nil, Act.put, List.setIfInBounds_toArray, List.set_cons_zero, List.set_cons_succ]
    go_wp2
    first
      | (refine bodyPost_ret (results_tmp (t := 0) rfl _ _ _) rfl ⟨?_, KE.out⟩; rfl)
      | (refine bodyPost_ret (v := .bool true) ((results_tmp (t := 0) rfl _ _ _).trans (by rfl)) rfl ⟨rfl, KE.out⟩)
      | (refine ⟨rfl, _, results_tmp (t := 0) rfl _ _ _, ?_, KE.out⟩; rfl)
  -- R5 end

end Go.Proofs.Ytofjkaemakdmeaa
