/-
  Layer 10: walks of the reference's Check, Of, Right, and of both Pures. Conditions: cells are what their kinds hold. (Printed by gen_tells10.py.)
-/
import Derived.Test.YteedceepoindeaaCelIk
namespace Go.Proofs.Yteedceepoindeaa
open Go.RowKit

set_option maxRecDepth 100000 in
set_option maxHeartbeats 1000000 in
theorem rchk_any (m : List Int) (w : World) (hm : MarkOk m) :
    Calls Try.prog 67 #[markV m] w fun e w' => e = .returned (.int .u64 (chk m)) ∧ Kp Nb w w' := by
  obtain ⟨sa, hsa⟩ : ∃ s, seedA 3 = s := ⟨_, rfl⟩
  obtain ⟨sb, hsb⟩ : ∃ s, seedB 3 = s := ⟨_, rfl⟩
  obtain ⟨q, hq⟩ : ∃ q, chk m = q := ⟨_, rfl⟩
  have CS : Hid (∀ w, Calls Try.prog 41 #[.int .i64 3] w fun e w' => e = .returned (.agg #[.int .u64 sa, .int .u64 sb]) ∧ Kp Nb w w') := hid (fun w => by rw [← hsa, ← hsb]; exact ref_seed 3 w)
  have CH : Hid (∀ w, Calls Try.prog 40 #[.agg #[.int .u64 sa, .int .u64 sb], .string (st m)] w fun e w' => e = .returned (.int .u64 q) ∧ Kp Nb w w') := hid (fun w => by rw [← hsa, ← hsb, ← hq]; exact ref_hash (seedA 3) (seedB 3) m w hm.bytes (by rw [hm.len]; decide))
  rw [hq]
  have HB := hid (Blk.new w 23 (markL m))
  have K0 := hid ((Kp.refl Nb w).alloc (.cells (markL m).toArray 23))
  have HY := hid (by_mark HB.out hm)
  clear hsa hsb hq
  go_enter Try.func67, Try.ntmps67
  go_wp2_with fail
  obtain ⟨W, hW⟩ : ∃ W, W = w.alloc (.cells (markL m).toArray 23) := ⟨_, rfl⟩
  rw [← hW] at HB K0 HY ⊢
  clear hW
  generalize w.heap.size = N at *
  refine region_vals2 [none, none, some 4, some 0, some 1, some 2, some 3] [[], [(1, none)], [(4, some 1)], [(3, some 0), (5, some 2)], [(6, some 3)]] [some 3, some 4, some 5, some 6, some 2] [.agg #[.int .u64 sa, .int .u64 sb], .slice (some ⟨N, 0, none⟩) 16 16, .string (st m), .int .u64 q, .int .u64 q] (fun w' => Hid (Kp Nb W w')) (by kernel_rfl) (by kernel_rfl) (by kernel_rfl) ?hS (VFrom.all (n := 5) (by kernel_rfl) ?hstep) ?hend
  case hstep =>
    refine VFrom.cons (VStep.call _ rfl _ rfl (.agg #[.int .u64 sa, .int .u64 sb]) rfl trivial 41 #[.int .i64 3] (fun ev wq hS he hr => ?_) (fun wq hS => ?_)) ?_
    · have hk := he.1; have hf := he.2; clear hr he
      go_simp
    · exact (CS.out wq).mono fun e w' ⟨h1, h2⟩ => ⟨h1, hS.out.trans h2 (fun _ _ h => h)⟩
    refine VFrom.cons (VStep.val _ rfl _ rfl (.slice (some ⟨N, 0, none⟩) 16 16) rfl trivial (fun ev wq hS he hr => ?_)) ?_
    · have r0 : ev (.tmp 1) = .pointer (some ⟨N, 0, none⟩) := hr (1, none) (by simp); have hk := he.1; clear hr he
      go_simp
    refine VFrom.cons (VStep.val _ rfl _ rfl (.string (st m)) rfl trivial (fun ev wq hS he hr => ?_)) ?_
    · have r0 : ev (.tmp 4) = .slice (some ⟨N, 0, none⟩) 16 16 := hr (4, some 1) (by simp); have hk := he.1; clear hr he
      have e1 := conv_any (HY.out.kept hS.out (fun _ h => h))
      go_simp
    refine VFrom.cons (VStep.call _ rfl _ rfl (.int .u64 q) rfl trivial 40 #[.agg #[.int .u64 sa, .int .u64 sb], .string (st m)] (fun ev wq hS he hr => ?_) (fun wq hS => ?_)) ?_
    · have r0 : ev (.tmp 3) = .agg #[.int .u64 sa, .int .u64 sb] := hr (3, some 0) (by simp); have r1 : ev (.tmp 5) = .string (st m) := hr (5, some 2) (by simp); have hk := he.1; have hf := he.2; clear hr he
      go_simp
    · exact (CH.out wq).mono fun e w' ⟨h1, h2⟩ => ⟨h1, hS.out.trans h2 (fun _ _ h => h)⟩
    refine VFrom.cons (VStep.val _ rfl _ rfl (.int .u64 q) rfl trivial (fun ev wq hS he hr => ?_)) ?_
    · have r0 : ev (.tmp 6) = .int .u64 q := hr (6, some 3) (by simp); have hk := he.1; clear hr he
      go_simp
    exact VFrom.nil
  case hS => exact hid ((Kp.refl Nb W).drew)
  case hend =>
    intro wy kh
    have K9 := hid (K0.out.trans kh.out (fun _ _ h => h))
    clear kh
    simp only [putAll, List.zip_cons_cons, List.zip_nil_right, List.foldl_cons, List.foldl_nil, Act.put, List.setIfInBounds_toArray, List.set_cons_zero, List.set_cons_succ]
    go_wp2
    go_ret
    exact ⟨rfl, K9.out⟩

set_option maxRecDepth 100000 in
set_option maxHeartbeats 2000000 in
theorem rof_any (m : List Int) (w : World) (hm : MarkOk m) :
    Calls Try.prog 48 #[markV m] w fun e w' => e = .returned (cv (ofC m)) ∧ Kp Nb w w' := by
  obtain ⟨zs, hz⟩ : ∃ zs, zs = cl c0 := ⟨_, rfl⟩
  have ZL : Hid (zs.length = 18) := hid (by rw [hz]; exact cl_length c0_ok)
  obtain ⟨N, hN⟩ : ∃ N, N = w.heap.size := ⟨_, rfl⟩
  obtain ⟨W, hW⟩ : ∃ W, W = (w.alloc (.cells (markL m).toArray 23)).alloc (.cells zs.toArray 41) := ⟨_, rfl⟩
  have H1 : Hid (Blk W N 23 (markL m)) := hid (by rw [hW, hN]; exact (Blk.new w _ _).alloc _)
  have H3 : Hid (Blk W (N + 1) 41 zs) := hid (by
    have h := Blk.new (w.alloc (.cells (markL m).toArray 23)) 41 zs
    simp only [World.size_alloc] at h
    rw [hW, hN]
    exact h)
  have KW : Hid (Kp Nb w W) := hid (by rw [hW]; exact ((Kp.refl Nb w).alloc _).alloc _)
  have LN : Hid (w.heap.size ≤ N) := hid (by rw [hN]; exact Nat.le_refl _)
  have HM := hid hm
  obtain ⟨q, hq⟩ : ∃ q, chk m = q := ⟨_, rfl⟩
  have OC : Hid (CelOk (1, m, q)) := hid (by rw [← hq]; exact ofC_ok hm)
  have CK : Hid (∀ w, Calls Try.prog 67 #[markV m] w fun e w' => e = .returned (.int .u64 q) ∧ Kp Nb w w') := hid (fun w => by rw [← hq]; exact rchk_any m w hm)
  rw [show ofC m = (1, m, q) from by rw [← hq]; rfl]
  rw [hz] at hW
  clear hz hq hm
  go_enter Try.func48, Try.ntmps48
  go_wp2_with fail
  rw [show (w.alloc (.cells (markL m).toArray 23)).alloc (.cells #[.int .i64 0, .int .u8 0, .int .u8 0, .int .u8 0, .int .u8 0, .int .u8 0, .int .u8 0, .int .u8 0, .int .u8 0, .int .u8 0, .int .u8 0, .int .u8 0, .int .u8 0, .int .u8 0, .int .u8 0, .int .u8 0, .int .u8 0, .int .u64 0] 41) = W from hW.symm, ← hN]
  clear hW hN
  refine region_vals_last (n := 4) [none, none, none, some 0, some 1, some 2, some 3] [[(1, none)], [(1, none)], [(4, some 1)], [(3, some 0), (5, some 2)], [(2, none), (6, some 3)]] [some 3, some 4, some 5, some 6] [markV m, markV m, .int .u64 q, cv (1, m, q)] (fun w' => Hid (Kp Nb W w')) (by kernel_rfl) (by kernel_rfl) (by kernel_rfl) (by kernel_rfl) ({ dst := none, op := Op.store 41 (Operand.tmp 2) (Operand.tmp 6), type := 0, pos := "ref.go:15", after := #[{ on := 3, ground := Ground.data }, { on := 2, ground := Ground.chain }, { on := 0, ground := Ground.phase }, { on := 1, ground := Ground.phase }, { on := 2, ground := Ground.phase }, { on := 3, ground := Ground.phase }], guard := none }) rfl rfl (by kernel_rfl) (by kernel_rfl) ?hS (?hstep : VFrom _ _ _ _ _ _ 0 4).start ?hend
  case hstep =>
    refine VFrom.cons (VStep.val _ rfl _ rfl (markV m) rfl trivial (fun ev wq hS he hr => ?_)) ?_
    · have r0 : ev (.tmp 1) = .pointer (some ⟨N, 0, none⟩) := hr (1, none) (by simp); have hk := he.1; clear hr he
      exact exec_load rfl r0 (load_mark HM.out (range_of (H1.out.kept hS.out (fun h => h))))
    refine VFrom.cons (VStep.val _ rfl _ rfl (markV m) rfl trivial (fun ev wq hS he hr => ?_)) ?_
    · have r0 : ev (.tmp 1) = .pointer (some ⟨N, 0, none⟩) := hr (1, none) (by simp); have hk := he.1; clear hr he
      exact exec_load rfl r0 (load_mark HM.out (range_of (H1.out.kept hS.out (fun h => h))))
    refine VFrom.cons (VStep.call _ rfl _ rfl (.int .u64 q) rfl trivial 67 #[markV m] (fun ev wq hS he hr => ?_) (fun wq hS => ?_)) ?_
    · have r0 : ev (.tmp 4) = markV m := hr (4, some 1) (by simp); have hk := he.1; have hf := he.2; clear hr he
      go_simp
    · exact (CK.out wq).mono fun e w' ⟨h1, h2⟩ => ⟨h1, hS.out.trans h2 (fun _ _ h => h)⟩
    refine VFrom.cons (VStep.val _ rfl _ rfl (cv (1, m, q)) rfl trivial (fun ev wq hS he hr => ?_)) ?_
    · have r0 : ev (.tmp 3) = markV m := hr (3, some 0) (by simp); have r1 : ev (.tmp 5) = .int .u64 q := hr (5, some 2) (by simp); have hk := he.1; clear hr he
      exact exec_build rfl (by simp [r0, r1, hk]) (build_cell 1 m q HM.out.len wq)
    exact VFrom.nil
  case hS => exact hid ((Kp.refl Nb W).drew)
  case hend =>
    intro af wy haf kh
    have HE := H3.out.kept kh.out (fun h => h)
    have HF : Hid (Blk (wy.setCells (N + 1) 0 (cl (1, m, q))) (N + 1) 41 (cl (1, m, q))) := hid (row_set HE (by rw [cl_length OC.out, ZL.out]))
    have K9 : Hid (Kp Nb w (wy.setCells (N + 1) 0 (cl (1, m, q)))) := hid (Kp.setCells (fun h => by have := LN.out; omega) _ 0 _ (KW.out.trans kh.out (fun _ _ h => h)))
    refine cv_end (x := (1, m, q)) (ad := .tmp 2) (v := .tmp 6) OC.out HE ZL.out rfl (by rw [haf.out]; kernel_rfl) (by rw [haf.out]; kernel_rfl) ?_
    rw [haf.out]
    clear haf kh HE
    simp only [putAll, List.zip_cons_cons, List.zip_nil_right, List.foldl_cons, List.foldl_nil, Act.put, List.setIfInBounds_toArray, List.set_cons_zero, List.set_cons_succ]
    go_wp2
    refine bodyPost_ret (v := cv (1, m, q)) (results_cell rfl _ (N + 1) (by rfl) _ (cell_loadVar (hid OC.out.mark.len) HF)) rfl ⟨rfl, K9.out⟩

set_option maxHeartbeats 400000 in
theorem rright_any (x : Cel) (w : World) :
    Calls Try.prog 34 #[cv x] w fun e w' => e = .returned (.bool (crightB x.1)) ∧ Kp Nb w w' := by
  obtain ⟨c, m, k⟩ := x
  have c0 := cell_c (Blk.new w 41 (cellL c m k))
  have KW := hid ((Kp.refl Nb w).alloc (.cells (cellL c m k).toArray 41))
  dsimp only
  rcases (show c < -1048576 ∨ (-1048576 ≤ c ∧ c ≤ 1048576) ∨ (-1048576 ≤ c ∧ 1048576 < c) by omega) with h | ⟨h1, h2⟩ | ⟨h1, h2⟩
  · have d1 : decide (-1048576 ≤ c) = false := decide_eq_false (by omega)
    have HE : Hid (crightB c = false) := hid (by unfold crightB; rw [decide_eq_false_iff_not]; omega)
    clear h
    go_enter Try.func34, Try.ntmps34
    go_wp2
    go_ret
    exact ⟨by rw [HE.out]; rfl, KW.out⟩
  · have d1 : decide (-1048576 ≤ c) = true := decide_eq_true h1
    have d2 : decide (c ≤ 1048576) = true := decide_eq_true h2
    have HE : Hid (crightB c = true) := hid (by unfold crightB; rw [decide_eq_true_iff]; omega)
    clear h1 h2
    go_enter Try.func34, Try.ntmps34
    go_wp2
    go_ret
    exact ⟨by rw [HE.out]; rfl, KW.out⟩
  · have d1 : decide (-1048576 ≤ c) = true := decide_eq_true h1
    have d2 : decide (c ≤ 1048576) = false := decide_eq_false (by omega)
    have HE : Hid (crightB c = false) := hid (by unfold crightB; rw [decide_eq_false_iff_not]; omega)
    clear h1 h2
    go_enter Try.func34, Try.ntmps34
    go_wp2
    go_ret
    exact ⟨by rw [HE.out]; rfl, KW.out⟩

/-- What Pure answers. -/
def pureC (x : Cel) : Int := if (x.1 = 1 ∨ x.1 = -1) ∧ x.2.2 = chk x.2.1 then x.1 else 0



end Go.Proofs.Yteedceepoindeaa
