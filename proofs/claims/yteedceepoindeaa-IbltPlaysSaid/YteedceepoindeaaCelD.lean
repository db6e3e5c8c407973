/-
  Layer 10: walks of Of, Pure, Right. Conditions: a mark has sixteen bytes. (Printed by gen_cel2.py.)
-/
import Derived.Test.YteedceepoindeaaCelC
import Derived.IntWalk
namespace Go.Proofs.Yteedceepoindeaa
open Go.RowKit

set_option maxRecDepth 100000 in
set_option maxHeartbeats 2000000 in
theorem cof_any (m : List Int) (w : World) (hm : MarkOk m) :
    Calls Try.prog 43 #[markV m] w fun e w' => e = .returned (cellV 1 m (chk m)) ∧ Kp Nb w w' := by
  obtain ⟨zs, hz⟩ : ∃ zs, zs = cellL 0 (List.replicate 16 0) 0 := ⟨_, rfl⟩
  have ZL : Hid (zs.length = 18) := hid (by rw [hz]; exact cellL_length 0 _ 0 (by simp))
  obtain ⟨W, hW⟩ : ∃ W, W = (w.alloc (.cells (markL m).toArray 23)).alloc (.cells zs.toArray 41) := ⟨_, rfl⟩
  have H1 : Hid (Blk W w.heap.size 23 (markL m)) := hid (by rw [hW]; exact (Blk.new w _ _).alloc _)
  have H3 : Hid (Blk W (w.heap.size + 1) 41 zs) := hid (by
    have h := Blk.new (w.alloc (.cells (markL m).toArray 23)) 41 zs
    simp only [World.size_alloc] at h
    rw [hW]
    exact h)
  have KW : Hid (Kp Nb w W) := hid (by rw [hW]; exact ((Kp.refl Nb w).alloc _).alloc _)
  have N1 := hid hm.len
  obtain ⟨q, hq⟩ : ∃ q, chk m = q := ⟨_, rfl⟩
  have CK : Hid (∀ w, Calls Try.prog 63 #[markV m] w fun e w' => e = .returned (.int .u64 q) ∧ Kp Nb w w') := hid (fun w => by rw [← hq]; exact chk_any m w hm)
  rw [hq]
  rw [hz] at hW
  clear hz hq hm
  go_enter Try.func43, Try.ntmps43
  go_wp2_with fail
  rw [show (w.alloc (.cells (markL m).toArray 23)).alloc (.cells #[.int .i64 0, .int .u8 0, .int .u8 0, .int .u8 0, .int .u8 0, .int .u8 0, .int .u8 0, .int .u8 0, .int .u8 0, .int .u8 0, .int .u8 0, .int .u8 0, .int .u8 0, .int .u8 0, .int .u8 0, .int .u8 0, .int .u8 0, .int .u64 0] 41) = W from hW.symm]
  clear hW
  refine region_vals_last (n := 4) [none, none, none, some 0, some 1, some 2, some 3] [[(1, none)], [(1, none)], [(4, some 1)], [(3, some 0), (5, some 2)], [(2, none), (6, some 3)]] [some 3, some 4, some 5, some 6] [markV m, markV m, .int .u64 q, cellV 1 m q] (fun w' => Hid (Kp Nb W w')) (by kernel_rfl) (by kernel_rfl) (by kernel_rfl) (by kernel_rfl) ({ dst := none, op := Op.store 41 (Operand.tmp 2) (Operand.tmp 6), type := 0, pos := "cell.go:17", after := #[{ on := 3, ground := Ground.data }, { on := 2, ground := Ground.chain }, { on := 0, ground := Ground.phase }, { on := 1, ground := Ground.phase }, { on := 2, ground := Ground.phase }, { on := 3, ground := Ground.phase }], guard := none }) rfl rfl (by kernel_rfl) (by kernel_rfl) ?hS (?hstep : VFrom _ _ _ _ _ _ 0 4).start ?hend
  case hstep =>
    refine VFrom.cons (VStep.val _ rfl _ rfl (markV m) rfl trivial (fun ev wq hS he hr => ?_)) ?_
    · have r0 : ev (.tmp 1) = .pointer (some ⟨w.heap.size, 0, none⟩) := hr (1, none) (by simp); have hk := he.1; clear hr he
      exact exec_load rfl r0 (mark_whole N1 (H1.out.kept hS.out (fun h => h)))
    refine VFrom.cons (VStep.val _ rfl _ rfl (markV m) rfl trivial (fun ev wq hS he hr => ?_)) ?_
    · have r0 : ev (.tmp 1) = .pointer (some ⟨w.heap.size, 0, none⟩) := hr (1, none) (by simp); have hk := he.1; clear hr he
      exact exec_load rfl r0 (mark_whole N1 (H1.out.kept hS.out (fun h => h)))
    refine VFrom.cons (VStep.call _ rfl _ rfl (.int .u64 q) rfl trivial 63 #[markV m] (fun ev wq hS he hr => ?_) (fun wq hS => ?_)) ?_
    · have r0 : ev (.tmp 4) = markV m := hr (4, some 1) (by simp); have hk := he.1; have hf := he.2; clear hr he
      go_simp
    · exact (CK.out wq).mono fun e w' ⟨h1, h2⟩ => ⟨h1, hS.out.trans h2 (fun _ _ h => h)⟩
    refine VFrom.cons (VStep.val _ rfl _ rfl (cellV 1 m q) rfl trivial (fun ev wq hS he hr => ?_)) ?_
    · have r0 : ev (.tmp 3) = markV m := hr (3, some 0) (by simp); have r1 : ev (.tmp 5) = .int .u64 q := hr (5, some 2) (by simp); have hk := he.1; clear hr he
      exact exec_build rfl (by simp [r0, r1, hk]) (build_cell 1 m q N1.out wq)
    exact VFrom.nil
  case hS => exact hid ((Kp.refl Nb W).drew)
  case hend =>
    intro af wy haf kh
    have HZ := hid (H3.out.kept kh.out (fun h => h))
    have HF := cell_kept (c := 1) (m := m) (k := q) N1 HZ ZL (hid (KW.out.trans kh.out (fun _ _ h => h))) (hid (by omega))
    have HF1 := HF.1
    have HF2 := HF.2
    refine cell_end (c := 1) (m := m) (k := q) (ad := .tmp 2) (v := .tmp 6) N1 HZ ZL rfl (by rw [haf.out]; kernel_rfl) (by rw [haf.out]; kernel_rfl) ?_
    rw [haf.out]
    clear HF haf
    simp only [putAll, List.zip_cons_cons, List.zip_nil_right, List.foldl_cons, List.foldl_nil, Act.put, List.setIfInBounds_toArray, List.set_cons_zero, List.set_cons_succ]
    go_wp2
    refine bodyPost_ret (v := cellV 1 m q) (results_cell rfl _ (w.heap.size + 1) (by rfl) _ (cell_loadVar N1 HF1)) rfl ⟨rfl, HF2.out⟩




end Go.Proofs.Yteedceepoindeaa
