/-
  Layer 22: the walks of sum, Row, With, Sent. Conditions: rows of 64 bits.
-/
import Derived.Test.YtjipcmhknikcgaaDoorLgA
import Derived.Deep.CutBlock
import Derived.Deep.DeepCutAuto
namespace Go.Proofs.YtjipcmhknikcgaaDoor
open Go.RowKit

theorem rw_info : (Tryd.prog.info? 29).map (·.size) = some 2 := by kernel_rfl
theorem rw_infoL (q : RwQ) : (Tryd.prog.info? 29).map (·.size) = some (rL q).length := rw_info
theorem rw_under : ∃ d, Tryd.prog.underlying 29 = some d ∧ d.isRow = true := ⟨_, Tryd.underlying29, rfl⟩
theorem rL_one (q : RwQ) : ∀ v ∈ rL q, v.oneCell' = true := fun v hv => by
  simp only [rL, List.mem_cons, List.not_mem_nil, or_false] at hv
  rcases hv with rfl | rfl <;> rfl
theorem build_row (a b : Int) (w : World) : (Instr.build 29 #[(0, .int .u64 a), (1, .int .u64 b)]).run Tryd.prog w = .ok (rV (a, b)) w := by go_simp; rfl
theorem build_row0 (w : World) : (Instr.build 29 #[]).run Tryd.prog w = .ok (rV (0, 0)) w := by kernel_rfl
theorem rw_store {w : World} {B o : Nat} (q : RwQ) (ht : w.there B o 2) : (Instr.storeAt 29 (.pointer (some ⟨B, o, none⟩)) (rV q)).run Tryd.prog w = .ok () (w.setCells B o (rL q)) :=
  run_storeAt_mid w B o 29 (rL q).toArray ht (by rw [List.size_toArray]; exact rw_infoL q) (all_oneCell_toArray (rL_one q))
theorem rw_load {w : World} {B o : Nat} (q : RwQ) (h : w.rangeAt B o (rL q)) : (Instr.loadAt 29 (.pointer (some ⟨B, o, none⟩))).run Tryd.prog w = .ok (rV q) w := by
  obtain ⟨d, h1, h2⟩ := rw_under
  exact run_loadAt_mid w B o 29 (rL q) d h h1 h2 (rw_infoL q)
theorem rw_loadVar {w : World} {B t : Nat} (q : RwQ) (h : Blk w B t (rL q)) : (loadVar 29 ⟨B, 0, none⟩).run Tryd.prog w = .ok (rV q) w := by
  obtain ⟨d, h1, h2⟩ := rw_under
  exact row_loadVar h1 h2 (rw_infoL q) h 0 (fun j _ => by rw [Nat.zero_add])
set_option maxRecDepth 100000 in
set_option maxHeartbeats 4000000 in
theorem lsum_any (a b : RwQ) (w : World) (ha : RwOk a) (hb : RwOk b) : Calls Tryd.prog 23 #[rV a, rV b] w fun e w' => e = .returned (rV (sumR a b)) ∧ Kp Nb w w' := by
  obtain ⟨r1, hr1⟩ : ∃ r, plusS a.1 b.1 = r := ⟨_, rfl⟩
  obtain ⟨r2, hr2⟩ : ∃ r, plusS a.2 b.2 = r := ⟨_, rfl⟩
  have C1 : Hid (∀ w, Calls Tryd.prog 29 #[.int .u64 a.1, .int .u64 b.1] w fun e w' => e = .returned (.int .u64 r1) ∧ w = w') := hid (fun w => by rw [← hr1]; exact plus_any _ _ w ha.1 hb.1)
  have C2 : Hid (∀ w, Calls Tryd.prog 29 #[.int .u64 a.2, .int .u64 b.2] w fun e w' => e = .returned (.int .u64 r2) ∧ w = w') := hid (fun w => by rw [← hr2]; exact plus_any _ _ w ha.2 hb.2)
  have HR : Hid (sumR a b = (r1, r2)) := hid (by unfold sumR; rw [hr1, hr2])
  rw [HR.out]
  obtain ⟨A, hA⟩ : ∃ N, w.heap.size = N := ⟨_, rfl⟩
  obtain ⟨W1, hW1⟩ : ∃ W, W = w.alloc (.cells (rL a).toArray 29) := ⟨_, rfl⟩
  obtain ⟨W2, hW2⟩ : ∃ W, W = W1.alloc (.cells (rL b).toArray 29) := ⟨_, rfl⟩
  obtain ⟨w1, hW3⟩ : ∃ W, W = W2.alloc (.cells (rL (0, 0)).toArray 29) := ⟨_, rfl⟩
  have s1 : W1.heap.size = A + 1 := by rw [hW1]; simp [hA]
  have s2 : W2.heap.size = A + 2 := by rw [hW2]; simp [s1]
  have k1 : Kp Nb W1 W2 := by rw [hW2]; exact (Kp.refl Nb W1).alloc _
  have k2 : Kp Nb W2 w1 := by rw [hW3]; exact (Kp.refl Nb W2).alloc _
  have b1 : Blk W1 A 29 (rL a) := by rw [hW1, ← hA]; exact Blk.new w _ _
  have b2 : Blk W2 (A + 1) 29 (rL b) := by rw [hW2, ← s1]; exact Blk.new W1 _ _
  have b3 : Blk w1 (A + 2) 29 (rL (0, 0)) := by rw [hW3, ← s2]; exact Blk.new W2 _ _
  have HA := hid ((b1.kept k1 (fun h => h)).kept k2 (fun h => h))
  have HB := hid (b2.kept k2 (fun h => h))
  have HC := hid b3
  have KW : Hid (Kp Nb w w1) := hid (((show Kp Nb w W1 by rw [hW1]; exact (Kp.refl Nb w).alloc _).trans k1 (fun _ _ h => h)).trans k2 (fun _ _ h => h))
  have LA := hid hA
  have e3 : w1 = ((w.alloc (.cells (rL a).toArray 29)).alloc (.cells (rL b).toArray 29)).alloc (.cells (rL (0, 0)).toArray 29) := by rw [hW3, hW2, hW1]
  obtain ⟨B, hB⟩ : ∃ B, A + 1 = B := ⟨_, rfl⟩
  obtain ⟨C, hC⟩ : ∃ C, B + 1 = C := ⟨_, rfl⟩
  have LC : Hid (w.heap.size ≤ C) := hid (by omega)
  rw [hB] at HB
  rw [show A + 2 = C by omega] at HC
  clear hr1 hr2 ha hb s1 s2 k1 k2 b1 b2 b3 hW1 hW2 hW3
  go_enter Tryd.func23, Tryd.ntmps23
  go_upto_region 1 with fail
  rw [show ((w.alloc (.cells (rL a).toArray 29)).alloc (.cells (rL b).toArray 29)).alloc (.cells #[.int .u64 0, .int .u64 0] 29) = w1 from e3.symm]
  clear e3
  refine region_vals_last (n := 11) [none, none, none, none, none, some 0, some 1, some 2, some 3, some 4, some 5, some 6, some 7, some 8, some 9, some 10] [[(2, none)], [(5, some 0)], [(3, none)], [(7, some 2)], [(6, some 1), (8, some 3)], [(2, none)], [(10, some 5)], [(3, none)], [(12, some 7)], [(11, some 6), (13, some 8)], [(9, some 4), (14, some 9)], [(4, none), (15, some 10)]] [some 5, some 6, some 7, some 8, some 9, some 10, some 11, some 12, some 13, some 14, some 15] [.pointer (some ⟨A, 0, none⟩), .int .u64 a.1, .pointer (some ⟨B, 0, none⟩), .int .u64 b.1, .int .u64 r1, .pointer (some ⟨A, 1, none⟩), .int .u64 a.2, .pointer (some ⟨B, 1, none⟩), .int .u64 b.2, .int .u64 r2, rV (r1, r2)] (fun w' => Hid (Kp Nb w1 w')) (by kernel_rfl) (by kernel_rfl) (by kernel_rfl) (by kernel_rfl) ({ dst := none, op := Op.store 29 (Operand.tmp 4) (Operand.tmp 15), type := 0, pos := "ledger.go:32", after := #[{ on := 10, ground := Ground.data }, { on := 9, ground := Ground.chain }, { on := 0, ground := Ground.phase }, { on := 1, ground := Ground.phase }, { on := 2, ground := Ground.phase }, { on := 3, ground := Ground.phase }, { on := 4, ground := Ground.phase }, { on := 5, ground := Ground.phase }, { on := 6, ground := Ground.phase }, { on := 7, ground := Ground.phase }, { on := 8, ground := Ground.phase }, { on := 9, ground := Ground.phase }, { on := 10, ground := Ground.phase }], guard := none }) rfl rfl (by kernel_rfl) (by kernel_rfl) ?hS (?hstep : VFrom _ _ _ _ _ _ 0 11).start ?hend
  case hstep =>
    refine VFrom.cons (VStep.val _ rfl _ rfl (.pointer (some ⟨A, 0, none⟩)) rfl trivial (fun ev wq hS he hr => ?_)) ?_
    · have r0 : ev (.tmp 2) = .pointer (some ⟨A, 0, none⟩) := hr (2, none) (by simp); have hk := he.1; clear hr he
      go_simp
    refine VFrom.cons (VStep.val _ rfl _ rfl (.int .u64 a.1) rfl trivial (fun ev wq hS he hr => ?_)) ?_
    · have r0 : ev (.tmp 5) = .pointer (some ⟨A, 0, none⟩) := hr (5, some 0) (by simp); have hk := he.1; clear hr he
      have c0 := show wq.cell? ⟨A, 0, none⟩ = some (.int .u64 a.1) from (HA.out.kept hS.out (fun h => h)).cell 0
      go_simp
    refine VFrom.cons (VStep.val _ rfl _ rfl (.pointer (some ⟨B, 0, none⟩)) rfl trivial (fun ev wq hS he hr => ?_)) ?_
    · have r0 : ev (.tmp 3) = .pointer (some ⟨B, 0, none⟩) := hr (3, none) (by simp); have hk := he.1; clear hr he
      go_simp
    refine VFrom.cons (VStep.val _ rfl _ rfl (.int .u64 b.1) rfl trivial (fun ev wq hS he hr => ?_)) ?_
    · have r0 : ev (.tmp 7) = .pointer (some ⟨B, 0, none⟩) := hr (7, some 2) (by simp); have hk := he.1; clear hr he
      have c0 := show wq.cell? ⟨B, 0, none⟩ = some (.int .u64 b.1) from (HB.out.kept hS.out (fun h => h)).cell 0
      go_simp
    refine VFrom.cons (VStep.call _ rfl _ rfl (.int .u64 r1) rfl trivial 29 #[.int .u64 a.1, .int .u64 b.1] (fun ev wq hS he hr => ?_) (fun wq hS => ?_)) ?_
    · have r0 : ev (.tmp 6) = .int .u64 a.1 := hr (6, some 1) (by simp); have r1 : ev (.tmp 8) = .int .u64 b.1 := hr (8, some 3) (by simp); have hk := he.1; have hf := he.2; clear hr he
      go_simp
    · exact (C1.out wq).mono fun e w' ⟨h1, h2⟩ => ⟨h1, by rw [← h2]; exact hS⟩
    refine VFrom.cons (VStep.val _ rfl _ rfl (.pointer (some ⟨A, 1, none⟩)) rfl trivial (fun ev wq hS he hr => ?_)) ?_
    · have r0 : ev (.tmp 2) = .pointer (some ⟨A, 0, none⟩) := hr (2, none) (by simp); have hk := he.1; clear hr he
      go_simp
    refine VFrom.cons (VStep.val _ rfl _ rfl (.int .u64 a.2) rfl trivial (fun ev wq hS he hr => ?_)) ?_
    · have r0 : ev (.tmp 10) = .pointer (some ⟨A, 1, none⟩) := hr (10, some 5) (by simp); have hk := he.1; clear hr he
      have c0 := show wq.cell? ⟨A, 1, none⟩ = some (.int .u64 a.2) from (HA.out.kept hS.out (fun h => h)).cell 1
      go_simp
    refine VFrom.cons (VStep.val _ rfl _ rfl (.pointer (some ⟨B, 1, none⟩)) rfl trivial (fun ev wq hS he hr => ?_)) ?_
    · have r0 : ev (.tmp 3) = .pointer (some ⟨B, 0, none⟩) := hr (3, none) (by simp); have hk := he.1; clear hr he
      go_simp
    refine VFrom.cons (VStep.val _ rfl _ rfl (.int .u64 b.2) rfl trivial (fun ev wq hS he hr => ?_)) ?_
    · have r0 : ev (.tmp 12) = .pointer (some ⟨B, 1, none⟩) := hr (12, some 7) (by simp); have hk := he.1; clear hr he
      have c0 := show wq.cell? ⟨B, 1, none⟩ = some (.int .u64 b.2) from (HB.out.kept hS.out (fun h => h)).cell 1
      go_simp
    refine VFrom.cons (VStep.call _ rfl _ rfl (.int .u64 r2) rfl trivial 29 #[.int .u64 a.2, .int .u64 b.2] (fun ev wq hS he hr => ?_) (fun wq hS => ?_)) ?_
    · have r0 : ev (.tmp 11) = .int .u64 a.2 := hr (11, some 6) (by simp); have r1 : ev (.tmp 13) = .int .u64 b.2 := hr (13, some 8) (by simp); have hk := he.1; have hf := he.2; clear hr he
      go_simp
    · exact (C2.out wq).mono fun e w' ⟨h1, h2⟩ => ⟨h1, by rw [← h2]; exact hS⟩
    refine VFrom.cons (VStep.val _ rfl _ rfl (rV (r1, r2)) rfl trivial (fun ev wq hS he hr => ?_)) ?_
    · have r0 : ev (.tmp 9) = .int .u64 r1 := hr (9, some 4) (by simp); have r1' : ev (.tmp 14) = .int .u64 r2 := hr (14, some 9) (by simp); have hk := he.1; clear hr he
      have q0 := r0; have q1 := r1'; exact exec_build (qs := #[(0, .int .u64 r1), (1, .int .u64 r2)]) rfl (by simp [q0, q1]) (build_row _ _ wq)
    exact VFrom.nil
  case hS => exact hid (Kp.refl Nb w1).drew
  case hend =>
    intro af wy haf kh
    have HC2 := HC.out.kept kh.out (fun h => h)
    have H4 : Hid (Blk (wy.setCells C 0 (rL (r1, r2))) C 29 (rL (r1, r2))) := hid (row_set HC2 rfl)
    have K4 : Hid (Kp Nb w (wy.setCells C 0 (rL (r1, r2)))) := hid (Kp.setCells (fun h => by have := LC.out; omega) _ 0 _ (KW.out.trans kh.out (fun _ _ h => h)))
    refine wp_store_at 29 (.tmp 4) (.tmp 15) rfl (p := ⟨C, 0, none⟩) (v := rV (r1, r2)) (by rw [haf.out]; kernel_rfl) (by rw [haf.out]; kernel_rfl) (rw_store _ (HC2.there 0 2 (Nat.le_refl _))) ?_
    rw [haf.out]
    clear haf kh HC2
    simp only [putAll, List.zip_cons_cons, List.zip_nil_right, List.foldl_cons, List.foldl_nil, Act.put, List.setIfInBounds_toArray, List.set_cons_zero, List.set_cons_succ]
    go_wp2
    exact bodyPost_ret (results_cell rfl _ C (by rfl) _ (rw_loadVar _ H4.out)) rfl ⟨rfl, K4.out⟩

end Go.Proofs.YtjipcmhknikcgaaDoor
