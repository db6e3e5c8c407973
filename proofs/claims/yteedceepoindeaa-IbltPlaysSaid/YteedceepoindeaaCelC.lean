/-
  Layer 10: cells as lists; walks of Of, Add and Sub. Conditions: a mark has sixteen bytes.
-/
import Derived.Test.YteedceepoindeaaCelB
import Derived.Test.YteedceepoindeaaVals
namespace Go.Proofs.Yteedceepoindeaa
open Go.RowKit

def cellL (c : Int) (m : List Int) (k : Int) : List Value := .int .i64 c :: (markL m ++ [.int .u64 k])
abbrev cellV (c : Int) (m : List Int) (k : Int) : Value := .agg (cellL c m k).toArray
theorem cellL_length (c : Int) (m : List Int) (k : Int) (h : m.length = 16) : (cellL c m k).length = 18 := by unfold cellL; simp [markL_length, h]
theorem cellL_one (c : Int) (m : List Int) (k : Int) : ∀ v ∈ cellL c m k, v.oneCell' = true := fun v hv => by
  unfold cellL at hv
  rcases List.mem_cons.1 hv with rfl | hv
  · rfl
  · rcases List.mem_append.1 hv with hv | hv
    · exact markL_one m v hv
    · obtain rfl : v = .int .u64 k := by simpa using hv
      rfl
theorem cell_info : (Try.prog.info? 41).map (·.size) = some 18 := by kernel_rfl
theorem cell_infoL (c : Int) (m : List Int) (k : Int) (h : m.length = 16) : (Try.prog.info? 41).map (·.size) = some (cellL c m k).length := by rw [cellL_length c m k h]; exact cell_info
theorem sixteen (m : List Int) (h : m.length = 16) : ∃ m0 m1 m2 m3 m4 m5 m6 m7 m8 m9 m10 m11 m12 m13 m14 m15, m = [m0, m1, m2, m3, m4, m5, m6, m7, m8, m9, m10, m11, m12, m13, m14, m15] := by
  match m, h with
  | [m0, m1, m2, m3, m4, m5, m6, m7, m8, m9, m10, m11, m12, m13, m14, m15], _ => exact ⟨m0, m1, m2, m3, m4, m5, m6, m7, m8, m9, m10, m11, m12, m13, m14, m15, rfl⟩
theorem build_cell (c : Int) (m : List Int) (k : Int) (h : m.length = 16) (w : World) : (Instr.build 41 #[(0, .int .i64 c), (1, markV m), (2, .int .u64 k)]).run Try.prog w = .ok (cellV c m k) w := by
  obtain ⟨m0, m1, m2, m3, m4, m5, m6, m7, m8, m9, m10, m11, m12, m13, m14, m15, rfl⟩ := sixteen m h
  exact run_build w 41 _ _ (by kernel_rfl)
theorem cell_c {w : World} {B t : Nat} {c : Int} {m : List Int} {k : Int} (h : Blk w B t (cellL c m k)) : w.cell? ⟨B, 0, none⟩ = some (.int .i64 c) := h.cell 0
theorem cell_k {w : World} {B t : Nat} {c : Int} {m : List Int} {k : Int} (hm : m.length = 16) (h : Blk w B t (cellL c m k)) : w.cell? ⟨B, 17, none⟩ = some (.int .u64 k) := by
  rw [h.cell 17]
  unfold cellL
  rw [List.getElem?_cons_succ, List.getElem?_append_right (by rw [markL_length, hm]; exact Nat.le_refl _), markL_length, hm]
  rfl
theorem cell_m {w : World} {B t : Nat} {c : Int} {m : List Int} {k : Int} (h : Blk w B t (cellL c m k)) : w.rangeAt B 1 (markL m) := h.range 1 (markL m) (fun j hj => by
  rw [Nat.add_comm]
  unfold cellL
  rw [List.getElem?_cons_succ, List.getElem?_append_left hj])
-- GENERATED from here on by gen_cel.py
theorem cell_under : ∃ d, Try.prog.underlying 41 = some d ∧ d.isRow = true := ⟨_, Try.underlying41, rfl⟩
/-- A cell stored into a block of its own, at the end of a function: what it answers. -/
theorem cell_end {R : Nat} {w' : World} {c : Int} {m : List Int} {k : Int} {zs : List Value} {o : Oper} {ad v : Operand} {a : Act} (hm : Hid (m.length = 16)) (hz : Hid (Blk w' R 41 zs)) (hl : Hid (zs.length = 18))
    (ho : o.op = .store 41 ad v) (ha : a.eval ad = .pointer (some ⟨R, 0, none⟩)) (hv : a.eval v = .agg (cellL c m k).toArray) {Q : Exit → Act → World → Prop}
    (h : Q .normal (a.put o.dst undef) (w'.setCells R 0 (cellL c m k))) : Oper.wp Try.prog o a w' (fun a w => Q .normal a w) Q := by
  refine wp_store_mid 41 ad v ho R 0 (cellL c m k).toArray ha hv (by simpa [cellL_length c m k hm.out] using hz.out.there 0 18 (by have := hl.out; omega)) (by simpa [cellL_length c m k hm.out] using cell_info) (all_oneCell_toArray (cellL_one c m k)) h
theorem cell_kept {w w' : World} {R : Nat} {c : Int} {m : List Int} {k : Int} {zs : List Value} (hm : Hid (m.length = 16)) (hz : Hid (Blk w' R 41 zs)) (hl : Hid (zs.length = 18)) (hw : Hid (Kp Nb w w')) (hR : Hid (w.heap.size ≤ R)) :
    Hid (Blk (w'.setCells R 0 (cellL c m k)) R 41 (cellL c m k)) ∧ Hid (Kp Nb w (w'.setCells R 0 (cellL c m k))) :=
  ⟨row_set hz.out (by rw [cellL_length c m k hm.out, hl.out]), Kp.setCells (fun h => absurd h (Nat.not_lt.2 hR.out)) _ 0 w' hw.out⟩
theorem cell_loadVar {w : World} {R : Nat} {c : Int} {m : List Int} {k : Int} (hm : Hid (m.length = 16)) (h : Hid (Blk w R 41 (cellL c m k))) : (loadVar 41 ⟨R, 0, none⟩).run Try.prog w = .ok (cellV c m k) w := by
  obtain ⟨d, h1, h2⟩ := cell_under
  exact row_loadVar h1 h2 (cell_infoL c m k hm.out) h.out 0 (fun j _ => by rw [Nat.zero_add])
theorem mark_part {w : World} {B : Nat} {c : Int} {m : List Int} {k : Int} (hm : Hid (m.length = 16)) (h : Blk w B 41 (cellL c m k)) : (Instr.loadAt 23 (.pointer (some ⟨B, 1, none⟩))).run Try.prog w = .ok (markV m) w :=
  run_loadAt_mid w B 1 23 (markL m) _ (cell_m h) under_mark rfl (mark_infoL m hm.out)
theorem mark_whole {w : World} {B t : Nat} {m : List Int} (hm : Hid (m.length = 16)) (h : Blk w B t (markL m)) : (Instr.loadAt 23 (.pointer (some ⟨B, 0, none⟩))).run Try.prog w = .ok (markV m) w :=
  run_loadAt_mid w B 0 23 (markL m) _ (range_of h) under_mark rfl (mark_infoL m hm.out)

set_option maxRecDepth 100000 in
set_option maxHeartbeats 4000000 in
theorem cadd_any (c1 c2 : Int) (m1 m2 : List Int) (k1 k2 : Int) (w : World) (n1 : m1.length = 16) (n2 : m2.length = 16) :
    Calls Try.prog 44 #[cellV c1 m1 k1, cellV c2 m2 k2] w fun e w' => e = .returned (cellV (IntKind.i64.wrap (c1 + c2)) (layL m1 m2) (bits .xor .u64 k1 k2)) ∧ Kp Nb w w' := by
  obtain ⟨zs, hz⟩ : ∃ zs, zs = cellL 0 (List.replicate 16 0) 0 := ⟨_, rfl⟩
  have ZL : Hid (zs.length = 18) := hid (by rw [hz]; exact cellL_length 0 _ 0 (by simp))
  obtain ⟨W, hW⟩ : ∃ W, W = ((w.alloc (.cells (cellL c1 m1 k1).toArray 41)).alloc (.cells (cellL c2 m2 k2).toArray 41)).alloc (.cells zs.toArray 41) := ⟨_, rfl⟩
  have H1 : Hid (Blk W w.heap.size 41 (cellL c1 m1 k1)) := hid (by rw [hW]; exact ((Blk.new w _ _).alloc _).alloc _)
  have H2 : Hid (Blk W (w.heap.size + 1) 41 (cellL c2 m2 k2)) := hid (by
    have h := (Blk.new (w.alloc (.cells (cellL c1 m1 k1).toArray 41)) 41 (cellL c2 m2 k2)).alloc (.cells zs.toArray 41)
    simp only [World.size_alloc] at h
    rw [hW]
    exact h)
  have H3 : Hid (Blk W (w.heap.size + 1 + 1) 41 zs) := hid (by
    have h := Blk.new ((w.alloc (.cells (cellL c1 m1 k1).toArray 41)).alloc (.cells (cellL c2 m2 k2).toArray 41)) 41 zs
    simp only [World.size_alloc] at h
    rw [hW]
    exact h)
  have KW : Hid (Kp Nb w W) := hid (by rw [hW]; exact (((Kp.refl Nb w).alloc _).alloc _).alloc _)
  have N1 := hid n1
  have N2 := hid n2
  have N3 : Hid ((layL m1 m2).length = 16) := hid (layK_length m1 m2 16)
  obtain ⟨m3, h3⟩ : ∃ m, layL m1 m2 = m := ⟨_, rfl⟩
  have CL : Hid (∀ w, Calls Try.prog 64 #[markV m1, markV m2] w fun e w' => e = .returned (markV m3) ∧ Kp Nb w w') := hid (fun w => by rw [← h3]; exact lay_any m1 m2 w n1 n2)
  rw [h3] at N3 ⊢
  obtain ⟨s, hs⟩ : ∃ s, IntKind.i64.wrap (c1 + c2) = s := ⟨_, rfl⟩
  obtain ⟨x, hx⟩ : ∃ x, bits .xor .u64 k1 k2 = x := ⟨_, rfl⟩
  rw [hs, hx]
  have HS := hid hs
  have HX := hid hx
  rw [hz] at hW
  clear n1 n2 h3 hs hx hz
  go_enter Try.func44, Try.ntmps44
  go_wp2_with fail
  rw [show ((w.alloc (.cells (cellL c1 m1 k1).toArray 41)).alloc (.cells (cellL c2 m2 k2).toArray 41)).alloc (.cells #[.int .i64 0, .int .u8 0, .int .u8 0, .int .u8 0, .int .u8 0, .int .u8 0, .int .u8 0, .int .u8 0, .int .u8 0, .int .u8 0, .int .u8 0, .int .u8 0, .int .u8 0, .int .u8 0, .int .u8 0, .int .u8 0, .int .u8 0, .int .u64 0] 41) = W from hW.symm]
  clear hW
  refine region_vals_last (n := 16) [none, none, none, none, none, some 0, some 1, some 2, some 3, some 4, some 5, some 6, some 7, some 8, some 9, some 10, some 11, some 12, some 13, some 14, some 15] [[(2, none)], [(5, some 0)], [(3, none)], [(7, some 2)], [(6, some 1), (8, some 3)], [(2, none)], [(10, some 5)], [(3, none)], [(12, some 7)], [(11, some 6), (13, some 8)], [(2, none)], [(15, some 10)], [(3, none)], [(17, some 12)], [(16, some 11), (18, some 13)], [(9, some 4), (14, some 9), (19, some 14)], [(4, none), (20, some 15)]] [some 5, some 6, some 7, some 8, some 9, some 10, some 11, some 12, some 13, some 14, some 15, some 16, some 17, some 18, some 19, some 20] [.pointer (some ⟨w.heap.size, 0, none⟩), .int .i64 c1, .pointer (some ⟨w.heap.size + 1, 0, none⟩), .int .i64 c2, .int .i64 s, .pointer (some ⟨w.heap.size, 1, none⟩), markV m1, .pointer (some ⟨w.heap.size + 1, 1, none⟩), markV m2, markV m3, .pointer (some ⟨w.heap.size, 17, none⟩), .int .u64 k1, .pointer (some ⟨w.heap.size + 1, 17, none⟩), .int .u64 k2, .int .u64 x, cellV s m3 x] (fun w' => Hid (Kp Nb W w')) (by kernel_rfl) (by kernel_rfl) (by kernel_rfl) (by kernel_rfl) ({ dst := none, op := Op.store 41 (Operand.tmp 4) (Operand.tmp 20), type := 0, pos := "cell.go:29", after := #[{ on := 15, ground := Ground.data }, { on := 9, ground := Ground.chain }, { on := 0, ground := Ground.phase }, { on := 1, ground := Ground.phase }, { on := 2, ground := Ground.phase }, { on := 3, ground := Ground.phase }, { on := 4, ground := Ground.phase }, { on := 5, ground := Ground.phase }, { on := 6, ground := Ground.phase }, { on := 7, ground := Ground.phase }, { on := 8, ground := Ground.phase }, { on := 9, ground := Ground.phase }, { on := 10, ground := Ground.phase }, { on := 11, ground := Ground.phase }, { on := 12, ground := Ground.phase }, { on := 13, ground := Ground.phase }, { on := 14, ground := Ground.phase }, { on := 15, ground := Ground.phase }], guard := none }) rfl rfl (by kernel_rfl) (by kernel_rfl) ?hS (?hstep : VFrom _ _ _ _ _ _ 0 16).start ?hend
  case hstep =>
    refine VFrom.cons (VStep.val _ rfl _ rfl (.pointer (some ⟨w.heap.size, 0, none⟩)) rfl trivial (fun ev wq hS he hr => ?_)) ?_
    · have r0 : ev (.tmp 2) = .pointer (some ⟨w.heap.size, 0, none⟩) := hr (2, none) (by simp); have hk := he.1; clear hr he
      go_simp
    refine VFrom.cons (VStep.val _ rfl _ rfl (.int .i64 c1) rfl trivial (fun ev wq hS he hr => ?_)) ?_
    · have r0 : ev (.tmp 5) = .pointer (some ⟨w.heap.size, 0, none⟩) := hr (5, some 0) (by simp); have hk := he.1; clear hr he
      have c0 := cell_c (H1.out.kept hS.out (fun h => h))
      go_simp
    refine VFrom.cons (VStep.val _ rfl _ rfl (.pointer (some ⟨w.heap.size + 1, 0, none⟩)) rfl trivial (fun ev wq hS he hr => ?_)) ?_
    · have r0 : ev (.tmp 3) = .pointer (some ⟨w.heap.size + 1, 0, none⟩) := hr (3, none) (by simp); have hk := he.1; clear hr he
      go_simp
    refine VFrom.cons (VStep.val _ rfl _ rfl (.int .i64 c2) rfl trivial (fun ev wq hS he hr => ?_)) ?_
    · have r0 : ev (.tmp 7) = .pointer (some ⟨w.heap.size + 1, 0, none⟩) := hr (7, some 2) (by simp); have hk := he.1; clear hr he
      have c0 := cell_c (H2.out.kept hS.out (fun h => h))
      go_simp
    refine VFrom.cons (VStep.val _ rfl _ rfl (.int .i64 s) rfl trivial (fun ev wq hS he hr => ?_)) ?_
    · have r0 : ev (.tmp 6) = .int .i64 c1 := hr (6, some 1) (by simp); have r1 : ev (.tmp 8) = .int .i64 c2 := hr (8, some 3) (by simp); have hk := he.1; clear hr he
      have e := HS.out
      go_simp
    refine VFrom.cons (VStep.val _ rfl _ rfl (.pointer (some ⟨w.heap.size, 1, none⟩)) rfl trivial (fun ev wq hS he hr => ?_)) ?_
    · have r0 : ev (.tmp 2) = .pointer (some ⟨w.heap.size, 0, none⟩) := hr (2, none) (by simp); have hk := he.1; clear hr he
      go_simp
    refine VFrom.cons (VStep.val _ rfl _ rfl (markV m1) rfl trivial (fun ev wq hS he hr => ?_)) ?_
    · have r0 : ev (.tmp 10) = .pointer (some ⟨w.heap.size, 1, none⟩) := hr (10, some 5) (by simp); have hk := he.1; clear hr he
      exact exec_load rfl r0 (mark_part N1 (H1.out.kept hS.out (fun h => h)))
    refine VFrom.cons (VStep.val _ rfl _ rfl (.pointer (some ⟨w.heap.size + 1, 1, none⟩)) rfl trivial (fun ev wq hS he hr => ?_)) ?_
    · have r0 : ev (.tmp 3) = .pointer (some ⟨w.heap.size + 1, 0, none⟩) := hr (3, none) (by simp); have hk := he.1; clear hr he
      go_simp
    refine VFrom.cons (VStep.val _ rfl _ rfl (markV m2) rfl trivial (fun ev wq hS he hr => ?_)) ?_
    · have r0 : ev (.tmp 12) = .pointer (some ⟨w.heap.size + 1, 1, none⟩) := hr (12, some 7) (by simp); have hk := he.1; clear hr he
      exact exec_load rfl r0 (mark_part N2 (H2.out.kept hS.out (fun h => h)))
    refine VFrom.cons (VStep.call _ rfl _ rfl (markV m3) rfl trivial 64 #[markV m1, markV m2] (fun ev wq hS he hr => ?_) (fun wq hS => ?_)) ?_
    · have r0 : ev (.tmp 11) = markV m1 := hr (11, some 6) (by simp); have r1 : ev (.tmp 13) = markV m2 := hr (13, some 8) (by simp); have hk := he.1; have hf := he.2; clear hr he
      go_simp
    · exact (CL.out wq).mono fun e w' ⟨h1, h2⟩ => ⟨h1, hS.out.trans h2 (fun _ _ h => h)⟩
    refine VFrom.cons (VStep.val _ rfl _ rfl (.pointer (some ⟨w.heap.size, 17, none⟩)) rfl trivial (fun ev wq hS he hr => ?_)) ?_
    · have r0 : ev (.tmp 2) = .pointer (some ⟨w.heap.size, 0, none⟩) := hr (2, none) (by simp); have hk := he.1; clear hr he
      go_simp
    refine VFrom.cons (VStep.val _ rfl _ rfl (.int .u64 k1) rfl trivial (fun ev wq hS he hr => ?_)) ?_
    · have r0 : ev (.tmp 15) = .pointer (some ⟨w.heap.size, 17, none⟩) := hr (15, some 10) (by simp); have hk := he.1; clear hr he
      have c0 := cell_k N1.out (H1.out.kept hS.out (fun h => h))
      go_simp
    refine VFrom.cons (VStep.val _ rfl _ rfl (.pointer (some ⟨w.heap.size + 1, 17, none⟩)) rfl trivial (fun ev wq hS he hr => ?_)) ?_
    · have r0 : ev (.tmp 3) = .pointer (some ⟨w.heap.size + 1, 0, none⟩) := hr (3, none) (by simp); have hk := he.1; clear hr he
      go_simp
    refine VFrom.cons (VStep.val _ rfl _ rfl (.int .u64 k2) rfl trivial (fun ev wq hS he hr => ?_)) ?_
    · have r0 : ev (.tmp 17) = .pointer (some ⟨w.heap.size + 1, 17, none⟩) := hr (17, some 12) (by simp); have hk := he.1; clear hr he
      have c0 := cell_k N2.out (H2.out.kept hS.out (fun h => h))
      go_simp
    refine VFrom.cons (VStep.val _ rfl _ rfl (.int .u64 x) rfl trivial (fun ev wq hS he hr => ?_)) ?_
    · have r0 : ev (.tmp 16) = .int .u64 k1 := hr (16, some 11) (by simp); have r1 : ev (.tmp 18) = .int .u64 k2 := hr (18, some 13) (by simp); have hk := he.1; clear hr he
      have e := HX.out
      go_simp
    refine VFrom.cons (VStep.val _ rfl _ rfl (cellV s m3 x) rfl trivial (fun ev wq hS he hr => ?_)) ?_
    · have r0 : ev (.tmp 9) = .int .i64 s := hr (9, some 4) (by simp); have r1 : ev (.tmp 14) = markV m3 := hr (14, some 9) (by simp); have r2 : ev (.tmp 19) = .int .u64 x := hr (19, some 14) (by simp); have hk := he.1; clear hr he
      exact exec_build rfl (by simp [r0, r1, r2]) (build_cell s m3 x N3.out wq)
    exact VFrom.nil
  case hS => exact hid ((Kp.refl Nb W).drew)
  case hend =>
    intro af wy haf kh
    have HZ := hid (H3.out.kept kh.out (fun h => h))
    have HF := cell_kept (c := s) (m := m3) (k := x) N3 HZ ZL (hid (KW.out.trans kh.out (fun _ _ h => h))) (hid (by omega))
    have HF1 := HF.1
    have HF2 := HF.2
    refine cell_end (c := s) (m := m3) (k := x) (ad := .tmp 4) (v := .tmp 20) N3 HZ ZL rfl (by rw [haf.out]; kernel_rfl) (by rw [haf.out]; kernel_rfl) ?_
    rw [haf.out]
    clear HF haf
    simp only [putAll, List.zip_cons_cons, List.zip_nil_right, List.foldl_cons, List.foldl_nil, Act.put, List.setIfInBounds_toArray, List.set_cons_zero, List.set_cons_succ]
    go_wp2
    refine bodyPost_ret (v := cellV s m3 x) (results_cell rfl _ (w.heap.size + 1 + 1) (by rfl) _ (cell_loadVar N3 HF1)) rfl ⟨rfl, HF2.out⟩
set_option maxRecDepth 100000 in
set_option maxHeartbeats 4000000 in
theorem csub_any (c1 c2 : Int) (m1 m2 : List Int) (k1 k2 : Int) (w : World) (n1 : m1.length = 16) (n2 : m2.length = 16) :
    Calls Try.prog 45 #[cellV c1 m1 k1, cellV c2 m2 k2] w fun e w' => e = .returned (cellV (IntKind.i64.wrap (c1 - c2)) (layL m1 m2) (bits .xor .u64 k1 k2)) ∧ Kp Nb w w' := by
  obtain ⟨zs, hz⟩ : ∃ zs, zs = cellL 0 (List.replicate 16 0) 0 := ⟨_, rfl⟩
  have ZL : Hid (zs.length = 18) := hid (by rw [hz]; exact cellL_length 0 _ 0 (by simp))
  obtain ⟨W, hW⟩ : ∃ W, W = ((w.alloc (.cells (cellL c1 m1 k1).toArray 41)).alloc (.cells (cellL c2 m2 k2).toArray 41)).alloc (.cells zs.toArray 41) := ⟨_, rfl⟩
  have H1 : Hid (Blk W w.heap.size 41 (cellL c1 m1 k1)) := hid (by rw [hW]; exact ((Blk.new w _ _).alloc _).alloc _)
  have H2 : Hid (Blk W (w.heap.size + 1) 41 (cellL c2 m2 k2)) := hid (by
    have h := (Blk.new (w.alloc (.cells (cellL c1 m1 k1).toArray 41)) 41 (cellL c2 m2 k2)).alloc (.cells zs.toArray 41)
    simp only [World.size_alloc] at h
    rw [hW]
    exact h)
  have H3 : Hid (Blk W (w.heap.size + 1 + 1) 41 zs) := hid (by
    have h := Blk.new ((w.alloc (.cells (cellL c1 m1 k1).toArray 41)).alloc (.cells (cellL c2 m2 k2).toArray 41)) 41 zs
    simp only [World.size_alloc] at h
    rw [hW]
    exact h)
  have KW : Hid (Kp Nb w W) := hid (by rw [hW]; exact (((Kp.refl Nb w).alloc _).alloc _).alloc _)
  have N1 := hid n1
  have N2 := hid n2
  have N3 : Hid ((layL m1 m2).length = 16) := hid (layK_length m1 m2 16)
  obtain ⟨m3, h3⟩ : ∃ m, layL m1 m2 = m := ⟨_, rfl⟩
  have CL : Hid (∀ w, Calls Try.prog 64 #[markV m1, markV m2] w fun e w' => e = .returned (markV m3) ∧ Kp Nb w w') := hid (fun w => by rw [← h3]; exact lay_any m1 m2 w n1 n2)
  rw [h3] at N3 ⊢
  obtain ⟨s, hs⟩ : ∃ s, IntKind.i64.wrap (c1 - c2) = s := ⟨_, rfl⟩
  obtain ⟨x, hx⟩ : ∃ x, bits .xor .u64 k1 k2 = x := ⟨_, rfl⟩
  rw [hs, hx]
  have HS := hid hs
  have HX := hid hx
  rw [hz] at hW
  clear n1 n2 h3 hs hx hz
  go_enter Try.func45, Try.ntmps45
  go_wp2_with fail
  rw [show ((w.alloc (.cells (cellL c1 m1 k1).toArray 41)).alloc (.cells (cellL c2 m2 k2).toArray 41)).alloc (.cells #[.int .i64 0, .int .u8 0, .int .u8 0, .int .u8 0, .int .u8 0, .int .u8 0, .int .u8 0, .int .u8 0, .int .u8 0, .int .u8 0, .int .u8 0, .int .u8 0, .int .u8 0, .int .u8 0, .int .u8 0, .int .u8 0, .int .u8 0, .int .u64 0] 41) = W from hW.symm]
  clear hW
  refine region_vals_last (n := 16) [none, none, none, none, none, some 0, some 1, some 2, some 3, some 4, some 5, some 6, some 7, some 8, some 9, some 10, some 11, some 12, some 13, some 14, some 15] [[(2, none)], [(5, some 0)], [(3, none)], [(7, some 2)], [(6, some 1), (8, some 3)], [(2, none)], [(10, some 5)], [(3, none)], [(12, some 7)], [(11, some 6), (13, some 8)], [(2, none)], [(15, some 10)], [(3, none)], [(17, some 12)], [(16, some 11), (18, some 13)], [(9, some 4), (14, some 9), (19, some 14)], [(4, none), (20, some 15)]] [some 5, some 6, some 7, some 8, some 9, some 10, some 11, some 12, some 13, some 14, some 15, some 16, some 17, some 18, some 19, some 20] [.pointer (some ⟨w.heap.size, 0, none⟩), .int .i64 c1, .pointer (some ⟨w.heap.size + 1, 0, none⟩), .int .i64 c2, .int .i64 s, .pointer (some ⟨w.heap.size, 1, none⟩), markV m1, .pointer (some ⟨w.heap.size + 1, 1, none⟩), markV m2, markV m3, .pointer (some ⟨w.heap.size, 17, none⟩), .int .u64 k1, .pointer (some ⟨w.heap.size + 1, 17, none⟩), .int .u64 k2, .int .u64 x, cellV s m3 x] (fun w' => Hid (Kp Nb W w')) (by kernel_rfl) (by kernel_rfl) (by kernel_rfl) (by kernel_rfl) ({ dst := none, op := Op.store 41 (Operand.tmp 4) (Operand.tmp 20), type := 0, pos := "cell.go:34", after := #[{ on := 15, ground := Ground.data }, { on := 9, ground := Ground.chain }, { on := 0, ground := Ground.phase }, { on := 1, ground := Ground.phase }, { on := 2, ground := Ground.phase }, { on := 3, ground := Ground.phase }, { on := 4, ground := Ground.phase }, { on := 5, ground := Ground.phase }, { on := 6, ground := Ground.phase }, { on := 7, ground := Ground.phase }, { on := 8, ground := Ground.phase }, { on := 9, ground := Ground.phase }, { on := 10, ground := Ground.phase }, { on := 11, ground := Ground.phase }, { on := 12, ground := Ground.phase }, { on := 13, ground := Ground.phase }, { on := 14, ground := Ground.phase }, { on := 15, ground := Ground.phase }], guard := none }) rfl rfl (by kernel_rfl) (by kernel_rfl) ?hS (?hstep : VFrom _ _ _ _ _ _ 0 16).start ?hend
  case hstep =>
    refine VFrom.cons (VStep.val _ rfl _ rfl (.pointer (some ⟨w.heap.size, 0, none⟩)) rfl trivial (fun ev wq hS he hr => ?_)) ?_
    · have r0 : ev (.tmp 2) = .pointer (some ⟨w.heap.size, 0, none⟩) := hr (2, none) (by simp); have hk := he.1; clear hr he
      go_simp
    refine VFrom.cons (VStep.val _ rfl _ rfl (.int .i64 c1) rfl trivial (fun ev wq hS he hr => ?_)) ?_
    · have r0 : ev (.tmp 5) = .pointer (some ⟨w.heap.size, 0, none⟩) := hr (5, some 0) (by simp); have hk := he.1; clear hr he
      have c0 := cell_c (H1.out.kept hS.out (fun h => h))
      go_simp
    refine VFrom.cons (VStep.val _ rfl _ rfl (.pointer (some ⟨w.heap.size + 1, 0, none⟩)) rfl trivial (fun ev wq hS he hr => ?_)) ?_
    · have r0 : ev (.tmp 3) = .pointer (some ⟨w.heap.size + 1, 0, none⟩) := hr (3, none) (by simp); have hk := he.1; clear hr he
      go_simp
    refine VFrom.cons (VStep.val _ rfl _ rfl (.int .i64 c2) rfl trivial (fun ev wq hS he hr => ?_)) ?_
    · have r0 : ev (.tmp 7) = .pointer (some ⟨w.heap.size + 1, 0, none⟩) := hr (7, some 2) (by simp); have hk := he.1; clear hr he
      have c0 := cell_c (H2.out.kept hS.out (fun h => h))
      go_simp
    refine VFrom.cons (VStep.val _ rfl _ rfl (.int .i64 s) rfl trivial (fun ev wq hS he hr => ?_)) ?_
    · have r0 : ev (.tmp 6) = .int .i64 c1 := hr (6, some 1) (by simp); have r1 : ev (.tmp 8) = .int .i64 c2 := hr (8, some 3) (by simp); have hk := he.1; clear hr he
      have e := HS.out
      go_simp
    refine VFrom.cons (VStep.val _ rfl _ rfl (.pointer (some ⟨w.heap.size, 1, none⟩)) rfl trivial (fun ev wq hS he hr => ?_)) ?_
    · have r0 : ev (.tmp 2) = .pointer (some ⟨w.heap.size, 0, none⟩) := hr (2, none) (by simp); have hk := he.1; clear hr he
      go_simp
    refine VFrom.cons (VStep.val _ rfl _ rfl (markV m1) rfl trivial (fun ev wq hS he hr => ?_)) ?_
    · have r0 : ev (.tmp 10) = .pointer (some ⟨w.heap.size, 1, none⟩) := hr (10, some 5) (by simp); have hk := he.1; clear hr he
      exact exec_load rfl r0 (mark_part N1 (H1.out.kept hS.out (fun h => h)))
    refine VFrom.cons (VStep.val _ rfl _ rfl (.pointer (some ⟨w.heap.size + 1, 1, none⟩)) rfl trivial (fun ev wq hS he hr => ?_)) ?_
    · have r0 : ev (.tmp 3) = .pointer (some ⟨w.heap.size + 1, 0, none⟩) := hr (3, none) (by simp); have hk := he.1; clear hr he
      go_simp
    refine VFrom.cons (VStep.val _ rfl _ rfl (markV m2) rfl trivial (fun ev wq hS he hr => ?_)) ?_
    · have r0 : ev (.tmp 12) = .pointer (some ⟨w.heap.size + 1, 1, none⟩) := hr (12, some 7) (by simp); have hk := he.1; clear hr he
      exact exec_load rfl r0 (mark_part N2 (H2.out.kept hS.out (fun h => h)))
    refine VFrom.cons (VStep.call _ rfl _ rfl (markV m3) rfl trivial 64 #[markV m1, markV m2] (fun ev wq hS he hr => ?_) (fun wq hS => ?_)) ?_
    · have r0 : ev (.tmp 11) = markV m1 := hr (11, some 6) (by simp); have r1 : ev (.tmp 13) = markV m2 := hr (13, some 8) (by simp); have hk := he.1; have hf := he.2; clear hr he
      go_simp
    · exact (CL.out wq).mono fun e w' ⟨h1, h2⟩ => ⟨h1, hS.out.trans h2 (fun _ _ h => h)⟩
    refine VFrom.cons (VStep.val _ rfl _ rfl (.pointer (some ⟨w.heap.size, 17, none⟩)) rfl trivial (fun ev wq hS he hr => ?_)) ?_
    · have r0 : ev (.tmp 2) = .pointer (some ⟨w.heap.size, 0, none⟩) := hr (2, none) (by simp); have hk := he.1; clear hr he
      go_simp
    refine VFrom.cons (VStep.val _ rfl _ rfl (.int .u64 k1) rfl trivial (fun ev wq hS he hr => ?_)) ?_
    · have r0 : ev (.tmp 15) = .pointer (some ⟨w.heap.size, 17, none⟩) := hr (15, some 10) (by simp); have hk := he.1; clear hr he
      have c0 := cell_k N1.out (H1.out.kept hS.out (fun h => h))
      go_simp
    refine VFrom.cons (VStep.val _ rfl _ rfl (.pointer (some ⟨w.heap.size + 1, 17, none⟩)) rfl trivial (fun ev wq hS he hr => ?_)) ?_
    · have r0 : ev (.tmp 3) = .pointer (some ⟨w.heap.size + 1, 0, none⟩) := hr (3, none) (by simp); have hk := he.1; clear hr he
      go_simp
    refine VFrom.cons (VStep.val _ rfl _ rfl (.int .u64 k2) rfl trivial (fun ev wq hS he hr => ?_)) ?_
    · have r0 : ev (.tmp 17) = .pointer (some ⟨w.heap.size + 1, 17, none⟩) := hr (17, some 12) (by simp); have hk := he.1; clear hr he
      have c0 := cell_k N2.out (H2.out.kept hS.out (fun h => h))
      go_simp
    refine VFrom.cons (VStep.val _ rfl _ rfl (.int .u64 x) rfl trivial (fun ev wq hS he hr => ?_)) ?_
    · have r0 : ev (.tmp 16) = .int .u64 k1 := hr (16, some 11) (by simp); have r1 : ev (.tmp 18) = .int .u64 k2 := hr (18, some 13) (by simp); have hk := he.1; clear hr he
      have e := HX.out
      go_simp
    refine VFrom.cons (VStep.val _ rfl _ rfl (cellV s m3 x) rfl trivial (fun ev wq hS he hr => ?_)) ?_
    · have r0 : ev (.tmp 9) = .int .i64 s := hr (9, some 4) (by simp); have r1 : ev (.tmp 14) = markV m3 := hr (14, some 9) (by simp); have r2 : ev (.tmp 19) = .int .u64 x := hr (19, some 14) (by simp); have hk := he.1; clear hr he
      exact exec_build rfl (by simp [r0, r1, r2]) (build_cell s m3 x N3.out wq)
    exact VFrom.nil
  case hS => exact hid ((Kp.refl Nb W).drew)
  case hend =>
    intro af wy haf kh
    have HZ := hid (H3.out.kept kh.out (fun h => h))
    have HF := cell_kept (c := s) (m := m3) (k := x) N3 HZ ZL (hid (KW.out.trans kh.out (fun _ _ h => h))) (hid (by omega))
    have HF1 := HF.1
    have HF2 := HF.2
    refine cell_end (c := s) (m := m3) (k := x) (ad := .tmp 4) (v := .tmp 20) N3 HZ ZL rfl (by rw [haf.out]; kernel_rfl) (by rw [haf.out]; kernel_rfl) ?_
    rw [haf.out]
    clear HF haf
    simp only [putAll, List.zip_cons_cons, List.zip_nil_right, List.foldl_cons, List.foldl_nil, Act.put, List.setIfInBounds_toArray, List.set_cons_zero, List.set_cons_succ]
    go_wp2
    refine bodyPost_ret (v := cellV s m3 x) (results_cell rfl _ (w.heap.size + 1 + 1) (by rfl) _ (cell_loadVar N3 HF1)) rfl ⟨rfl, HF2.out⟩

end Go.Proofs.Yteedceepoindeaa
