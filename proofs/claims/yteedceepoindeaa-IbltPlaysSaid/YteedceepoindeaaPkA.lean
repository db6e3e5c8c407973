/-
  Layer 11: what a nil sketch answers; Cell; Sub of unlike sizes. Conditions: as each says.
  Layer 11: the walk of the reference's Sub; it is what a sketch less another one has. Conditions: two lists of one length; no more than 1536 cells.
  Layer 11: kit for IbltPlays: what stands of all sketches and of the lists that are wanted. No condition.
  Layer 11: kit for IbltPlays: one pointer, or one list, made and appended. No condition.
  Layer 11: kit for IbltPlays: what stands while one sketch and one list are made and appended, in whatever order. No condition.
-/
import Derived.Test.YteedceepoindeaaPkE
namespace Go.Proofs.Yteedceepoindeaa
open Go.RowKit Go.Shelf
attribute [local go_sem] Oper.semAt_some

section
variable {P : Program} {w : World}
/-- Two results: a variable's cells, and a slot. -/
theorem results_cell2 {fn : Func} {s t : Tmp} {T : TypeId} (h : fn.results = #[.cell s T, .tmp t]) (tmps : Array Value) (B : Nat) (ht : tmps.getD s undef = .pointer (some ⟨B, 0, none⟩)) (v u : Value) (hu : tmps.getD t undef = u) (hl : (loadVar T ⟨B, 0, none⟩).run P w = .ok v w) :
    (results fn tmps).run P w = .ok (.tuple #[v, u]) w := by
  simp only [Array.getD_eq_getD_getElem?] at ht hu
  simp [results, h, ht, hu, hl, asAddr]
end
set_option maxRecDepth 100000 in
theorem kadd_nil (m : List Int) (w : World) : Calls Try.prog 18 #[.pointer none, markV m] w fun e w' => e = .returned (.tuple #[]) ∧ Kp Nb w w' := by
  have K0 := hid ((Kp.refl Nb w).alloc (.cells (markL m).toArray 23))
  go_enter Try.func18, Try.ntmps18
  go_wp2
  exact bodyPost_ret (results_none rfl _ _ _) rfl ⟨rfl, K0.out⟩
set_option maxRecDepth 100000 in
theorem krem_nil (m : List Int) (w : World) : Calls Try.prog 19 #[.pointer none, markV m] w fun e w' => e = .returned (.tuple #[]) ∧ Kp Nb w w' := by
  have K0 := hid ((Kp.refl Nb w).alloc (.cells (markL m).toArray 23))
  go_enter Try.func19, Try.ntmps19
  go_wp2
  exact bodyPost_ret (results_none rfl _ _ _) rfl ⟨rfl, K0.out⟩
theorem c0_there {w : World} {B : Nat} {zs : List Value} (h : Blk w B 41 zs) (hl : zs.length = 18) {x : Cel} (hx : CelOk x) : w.there B 0 (cl x).toArray.size := by
  rw [List.size_toArray, cl_length hx, ← hl]
  exact h.there 0 _ (by rw [Nat.zero_add]; exact Nat.le_refl _)
theorem cx_sized {x : Cel} (hx : CelOk x) : (Try.prog.info? 41).map (·.size) = some (cl x).toArray.size := by rw [List.size_toArray, cl_length hx]; exact cell_info
theorem cx_infoL {x : Cel} (hx : CelOk x) : (Try.prog.info? 41).map (·.size) = some (cl x).length := by rw [cl_length hx]; exact cell_info
set_option maxRecDepth 100000 in
set_option maxHeartbeats 4000000 in
theorem kcell_neg (v : Value) (i : Int) (w : World) (hi : i < 0) (hv : v = .pointer none ∨ ∃ B, v = .pointer (some ⟨B, 0, none⟩)) :
    Calls Try.prog 20 #[v, .int .i64 i] w fun e w' => e = .returned (.tuple #[cv c0, .bool false]) ∧ Kp Nb w w' := by
  obtain ⟨du, hu, hd⟩ := cell_under
  obtain ⟨N, hN⟩ : ∃ N, w.heap.size = N := ⟨_, rfl⟩
  obtain ⟨W, hW⟩ : ∃ W, W = w.alloc (.cells (cl c0).toArray 41) := ⟨_, rfl⟩
  have H4 : Hid (Blk W N 41 (cl c0)) := hid (by rw [hW, ← hN]; exact Blk.new w _ _)
  have KW : Hid (Kp Nb w W) := hid (by rw [hW]; exact (Kp.refl Nb w).alloc _)
  have LN : Hid (w.heap.size ≤ N) := hid (Nat.le_of_eq hN)
  obtain ⟨P, hP⟩ : ∃ P, P = cl c0 := ⟨_, rfl⟩
  have PL : P.length = 18 := by rw [hP]; exact cl_length c0_ok
  rw [← hP] at H4
  have TH : Hid (W.there N 0 P.toArray.size) := hid (by rw [List.size_toArray]; exact H4.out.there 0 _ (by rw [Nat.zero_add]; exact Nat.le_refl _))
  have SL : Hid ((Try.prog.info? 41).map (·.size) = some P.length) := hid (by rw [PL]; exact cell_info)
  have SI : Hid ((Try.prog.info? 41).map (·.size) = some P.toArray.size) := hid (by rw [List.size_toArray]; exact SL.out)
  have ON : Hid (P.toArray.all (·.oneCell') = true) := hid (by rw [hP]; exact all_oneCell_toArray (cellL_one _ _ _))
  have HF : Hid (Blk (W.setCells N 0 P) N 41 P) := hid (row_set H4.out rfl)
  have K9 : Hid (Kp Nb w (W.setCells N 0 P)) := hid (Kp.setCells (fun h => by have := LN.out; omega) _ 0 _ KW.out)
  have BC : Hid (∀ w, (Instr.build 41 #[]).run Try.prog w = .ok (.agg P.toArray) w) := hid (fun w => by rw [hP]; exact build_c0 w)
  have HPE : Hid ((.agg P.toArray : Value) = cv c0) := hid (by rw [hP])
  have HU := hid hu
  have di : decide (i < 0) = true := decide_eq_true hi
  clear hP hu
  rcases hv with rfl | ⟨B, rfl⟩ <;>
  · go_enter Try.func20, Try.ntmps20
    go_upto_region 2 with fail
    rw [show w.alloc (.cells #[.int .i64 0, .int .u8 0, .int .u8 0, .int .u8 0, .int .u8 0, .int .u8 0, .int .u8 0, .int .u8 0, .int .u8 0, .int .u8 0, .int .u8 0, .int .u8 0, .int .u8 0, .int .u8 0, .int .u8 0, .int .u8 0, .int .u8 0, .int .u64 0] 41) = W from hW.symm]
    clear hW hN
    go_wp2_with (first
      | (refine wpList_val (by rfl) _ _ (exec_build rfl (by simp) (BC.out _)) ?_)
      | (refine wpList_store_mid (by rfl) 41 (.tmp 4) (.tmp 14) (by rfl) N 0 P.toArray (by rfl) (by rfl) TH.out SI.out ON.out ?_))
    have hl := row_loadVar (P := Try.prog) HU.out hd SL.out HF.out 0 (fun j _ => by rw [Nat.zero_add])
    refine bodyPost_ret (v := .tuple #[.agg P.toArray, .bool false]) (results_cell2 rfl _ N (by rfl) _ _ (by rfl) hl) rfl ⟨by rw [HPE.out], K9.out⟩
set_option maxRecDepth 100000 in
set_option maxHeartbeats 4000000 in
theorem kcell_big (v : Value) (n : Nat) (i : Int) (w : World) (hi : 0 ≤ i) (hn : (n : Int) ≤ i) (hv : v = .pointer none ∨ ∃ B, v = .pointer (some ⟨B, 0, none⟩)) (CS0 : ∀ W, Kp Nb w W → Calls Try.prog 14 #[v] W fun e w' => e = .returned (.int .i64 (n : Int)) ∧ W = w') :
    Calls Try.prog 20 #[v, .int .i64 i] w fun e w' => e = .returned (.tuple #[cv c0, .bool false]) ∧ Kp Nb w w' := by
  obtain ⟨du, hu, hd⟩ := cell_under
  obtain ⟨N, hN⟩ : ∃ N, w.heap.size = N := ⟨_, rfl⟩
  obtain ⟨W, hW⟩ : ∃ W, W = w.alloc (.cells (cl c0).toArray 41) := ⟨_, rfl⟩
  have H4 : Hid (Blk W N 41 (cl c0)) := hid (by rw [hW, ← hN]; exact Blk.new w _ _)
  have KW : Hid (Kp Nb w W) := hid (by rw [hW]; exact (Kp.refl Nb w).alloc _)
  have LN : Hid (w.heap.size ≤ N) := hid (Nat.le_of_eq hN)
  obtain ⟨P, hP⟩ : ∃ P, P = cl c0 := ⟨_, rfl⟩
  have PL : P.length = 18 := by rw [hP]; exact cl_length c0_ok
  rw [← hP] at H4
  have TH : Hid (W.there N 0 P.toArray.size) := hid (by rw [List.size_toArray]; exact H4.out.there 0 _ (by rw [Nat.zero_add]; exact Nat.le_refl _))
  have SL : Hid ((Try.prog.info? 41).map (·.size) = some P.length) := hid (by rw [PL]; exact cell_info)
  have SI : Hid ((Try.prog.info? 41).map (·.size) = some P.toArray.size) := hid (by rw [List.size_toArray]; exact SL.out)
  have ON : Hid (P.toArray.all (·.oneCell') = true) := hid (by rw [hP]; exact all_oneCell_toArray (cellL_one _ _ _))
  have HF : Hid (Blk (W.setCells N 0 P) N 41 P) := hid (row_set H4.out rfl)
  have K9 : Hid (Kp Nb w (W.setCells N 0 P)) := hid (Kp.setCells (fun h => by have := LN.out; omega) _ 0 _ KW.out)
  have BC : Hid (∀ w, (Instr.build 41 #[]).run Try.prog w = .ok (.agg P.toArray) w) := hid (fun w => by rw [hP]; exact build_c0 w)
  have HPE : Hid ((.agg P.toArray : Value) = cv c0) := hid (by rw [hP])
  have HU := hid hu
  have di : decide (i < 0) = false := decide_eq_false (by omega)
  have dn : decide (i ≥ (n : Int)) = true := decide_eq_true hn
  have CS := hid (CS0 W KW.out)
  clear hP hu CS0
  rcases hv with rfl | ⟨B, rfl⟩ <;>
  · go_enter Try.func20, Try.ntmps20
    go_upto_region 1 with fail
    rw [show w.alloc (.cells #[.int .i64 0, .int .u8 0, .int .u8 0, .int .u8 0, .int .u8 0, .int .u8 0, .int .u8 0, .int .u8 0, .int .u8 0, .int .u8 0, .int .u8 0, .int .u8 0, .int .u8 0, .int .u8 0, .int .u8 0, .int .u8 0, .int .u8 0, .int .u64 0] 41) = W from hW.symm]
    clear hW hN
    go_wp2_with fail
    refine CS.out.mono ?_
    rintro e w1 ⟨rfl, rfl⟩
    go_wp2_with (first
      | (refine wpList_val (by rfl) _ _ (exec_build rfl (by simp) (BC.out _)) ?_)
      | (refine wpList_store_mid (by rfl) 41 (.tmp 4) (.tmp 14) (by rfl) N 0 P.toArray (by rfl) (by rfl) TH.out SI.out ON.out ?_))
    have hl := row_loadVar (P := Try.prog) HU.out hd SL.out HF.out 0 (fun j _ => by rw [Nat.zero_add])
    refine bodyPost_ret (v := .tuple #[.agg P.toArray, .bool false]) (results_cell2 rfl _ N (by rfl) _ _ (by rfl) hl) rfl ⟨by rw [HPE.out], K9.out⟩
set_option maxRecDepth 100000 in
set_option maxHeartbeats 4000000 in
theorem kcell_yes (B C : Nat) (cs : List Cel) (i : Nat) (w : World) (h : SkAt w B C cs) (hi : i < cs.length) :
    Calls Try.prog 20 #[.pointer (some ⟨B, 0, none⟩), .int .i64 (i : Int)] w fun e w' => e = .returned (.tuple #[cv (celAt cs i), .bool true]) ∧ Kp Nb w w' := by
  obtain ⟨du, hu, hd⟩ := cell_under
  obtain ⟨N, hN⟩ : ∃ N, w.heap.size = N := ⟨_, rfl⟩
  obtain ⟨W, hW⟩ : ∃ W, W = w.alloc (.cells (cl c0).toArray 41) := ⟨_, rfl⟩
  have H4 : Hid (Blk W N 41 (cl c0)) := hid (by rw [hW, ← hN]; exact Blk.new w _ _)
  have kW : Kp Nb w W := by rw [hW]; exact (Kp.refl Nb w).alloc _
  have KW := hid kW
  have LN : Hid (w.heap.size ≤ N) := hid (Nat.le_of_eq hN)
  have HS := hid (h.kept kW (fun h => h) (fun h => h))
  have CO := hid (h.ok.at i)
  obtain ⟨n, hn⟩ : ∃ n, cs.length = n := ⟨_, rfl⟩
  have CS : Hid (Calls Try.prog 14 #[.pointer (some ⟨B, 0, none⟩)] W fun e w' => e = .returned (.int .i64 (n : Int)) ∧ W = w') := hid (by rw [← hn]; exact size_any B C cs W HS.out)
  obtain ⟨cap, hb, hs⟩ := HS.out.sl
  rw [hn] at hb hi
  have c0' := hb.cell 0
  simp only [List.getElem?_cons_zero] at c0'
  have HR : Hid (n ≤ cap ∧ cap ≤ maxLen ∧ W.rangeAt C (i * 18) (cl (celAt cs i))) := hid (by
    rcases hs with ⟨_, he⟩ | ⟨blk, off, cap', e1, hc, hm', hcell⟩
    · rw [he] at hn; simp at hn; omega
    · injection e1 with e1 e2 e3
      injection e1 with e1
      injection e1 with e1 e4 e5
      subst e1 e4 e3
      have h3 := hcell i (by rw [hn]; exact hi)
      rw [Nat.zero_add] at h3
      exact ⟨by rw [← hn]; exact hc, hm', h3⟩)
  obtain ⟨x, hx⟩ : ∃ x, celAt cs i = x := ⟨_, rfl⟩
  rw [hx] at CO HR ⊢
  obtain ⟨P, hP⟩ : ∃ P, P = cl x := ⟨_, rfl⟩
  have PL : P.length = 18 := by rw [hP]; exact cl_length CO.out
  rw [← hP] at HR
  have TH : Hid (W.there N 0 P.toArray.size) := hid (by rw [List.size_toArray, PL, ← cl_length c0_ok]; exact H4.out.there 0 _ (by rw [Nat.zero_add]; exact Nat.le_refl _))
  have SL : Hid ((Try.prog.info? 41).map (·.size) = some P.length) := hid (by rw [PL]; exact cell_info)
  have SI : Hid ((Try.prog.info? 41).map (·.size) = some P.toArray.size) := hid (by rw [List.size_toArray]; exact SL.out)
  have ON : Hid (P.toArray.all (·.oneCell') = true) := hid (by rw [hP]; exact all_oneCell_toArray (cellL_one _ _ _))
  have HF : Hid (Blk (W.setCells N 0 P) N 41 P) := hid (row_set H4.out (by rw [PL, cl_length c0_ok]))
  have K9 : Hid (Kp Nb w (W.setCells N 0 P)) := hid (Kp.setCells (fun h => by have := LN.out; omega) _ 0 _ KW.out)
  have HPE : Hid ((.agg P.toArray : Value) = cv x) := hid (by rw [hP])
  have HU := hid hu
  have RNG := hid HR.out.2.2
  have di : decide ((i : Int) < 0) = false := decide_eq_false (by omega)
  have dn : decide ((i : Int) ≥ (n : Int)) = false := decide_eq_false (by omega)
  have hcap := HR.out.1
  have hmx := HR.out.2.1
  unfold maxLen at hmx
  clear hP hu hb hs hx hn h HR kW
  go_enter Try.func20, Try.ntmps20
  go_upto_region 1 with fail
  rw [show w.alloc (.cells #[.int .i64 0, .int .u8 0, .int .u8 0, .int .u8 0, .int .u8 0, .int .u8 0, .int .u8 0, .int .u8 0, .int .u8 0, .int .u8 0, .int .u8 0, .int .u8 0, .int .u8 0, .int .u8 0, .int .u8 0, .int .u8 0, .int .u8 0, .int .u64 0] 41) = W from hW.symm]
  clear hW hN
  go_wp2_with fail
  refine CS.out.mono ?_
  rintro e w1 ⟨rfl, rfl⟩
  go_wp2_with (first
    | (refine wpList_load_mid (by rfl) 41 (.tmp 20) (by rfl) C (i * 18) (by rfl) P du RNG.out HU.out hd SL.out ?_)
    | (refine wpList_store_mid (by rfl) 41 (.tmp 4) (.tmp 21) (by rfl) N 0 P.toArray (by rfl) (by rfl) TH.out SI.out ON.out ?_))
  have hl := row_loadVar (P := Try.prog) HU.out hd SL.out HF.out 0 (fun j _ => by rw [Nat.zero_add])
  refine bodyPost_ret (v := .tuple #[.agg P.toArray, .bool true]) (results_cell2 rfl _ N (by rfl) _ _ (by rfl) hl) rfl ⟨by rw [HPE.out], K9.out⟩
set_option maxRecDepth 100000 in
set_option maxHeartbeats 4000000 in
theorem ksub_no (B1 C1 B2 C2 : Nat) (a b : List Cel) (w : World) (h1 : SkAt w B1 C1 a) (h2 : SkAt w B2 C2 b) (hl : a.length ≠ b.length) :
    Calls Try.prog 21 #[.pointer (some ⟨B1, 0, none⟩), .pointer (some ⟨B2, 0, none⟩)] w fun e w' => e = .returned (.tuple #[.pointer none, .int .i64 2]) ∧ Kp Nb w w' := by
  obtain ⟨cap1, hb1, hs1⟩ := h1.sl
  obtain ⟨cap2, hb2, hs2⟩ := h2.sl
  obtain ⟨n, hn⟩ : ∃ n, a.length = n := ⟨_, rfl⟩
  obtain ⟨n2, hn2⟩ : ∃ n, b.length = n := ⟨_, rfl⟩
  rw [hn] at hb1 hl
  rw [hn2] at hb2 hl
  have B1' := hid hb1
  have B2' := hid hb2
  have NE1 : Hid (((n : Int) == (n2 : Int)) = false) := hid (by simpa using (fun h : (n : Int) = (n2 : Int) => hl (by omega)))
  have NE2 : Hid (¬ (n : Int) = (n2 : Int)) := hid (fun h => hl (by omega))
  clear h1 h2 hs1 hs2 hl hn hn2 hb1 hb2
  go_enter Try.func21, Try.ntmps21
  go_upto_region 3 with fail
  refine region_vals2 [none, none, none, none, none, none, none, none, none, none, none, none, none, none, none, some 0, some 1, some 2, some 3, some 4, some 5, some 6, some 7, some 8, some 9, some 10, none, none, none, none, none, none, none, none, none, none, none, none, none, none, none, none, none, none, none, none, none, none, none, none, none, none, none, none, none] [[(0, none)], [(15, some 0)], [(16, some 1)], [(17, some 2)], [(18, some 3)], [(1, none)], [(20, some 5)], [(21, some 6)], [(22, some 7)], [(23, some 8)], [(19, some 4), (24, some 9)]] [some 15, some 16, some 17, some 18, some 19, some 20, some 21, some 22, some 23, some 24, some 25] [.pointer (some ⟨B1, 0, none⟩), .pointer (some ⟨B1, 0, none⟩), .pointer (some ⟨B1, 0, none⟩), .slice (some ⟨C1, 0, none⟩) n cap1, .int .i64 (n : Int), .pointer (some ⟨B2, 0, none⟩), .pointer (some ⟨B2, 0, none⟩), .pointer (some ⟨B2, 0, none⟩), .slice (some ⟨C2, 0, none⟩) n2 cap2, .int .i64 (n2 : Int), .bool true] (fun w' => Hid (Kp Nb w w')) (by kernel_rfl) (by kernel_rfl) (by kernel_rfl) ?hS (VFrom.all (n := 11) (by kernel_rfl) ?hstep) ?hend
  case hstep =>
    refine VFrom.cons (VStep.val _ rfl _ rfl (.pointer (some ⟨B1, 0, none⟩)) rfl trivial (fun ev wq hS he hr => ?_)) ?_
    · have r0 : ev (.tmp 0) = .pointer (some ⟨B1, 0, none⟩) := hr (0, none) (by simp); have hk := he.1; clear hr he
      go_simp
    refine VFrom.cons (VStep.val _ rfl _ rfl (.pointer (some ⟨B1, 0, none⟩)) rfl trivial (fun ev wq hS he hr => ?_)) ?_
    · have r0 : ev (.tmp 15) = .pointer (some ⟨B1, 0, none⟩) := hr (15, some 0) (by simp); have hk := he.1; clear hr he
      go_simp
    refine VFrom.cons (VStep.val _ rfl _ rfl (.pointer (some ⟨B1, 0, none⟩)) rfl trivial (fun ev wq hS he hr => ?_)) ?_
    · have r0 : ev (.tmp 16) = .pointer (some ⟨B1, 0, none⟩) := hr (16, some 1) (by simp); have hk := he.1; clear hr he
      go_simp
    refine VFrom.cons (VStep.val _ rfl _ rfl (.slice (some ⟨C1, 0, none⟩) n cap1) rfl trivial (fun ev wq hS he hr => ?_)) ?_
    · have r0 : ev (.tmp 17) = .pointer (some ⟨B1, 0, none⟩) := hr (17, some 2) (by simp); have hk := he.1; clear hr he
      have c0 := ((B1'.out.kept hS.out (fun h => h)).cell 0)
      go_simp
    refine VFrom.cons (VStep.val _ rfl _ rfl (.int .i64 (n : Int)) rfl trivial (fun ev wq hS he hr => ?_)) ?_
    · have r0 : ev (.tmp 18) = .slice (some ⟨C1, 0, none⟩) n cap1 := hr (18, some 3) (by simp); have hk := he.1; clear hr he
      go_simp
    refine VFrom.cons (VStep.val _ rfl _ rfl (.pointer (some ⟨B2, 0, none⟩)) rfl trivial (fun ev wq hS he hr => ?_)) ?_
    · have r0 : ev (.tmp 1) = .pointer (some ⟨B2, 0, none⟩) := hr (1, none) (by simp); have hk := he.1; clear hr he
      go_simp
    refine VFrom.cons (VStep.val _ rfl _ rfl (.pointer (some ⟨B2, 0, none⟩)) rfl trivial (fun ev wq hS he hr => ?_)) ?_
    · have r0 : ev (.tmp 20) = .pointer (some ⟨B2, 0, none⟩) := hr (20, some 5) (by simp); have hk := he.1; clear hr he
      go_simp
    refine VFrom.cons (VStep.val _ rfl _ rfl (.pointer (some ⟨B2, 0, none⟩)) rfl trivial (fun ev wq hS he hr => ?_)) ?_
    · have r0 : ev (.tmp 21) = .pointer (some ⟨B2, 0, none⟩) := hr (21, some 6) (by simp); have hk := he.1; clear hr he
      go_simp
    refine VFrom.cons (VStep.val _ rfl _ rfl (.slice (some ⟨C2, 0, none⟩) n2 cap2) rfl trivial (fun ev wq hS he hr => ?_)) ?_
    · have r0 : ev (.tmp 22) = .pointer (some ⟨B2, 0, none⟩) := hr (22, some 7) (by simp); have hk := he.1; clear hr he
      have c0 := ((B2'.out.kept hS.out (fun h => h)).cell 0)
      go_simp
    refine VFrom.cons (VStep.val _ rfl _ rfl (.int .i64 (n2 : Int)) rfl trivial (fun ev wq hS he hr => ?_)) ?_
    · have r0 : ev (.tmp 23) = .slice (some ⟨C2, 0, none⟩) n2 cap2 := hr (23, some 8) (by simp); have hk := he.1; clear hr he
      go_simp
    refine VFrom.cons (VStep.val _ rfl _ rfl (.bool true) rfl trivial (fun ev wq hS he hr => ?_)) ?_
    · have r0 : ev (.tmp 19) = .int .i64 (n : Int) := hr (19, some 4) (by simp); have r1 : ev (.tmp 24) = .int .i64 (n2 : Int) := hr (24, some 9) (by simp); have hk := he.1; clear hr he
      have e1 := NE1.out; have e2 := NE2.out
      go_simp
    exact VFrom.nil
  case hS => exact hid (Kp.refl Nb w).drew
  case hend =>
    intro w9 k9
    have K9 := hid k9.out
    clear k9
    simp only [putAll, List.zip_cons_cons, List.zip_nil_right, List.foldl_cons, List.foldl_nil, Act.put, List.setIfInBounds_toArray, List.set_cons_zero, List.set_cons_succ]
    go_wp2
    go_ret2
    exact ⟨rfl, K9.out⟩

theorem cells0_nil (w : World) : Calls Try.prog 46 #[.pointer none] w fun r w' => ∃ Bb, r = .returned (.func (.func 65) #[] #[.pointer (some ⟨Bb, 0, none⟩)]) ∧ Boxed w' Bb 25 (.pointer none) ∧ w.heap.size ≤ Bb ∧ Bb < w'.heap.size ∧ Kp Nb w w' := by
  have b1 := hid (Boxed.new w 25 (.pointer none))
  have KW := hid ((Kp.refl Nb w).alloc (.cells #[.pointer none] 25))
  go_enter Try.func46, Try.ntmps46
  go_wp2_with fail
  refine (kclone_nil _).mono ?_
  rintro e w1 ⟨rfl, rfl⟩
  go_wp2
  go_ret
  exact ⟨_, rfl, b1.out, Nat.le_refl _, b1.out.lt, KW.out⟩
set_option maxRecDepth 100000 in
set_option maxHeartbeats 1000000 in
theorem cells10_in (m : Nat) (_ : 1 ≤ m) (l Bb : Nat) (J Jx : List Nat → World → Prop) (W : World) (hE : W.cell? ⟨Bb, 0, none⟩ = some (.pointer none)) (h0 : J [] W) :
    CallsIn Fence.wide m Try.prog 65 #[.func (.yield l) #[] #[], .pointer (some ⟨Bb, 0, none⟩)] W fun r W' => (∃ v, r = .returned v) ∧
      ((∃ ys, ys = ([] : List Nat) ∧ J ys W') ∨ (∃ pre, (∃ k, k ≤ 0 ∧ pre = List.range k) ∧ Jx pre W')) := by
  have HJ := hid h0
  have CZ : Hid (Calls Try.prog 14 #[.pointer none] W fun e w' => e = .returned (.int .i64 0) ∧ W = w') := hid (size_nil W)
  clear h0
  refine callsIn_of_wp Try.func65 rfl trivial ?_ rfl
  simp only [Try.ntmps65, List.size_toArray, List.length_cons, List.length_nil, Nat.reduceAdd, Nat.reduceSub, Array.replicate_succ, Array.replicate_zero, List.push_toArray, List.append_toArray, List.nil_append, List.cons_append]
  gi_wp2_with (refine ⟨trivial, ?_⟩; gi_at_call 14; refine (callsIn_wide.2 CZ.out).mono ?_; rintro r w' ⟨rfl, rfl⟩)
  gi_loopw [6] (fun i wr => i = .int .i64 0 ∧ W = wr) (fun _ _ => 0)
  case atStart => exact ⟨rfl, rfl⟩
  case round =>
    obtain ⟨rfl, rfl⟩ := hrel
    gi_wp2
    go_end0
    exact ⟨⟨_, rfl⟩, .inl ⟨_, rfl, HJ.out⟩⟩
theorem cells0_stops (n : Nat) (hn : 1 ≤ n) (Bb : Nat) (cs : List Cel) (hcs : cs = []) (w : World) (bE : Boxed w Bb 25 (.pointer none)) :
    SeqStopsK Fence.wide n Try.prog 65 #[.pointer (some ⟨Bb, 0, none⟩)] (fun x : Nat => #[Value.int .i64 (x : Int), cv (celAt cs x)]) (KpL [Bb, Bb, Bb]) (fun ys => ys = List.range cs.length) (fun pre => ∃ k, k ≤ cs.length ∧ pre = List.range k) cs.length w := fun l J Jx W hW _ _ hY h0 => by
  subst hcs
  exact cells10_in n hn l Bb J Jx W ((hW.cell (p := ⟨Bb, 0, none⟩) bE.lt).trans bE.cell) h0
set_option maxRecDepth 100000 in
set_option maxHeartbeats 4000000 in
theorem gcells0_in (n : Nat) (hn : 3 ≤ n) (cs : List Cel) (hcs : cs = []) (m : Int) (w : World) :
    CallsIn Fence.wide n Try.prog 23 #[.pointer none, .int .i64 m] w fun r w' => ∃ v, r = .returned v ∧
      w'.ownsRow w.heap.size 41 18 v (cs.take m.toNat).length (rws (cs.take m.toNat)) ∧ Below w.heap.size w w' := by
  have h1 : 1 ≤ n := by omega
  have CC : Hid (∀ wx, Kp Nb w wx → Calls Try.prog 46 #[.pointer none] wx fun r w' => ∃ Bb, r = .returned (.func (.func 65) #[] #[.pointer (some ⟨Bb, 0, none⟩)]) ∧ Boxed w' Bb 25 (.pointer none) ∧ wx.heap.size ≤ Bb ∧ Bb < w'.heap.size ∧ Kp Nb wx w') :=
    hid fun wx _ => cells0_nil wx
  have HBIG : Hid (cs.length ≤ 100000) := hid (by rw [hcs]; decide)
  have HOK : Hid (AllOk cs) := hid (fun q hq => by rw [hcs] at hq; cases hq)
  have HCS := hid hcs
  clear hcs
  refine callsIn_of_wp_marks Try.func23 rfl trivial ?_ rfl
  simp only [Try.ntmps23, List.size_toArray, List.length_cons, List.length_nil, Nat.reduceAdd, Nat.reduceSub, Array.replicate_succ, Array.replicate_zero, List.push_toArray, List.append_toArray, List.nil_append, List.cons_append]
  gi_wp2_with (refine ⟨trivial, ?_⟩; gi_at_call 46; refine (callsIn_wide.2 (CC.out _ (((Kp.refl Nb w).alloc _).alloc _))).mono ?_; rintro r W0 ⟨Bb, rfl, c3, l1, l4, k0⟩)
  have b0 := Boxed.new w 3 (.int .i64 m)
  have b1 := Boxed.new (w.alloc (.cells #[.int .i64 m] 3)) 35 (.slice none 0 0)
  simp only [World.size_alloc] at b1 l1
  have d0 := b0.alloc (.cells #[.slice none 0 0] 35)
  have c0' : Boxed W0 w.heap.size 3 (.int .i64 m) := (k0.heap (by simp; omega) (fun h => h)).trans d0
  have c1' : Boxed W0 (w.heap.size + 1) 35 (.slice none 0 0) := (k0.heap (by simp) (fun h => h)).trans b1
  have hB0 : Below w.heap.size w W0 := ((((Kp.refl Nb w).alloc _).alloc _).trans k0 (fun _ _ h => h)).below (Nat.le_refl _) (fun _ _ h => h)
  obtain ⟨Z, hZ0⟩ : ∃ Z, Z = W0.heap.size := ⟨_, rfl⟩
  have HL := hid (show w.heap.size + 1 + 1 ≤ Bb ∧ w.heap.size + 1 + 1 ≤ Bb ∧ w.heap.size + 1 + 1 ≤ Bb ∧ Bb < Z ∧ Bb < Z ∧ Bb < Z ∧ W0.heap.size = Z from ⟨l1, l1, l1, by omega, by omega, by omega, hZ0.symm⟩)
  have HB0 := hid hB0
  have HI0 : Hid (GcI w Z cs m [] W0) := hid ⟨⟨⟨_, c1', World.ownsRow_nil _ _ _ _, Nat.zero_le _⟩, c0', by omega⟩, hB0⟩
  have HC3 := hid c3
  clear hZ0 hB0 b0 b1 d0 c0' c1' k0 c3 l1 l4
  refine wpIn_rangeFunc_ownH rfl h1 (gf := 65) (lb := #[.pointer (some ⟨Bb, 0, none⟩)]) rfl trivial (enters_of Try.func65 (by kernel_rfl) rfl)
    (cells0_stops (n - 1) (by omega) Bb cs HCS.out W0 HC3.out) kpL_t (kpL_b (fun b hb => by have := HL.out; simp only [List.mem_cons, List.not_mem_nil, or_false] at hb; omega)) (Below.refl _ _) (fun _ => rfl)
    (GcI w Z cs m) (GcX w Z cs m) (gcI_own w Z cs m HB0.out.size) (fun c => gcX_own w Z cs m c HB0.out.size) HI0.out
    (fun x a' W => (∃ N, Z ≤ N ∧ a' = { tmps := #[.pointer none, .int .i64 m, undef, .pointer (some ⟨w.heap.size, 0, none⟩), .slice none 0 0, .pointer (some ⟨w.heap.size + 1, 0, none⟩), .int .i64 (x : Int), .pointer (some ⟨N, 0, none⟩), .pointer none, .func (.func 65) #[] #[.pointer (some ⟨Bb, 0, none⟩)], .int .i64 (x : Int), cv (celAt cs x), undef, undef, undef, undef, undef, undef, undef, undef, undef, undef, undef, undef, undef, undef, undef], defers := [] } ∧ Blk W N 41 (cl (celAt cs x))))
    (fun x a' => Own.from (fun _ A W row hs hg hr => by obtain ⟨N, h1, h2, h3⟩ := hs; exact ⟨N, h1, h2, blk_turn h3 hg hr⟩) _) ?assign ?body ?done ?stop
  case assign =>
    intro l pre x W K hI hK
    have HI := hid hI
    have HZ := hid hI.1.2.2
    have CO := HOK.out.at x
    clear hI
    obtain ⟨W1, hW1⟩ : ∃ W1, W1 = W.alloc (.cells (cl c0).toArray 41) := ⟨_, rfl⟩
    have HB1 : Hid (Blk W1 W.heap.size 41 (cl c0)) := hid (by rw [hW1]; exact Blk.new _ _ _)
    have hzl : (cl c0).length = 18 := cl_length c0_ok
    have TH : Hid (W1.there W.heap.size 0 (cl (celAt cs x)).length) := hid (HB1.out.there 0 _ (by rw [hzl, cl_length CO]; omega))
    have hrun : ∀ (ev : Operand → Value) (o : Oper), o.op = .alloc 41 → (execOp ev o).run Try.prog W = .ok (.value (.pointer (some ⟨W.heap.size, 0, none⟩))) W1 := fun ev o ho => by
      unfold execOp; rw [ho, hW1]; kernel_rfl
    have HST := hid (store_cell CO TH.out)
    have HR := hid hrun
    obtain ⟨W2, hW2⟩ : ∃ W2, W2 = W1.setCells W.heap.size 0 (cl (celAt cs x)) := ⟨_, rfl⟩
    rw [← hW2] at HST
    have HB2 : Hid (Blk W2 W.heap.size 41 (cl (celAt cs x))) := hid (by rw [hW2]; exact row_set HB1.out (by rw [hzl, cl_length CO]))
    have HK2 : Hid (Kp Nb W W2) := hid (by rw [hW2]; exact Kp.setCells (S := Nb) (fun h => absurd h (Nat.lt_irrefl _)) _ _ _ (by rw [hW1]; exact (Kp.refl Nb W).alloc _))
    clear hrun hW1 hW2 TH
    gi_wp2_with (first
      | (refine wpListIn_val (by rfl) (by intro c hc; cases hc) (fun _ => rfl) (.pointer (some ⟨W.heap.size, 0, none⟩)) (HR.out _ _ (by rfl)) ?_)
      | (refine wpListIn_store rfl 41 (.tmp 7) (.tmp 11) rfl (p := ⟨W.heap.size, 0, none⟩) (by rfl) (by rfl) HST.out ?_))
    refine hK _ _ ⟨HK2.out.size, fun k o _ ho _ => (HK2.out.heap (Array.getElem?_eq_some_iff.1 ho).1 (fun h => h)).trans ho⟩ (fun b hb => HK2.out.heap (by have := HL.out; have := HZ.out; simp only [List.mem_cons, List.not_mem_nil, or_false] at hb; omega) (fun h => h)) (HI.out.kept HK2.out) ⟨W.heap.size, HZ.out, by rfl, HB2.out⟩
  case body =>
    rintro l pre x a' W hl - hI ⟨N, hN, rfl, hNB⟩ hlt
    obtain ⟨⟨⟨v, b1, o1, hlen⟩, b2, hz⟩, hB⟩ := hI
    obtain ⟨p1, q1, rfl⟩ := own_shape o1
    have c1 := b1.cell
    have c2 := b2.cell
    have HC := hid b1
    have HC2 := hid b2
    have HO1 := hid o1
    have HLEN := hid hlen
    have HZ := hid hz
    have HBW := hid hB
    have HNB := hid hNB
    have CO := HOK.out.at x
    have HLT := hid hlt
    have hpl : pre.length < 100000 := by have := HBIG.out; omega
    clear b1 b2 o1 hlen hz hB hNB hN hl hlt
    by_cases hge : m ≤ (pre.length : Int)
    · gi_wp2
      exact ⟨KeepsFrom.refl _ _, ⟨rfl, pre, x, rfl, ⟨_, HC.out, HO1.out⟩, .inl (by have := HLEN.out; omega)⟩, HBW.out⟩
    · by_cases hx : x = pre.length
      · subst hx
        have HLD := hid (load_cell CO (HNB.out.range 0 _ (fun j _ => by rw [Nat.zero_add])))
        have HMK := hid (make_cell1 _ CO W)
        have HLC : Hid ((cl (celAt cs pre.length)).length = 18) := hid (cl_length CO)
        have HON : Hid (∀ u ∈ cl (celAt cs pre.length), u.oneCell' = true) := hid (cellL_one _ _ _)
        obtain ⟨i0, z0, hi, hz0, hz1, hz2, hz3⟩ := cell_info3
        have HSX := hid (show pre.length + 1 ≤ maxLen ∧ (pre.length + 1) * 32 ≤ 140737488355328 ∧ Z ≤ W.heap.size + 1 ∧ w.heap.size + 1 < Z from ⟨by unfold maxLen; omega, by omega, by have := HZ.out; omega, by have := HL.out; omega⟩)
        obtain ⟨y, hy⟩ : ∃ y, celAt cs pre.length = y := ⟨_, rfl⟩
        rw [hy] at HLD HMK HLC HON CO
        gi_wp2_with (first
          | (refine wpListIn_load rfl 41 (.tmp 7) rfl (p := ⟨N, 0, none⟩) (by rfl) HLD.out ?_)
          | (refine wpListIn_val (by rfl) (by intro c hc; cases hc) (fun _ => rfl) _ (exec_buildSlice rfl (qs := #[(0, cv y)]) (by simp [Act.eval, Act.put]) HMK.out) ?_)
          | (gi_at_builtin; refine wpListIn_append_own _ rfl _ _ 35 rfl Z 41 i0 z0 18 32 Try.underlying35 hi hz0 hz1 hz2 hz3 (by decide) _ _ _ rfl (HO1.out.alloc _) ⟨W.heap.size, 0, none⟩ 1 1 (cl y) rfl HLC.out (cells_new _ _ _) HON.out HSX.out.1 HSX.out.2.1 (by simp; exact HSX.out.2.2.1) ?_; intro v' w1 hown' hgrow _; obtain ⟨g', cap', rfl⟩ := ownsRow_succ hown'; obtain ⟨hv1, hv2, hr2, hk2, hb2, hh2⟩ := gc_step (n₀ := w.heap.size) HC.out (by decide) HO1.out (Nat.le_succ _) HSX.out.2.2.2 HZ.out hown' hgrow; have hc1 := hv1.cell; have hf1 := hv1.frozen; have HV1 := hid hv2; have HV2 := hid hr2; have HV3 := hid hk2; have HV4 := hid hb2; have HV5 := hid hh2; clear hv1 hv2 hr2 hk2 hb2 hh2 hown' hgrow))
        have hb0 : Boxed (w1.setCell ⟨w.heap.size + 1, 0, none⟩ (.slice (some ⟨g', 0, none⟩) (pre.length + 1) cap')) w.heap.size 3 (.int .i64 m) := (HV5.out w.heap.size (by have := HL.out; omega) (by omega)).trans HC2.out
        refine ⟨HV3.out.from _, fun b hb => HV5.out b (by have := HL.out; simp only [List.mem_cons, List.not_mem_nil, or_false] at hb; omega) (by have := HL.out; simp only [List.mem_cons, List.not_mem_nil, or_false] at hb; omega), ⟨⟨_, HV1.out, ?_, ?_⟩, hb0, Nat.le_trans HZ.out HV3.out.size⟩, HBW.out.trans HV4.out⟩
        · have e : rws ([pre.length].map (celAt cs)) = cl y := by simp [rws, flatR, hy]
          rw [List.map_append, rws_append, List.length_append, e]
          exact HV2.out
        · simp; omega
      · gi_wp2
        exact ⟨KeepsFrom.refl _ _, ⟨rfl, pre, x, rfl, ⟨_, HC.out, HO1.out⟩, .inr hx⟩, HBW.out⟩
  case done =>
    rintro D ys W hD rfl ⟨⟨⟨v, b1, o1, hlen⟩, b2, hz⟩, hB⟩ hK
    rw [range_take cs cs.length (Nat.le_refl _), List.take_length, List.length_range] at o1
    rw [List.length_range] at hlen
    obtain ⟨p1, q1, rfl⟩ := own_shape o1
    have c1 := b1.cell
    have HO1 := hid (ownsRow_le (base' := w.heap.size) o1 (by have := HL.out; omega))
    have HBW := hid hB
    have HD := hid hD
    have HK := hid hK
    have HE : Hid (cs.take m.toNat = cs) := hid (List.take_of_length_le hlen)
    clear b1 b2 o1 hlen hz hB hD hK
    gi_wp2
    refine ⟨by simp, .inl ⟨_, _, rfl, run_takeDeferred HK.out, ?_⟩⟩
    refine ⟨_, results_tmp rfl _ _ _, _, rfl, ?_⟩
    rw [HE.out]
    exact ⟨ownsRow_putObj (W := W) HO1.out _ HK.out rfl, HBW.out.trans (belowK_b (w := w) (Nat.le_refl _) W D _ _ (by have := HL.out; have := HD.out; omega) HK.out rfl rfl)⟩
  case stop =>
    rintro D c pre' W hD ⟨k, hk, rfl⟩ ⟨⟨rfl, pre, x, e1, ⟨v, b1, o1⟩, hlen⟩, hB⟩ hK
    obtain ⟨e2, e3, e4⟩ := range_end e1
    have hlen' : pre.length = m.toNat := by rcases hlen with h | h; exact h; exact absurd e4 h
    have e5 : pre.map (celAt cs) = cs.take m.toNat := by rw [e3, hlen']; exact range_take cs _ (by omega)
    rw [e5] at o1
    have e6 : pre.length = (cs.take m.toNat).length := by rw [← e5, List.length_map]
    rw [e6] at o1
    obtain ⟨lx, hlx⟩ : ∃ lx, cs.take m.toNat = lx := ⟨_, rfl⟩
    rw [hlx] at o1
    have HLX := hid hlx
    obtain ⟨p1, q1, rfl⟩ := own_shape o1
    have c1 := b1.cell
    have HO1 := hid (ownsRow_le (base' := w.heap.size) o1 (by have := HL.out; omega))
    have HBW := hid hB
    have HD := hid hD
    have HK := hid hK
    clear hlx b1 o1 hB hD hK e1 e2 e3 e4 e5 e6 hlen hlen'
    gi_wp2
    refine ⟨by simp, .inl ⟨_, _, rfl, run_takeDeferred HK.out, ?_⟩⟩
    refine ⟨_, results_tmp rfl _ _ _, _, rfl, ?_⟩
    rw [HLX.out]
    exact ⟨ownsRow_putObj (W := W) HO1.out _ HK.out rfl, HBW.out.trans (belowK_b (w := w) (Nat.le_refl _) W D _ _ (by have := HL.out; have := HD.out; omega) HK.out rfl rfl)⟩

theorem gcells0_any (m : Int) (w : World) : Calls Try.prog 23 #[.pointer none, .int .i64 m] w fun e w' => ∃ y d, e = .returned (.slice y 0 d) ∧ Kp Nb w w' :=
  (callsIn_wide.1 (gcells0_in 3 (Nat.le_refl _) [] rfl m w)).mono fun _ _ ⟨v, he, h1, hB⟩ => by
    rw [List.take_nil] at h1
    obtain ⟨p, q, rfl⟩ := own_shape h1
    exact ⟨p, q, he, Kp.of_below hB⟩

end Go.Proofs.Yteedceepoindeaa

namespace Go.Proofs.Yteedceepoindeaa
open Go.RowKit

/-- The first k cells of a, less b's. -/
def subQ (a b : List Cel) (k : Nat) : List Cel := (List.range k).map fun i => signC (-1) (celAt a i) (celAt b i)
theorem subQ_len (a b : List Cel) (k : Nat) : (subQ a b k).length = k := by unfold subQ; rw [List.length_map, List.length_range]
theorem subQ_succ (a b : List Cel) (k : Nat) : subQ a b (k + 1) = subQ a b k ++ [signC (-1) (celAt a k) (celAt b k)] := by
  unfold subQ
  rw [List.range_succ, List.map_append]
  rfl
theorem celAt_lt (cs : List Cel) (i : Nat) (h : i < cs.length) : cs[i]? = some (celAt cs i) := by
  unfold celAt
  rw [List.getElem?_eq_getElem h]
  rfl
theorem subP_at (a b : List Cel) : ∀ k, k ≤ a.length → ∀ i, i < a.length → celAt (subP a b k) i = if i < k then subC (celAt a i) (celAt b i) else celAt a i
  | 0, _, i, _ => by rw [if_neg (Nat.not_lt_zero _)]; rfl
  | k + 1, hk, i, hi => by
    have ih := subP_at a b k (by omega)
    have hl : k < (subP a b k).length := by rw [subP_length]; omega
    show celAt ((subP a b k).set k (subC (celAt (subP a b k) k) (celAt b k))) i = _
    by_cases e : k = i
    · subst e
      rw [if_pos (by omega)]
      unfold celAt
      rw [List.getElem?_set_self hl]
      have h2 := ih k hi
      rw [if_neg (by omega)] at h2
      unfold celAt at h2
      rw [Option.getD_some, h2]
    · have h2 := ih i hi
      unfold celAt at h2 ⊢
      rw [List.getElem?_set_ne e, h2]
      by_cases h : i < k
      · rw [if_pos h, if_pos (by omega)]
      · rw [if_neg h, if_neg (by omega)]
theorem subS_eq (a b : List Cel) : subS a b = subQ a b a.length := by
  apply List.ext_getElem?
  intro i
  by_cases hi : i < a.length
  · rw [celAt_lt _ i (by unfold subS; rw [subP_length]; exact hi), celAt_lt _ i (by rw [subQ_len]; exact hi)]
    unfold subS
    rw [subP_at a b a.length (Nat.le_refl _) i hi, if_pos hi]
    congr 1
    have e : (List.range a.length)[i]? = some i := List.getElem?_range hi
    unfold subQ
    show subC (celAt a i) (celAt b i) = (((List.range a.length).map (fun i => signC (-1) (celAt a i) (celAt b i)))[i]?).getD (0, List.replicate 16 0, 0)
    rw [List.getElem?_map, e, Option.map_some, Option.getD_some, sign_neg]
  · rw [List.getElem?_eq_none (by unfold subS; rw [subP_length]; omega), List.getElem?_eq_none (by rw [subQ_len]; omega)]
theorem subQ_ok (a b : List Cel) (n : Nat) : AllOk (subQ a b n) := fun q hq => by
  unfold subQ at hq
  obtain ⟨i, _, rfl⟩ := List.mem_map.1 hq
  rw [sign_neg]
  exact subC_ok
theorem old_set2Q {L : Nat → Bool} {i i2 : Nat} {l l' : List Value} (u u2 : Value) (hL : L i = false) (hL2 : L i2 = false) (h : l' = (l.set i u).set i2 u2) : ∀ j, L j = true → l'.getD j undef = l.getD j undef := by
  intro j hj
  subst h
  have hn : i ≠ j := by rintro rfl; rw [hL] at hj; cases hj
  have hn2 : i2 ≠ j := by rintro rfl; rw [hL2] at hj; cases hj
  rw [List.getD_eq_getElem?_getD, List.getD_eq_getElem?_getD, List.getElem?_set_ne hn2, List.getElem?_set_ne hn]
theorem exec_appendQ {P : Program} {ev : Operand → Value} {o : Oper} {s x : Operand} {t : TypeId} {v xv v' : Value} {w w' : World} (ho : o.op = .call { callee := .builtin .append, args := #[s, x], argTypes := #[t, t] })
    (hs : ev s = v) (hx : ev x = xv) (hr : (Builtin.append_ #[t, t] o.type #[v, xv]).run P w = .ok v' w') : (execOp ev o).run P w = .ok (.value v') w' := by
  simp [execOp, ho, resolve, invoke, builtin, hs, hx, hr, Result.andThen]
theorem app_cell {w : World} {base ty B n : Nat} {va : Value} {xs : List Value} {z : Cel} (own : w.ownsRow base 41 18 va n xs) (hB : Blk w B 41 (cl z)) (hz : CelOk z) (hn : n ≤ 100000) (hb : base ≤ w.heap.size) :
    ∃ v' w', (Builtin.append_ #[35, 35] ty #[va, .slice (some ⟨B, 0, none⟩) 1 1]).run Try.prog w = .ok v' w' ∧ w'.ownsRow base 41 18 v' (n + 1) (xs ++ cl z) ∧ w.grownBy w' va.ownBlock := by
  obtain ⟨i0, z0, hi, hz0, hz1, hz2, hz3⟩ := cell_info3
  obtain ⟨v', w', h2, h3, h4, _⟩ := run_append_own (P := Try.prog) w base 35 ty 41 i0 z0 18 32 Try.underlying35 hi hz0 hz1 hz2 hz3 (by decide) va n xs own ⟨B, 0, none⟩ 1 1 (cl z) (by rw [cl_length hz]) (fun j u hj => by
    have h := hB.cell j
    rw [hj] at h
    have e : Addr.add ⟨B, 0, none⟩ j = ⟨B, j, none⟩ := by rw [add_mid, Nat.zero_add]
    rw [e]
    exact h) (cellL_one _ _ _) (by unfold maxLen; omega) (by omega) hb
  exact ⟨v', w', h2, h3, h4⟩
/-- What stands while one cell is appended. -/
structure RsQ (w0 : World) (k : Nat) (xs : List Value) (v : Value) (z : Cel) (bs : List Bool) (g : Value × Value) (w : World) : Prop where
  kp : Kp Nb w0 w
  m1 : bs[0]?.getD false = true → bs[1]?.getD false = false → ∃ B, g.1 = .slice (some ⟨B, 0, none⟩) 1 1 ∧ Blk w B 41 (cl z)
  a0 : bs[1]?.getD false = false → w.ownsRow w0.heap.size 41 18 v k xs
  a1 : bs[1]?.getD false = true → w.ownsRow w0.heap.size 41 18 g.2 (k + 1) (xs ++ cl z)
section
variable {w0 w w' : World} {k : Nat} {xs : List Value} {v : Value} {z : Cel} {bs : List Bool} {g : Value × Value}
theorem RsQ.keptN (h : RsQ w0 k xs v z bs g w) (kn : Kp Nb w w') : RsQ w0 k xs v z bs g w' :=
  ⟨h.kp.trans kn (fun _ _ h => h), fun e e' => by obtain ⟨B, h1, h2⟩ := h.m1 e e'; exact ⟨B, h1, h2.kept kn (fun h => h)⟩, fun e => ownsRow_kp (h.a0 e) kn, fun e => ownsRow_kp (h.a1 e) kn⟩
theorem RsQ.make (h : RsQ w0 k xs v z [false, false] g w) : RsQ w0 k xs v z [true, false] (.slice (some ⟨w.heap.size, 0, none⟩) 1 1, g.2) (w.alloc (.cells (cl z).toArray 41 (0, 0))) := by
  have h' := h.keptN ((Kp.refl Nb w).alloc (.cells (cl z).toArray 41 (0, 0)))
  exact ⟨h'.kp, fun _ _ => ⟨_, rfl, Blk.new w _ (cl z)⟩, h'.a0, (fun e => by cases e)⟩
theorem RsQ.put (h : RsQ w0 k xs v z [true, false] g w) {v' : Value} (ho : w'.ownsRow w0.heap.size 41 18 v' (k + 1) (xs ++ cl z)) (hg : w.grownBy w' v.ownBlock) : RsQ w0 k xs v z [true, true] (g.1, v') w' := by
  have r := h.a0 rfl
  exact ⟨h.kp.grown hg (fun b hb' hlt => by have := (row_cells r hb').1; omega), (fun _ e => by cases e), (fun e => by cases e), fun _ => ho⟩
end
def SbR (w : World) (a b : List Cel) (v i : Value) (wr : World) : Prop := ∃ k : Nat, k ≤ a.length ∧ i = .int .i64 k ∧ Hid (wr.ownsRow w.heap.size 41 18 v k (rws (subQ a b k))) ∧ Hid (Kp Nb w wr)
set_option maxRecDepth 100000 in
set_option maxHeartbeats 4000000 in
theorem rsub11_any (va vb : Value) (a b : List Cel) (w : World) (ha : RowsSl cl c0 18 w va a) (hb : RowsSl cl c0 18 w vb b) (oa : AllOk a) (ob : AllOk b) (hl : a.length = b.length) (hbig : a.length ≤ 10000) :
    Calls Try.prog 25 #[va, vb] w fun e w' => ∃ v, e = .returned v ∧ w'.ownsRow w.heap.size 41 18 v a.length (rws (subQ a b a.length)) ∧ Kp Nb w w' := by
  have HA := hid ha
  have HB := hid hb
  obtain ⟨ya, da, rfl⟩ := ha.shape
  obtain ⟨yb, db, rfl⟩ := hb.shape
  obtain ⟨n, hn⟩ : ∃ n, a.length = n := ⟨_, rfl⟩
  have hn2 : b.length = n := by omega
  rw [hn] at HA
  rw [hn2] at HB
  rw [hn, hn2]
  have HN := hid hn
  have HN2 := hid hn2
  have OA := hid oa
  have OB := hid ob
  have hb9 : n ≤ 10000 := by omega
  have HB9 := hid hb9
  have S0 : SbR w a b (.slice none 0 0) (.int .i64 0) w := ⟨0, Nat.zero_le _, rfl, hid (World.ownsRow_nil _ _ _ _), hid (Kp.refl _ _)⟩
  clear ha hb oa ob hl hbig hn hn2
  go_enter Try.func25, Try.ntmps25
  go_wp2
  go_loopw [5, 9] (SbR w a b) (fun _ i _ => n - (intOf i).toNat)
  case atStart => exact S0
  case round =>
    clear S0
    obtain ⟨k, hk, rfl, HO, KO⟩ := hrel
    rw [HN.out] at hk
    obtain ⟨y3, d3, rfl⟩ := own_shape HO.out
    by_cases hlt : k < n
    · rcases HA.out with ⟨_, e0⟩ | ⟨p1, q1, d1, e1, hc1, hm1, hr1⟩
      · have := HN.out; rw [e0] at this; simp at this; omega
      rcases HB.out with ⟨_, e0⟩ | ⟨p2, q2, d2, e2, hc2, hm2, hr2⟩
      · have := HN2.out; rw [e0] at this; simp at this; omega
      injection e1 with e1 e7 e8
      subst e1 e8
      injection e2 with e2 e9 e10
      subst e2 e10
      clear e7 e9
      rw [HN.out] at hc1
      rw [HN2.out] at hc2
      have RA0 := hid (hr1 k (by rw [HN.out]; exact hlt))
      have RB0 := hid (hr2 k (by rw [HN2.out]; exact hlt))
      have OA1 := hid (OA.out.at k)
      have OB1 := hid (OB.out.at k)
      have HQ : Hid (rws (subQ a b (k + 1)) = rws (subQ a b k) ++ cl (signC (-1) (celAt a k) (celAt b k))) := hid (by rw [subQ_succ, rws_append]; congr 1)
      obtain ⟨xa, hxa⟩ : ∃ x, celAt a k = x := ⟨_, rfl⟩
      obtain ⟨xb, hxb⟩ : ∃ x, celAt b k = x := ⟨_, rfl⟩
      have RA : Hid (w.rangeAt p1 (q1 + k * 18) (cl xa)) := hid (by rw [← hxa]; exact RA0.out)
      have RB : Hid (w.rangeAt p2 (q2 + k * 18) (cl xb)) := hid (by rw [← hxb]; exact RB0.out)
      rw [hxa] at OA1 HQ
      rw [hxb] at OB1 HQ
      have OZ : Hid (CelOk (signC (-1) xa xb)) := hid (by rw [sign_neg]; exact subC_ok)
      have CR0 := hid (fun w => radd_any (-1) xa xb w OA1.out OB1.out)
      obtain ⟨z, hz⟩ : ∃ z, signC (-1) xa xb = z := ⟨_, rfl⟩
      rw [hz] at HQ OZ CR0
      have CR : Hid (∀ w, Calls Try.prog 47 #[cv xa, cv xb, .int .i64 (-1)] w fun e w' => e = .returned (cv z) ∧ Kp Nb w w') := CR0
      have BD : Hid (k < n ∧ n ≤ da ∧ n ≤ db ∧ n ≤ 10000) := hid ⟨hlt, hc1, hc2, hb9⟩
      have OA := OA1
      have OB := OB1
      have HLT := hid hlt
      clear hxa hxb hz RA0 RB0 OA1 OB1 hr1 hr2 hm1 hm2
      go_upto_region 5 with fail
      refine region_ghost (g0 := ((undef, undef) : Value × Value)) [none, none, none, none, none, some 12, none, none, none, none, none, none, some 0, some 1, some 2, some 3, some 4, some 5, some 6, some 7, some 8, some 9, some 10, some 11, none, none] [[(5, none)], [(0, none)], [(6, none)], [(13, some 1), (14, some 2)], [(15, some 3)], [(1, none)], [(6, none)], [(17, some 5), (18, some 6)], [(19, some 7)], [(16, some 4), (20, some 8)], [(21, some 9)], [(12, some 0), (22, some 10)], [(23, some 11)]] [some 12, some 13, some 14, some 15, some 16, some 17, some 18, some 19, some 20, some 21, some 22, some 23, some 5] (fun g => [.slice y3 k d3, .slice (some ⟨p1, q1, none⟩) n da, .int .i64 (k : Int), .pointer (some ⟨p1, q1 + k * 18, none⟩), cv xa, .slice (some ⟨p2, q2, none⟩) n db, .int .i64 (k : Int), .pointer (some ⟨p2, q2 + k * 18, none⟩), cv xb, cv z, g.1, g.2, g.2]) [10, 11] (fun bs g wq => Hid (RsQ w k (rws (subQ a b k)) (.slice y3 k d3) z bs g wq)) (by kernel_rfl) (by kernel_rfl) (fun g => by kernel_rfl) (by kernel_rfl) ?hS (GFrom.all (n := 13) (by kernel_rfl) ?hstep) ?hend
      case hstep =>
        refine GFrom.cons (GStep.val _ rfl rfl _ rfl (fun g => .slice y3 k d3) (fun _ => rfl) (fun _ => trivial) (fun bs g ev wq hS he hr => ?_)) ?_
        · have r0 : ev (.tmp 5) = .slice y3 k d3 := hr (5, none) (by simp); have hk := he.1; clear hr he
          go_simp
        refine GFrom.cons (GStep.val _ rfl rfl _ rfl (fun g => .slice (some ⟨p1, q1, none⟩) n da) (fun _ => rfl) (fun _ => trivial) (fun bs g ev wq hS he hr => ?_)) ?_
        · have r0 : ev (.tmp 0) = .slice (some ⟨p1, q1, none⟩) n da := hr (0, none) (by simp); have hk := he.1; clear hr he
          go_simp
        refine GFrom.cons (GStep.val _ rfl rfl _ rfl (fun g => .int .i64 (k : Int)) (fun _ => rfl) (fun _ => trivial) (fun bs g ev wq hS he hr => ?_)) ?_
        · have r0 : ev (.tmp 6) = .int .i64 (k : Int) := hr (6, none) (by simp); have hk := he.1; clear hr he
          go_simp
        refine GFrom.cons (GStep.val _ rfl rfl _ rfl (fun g => .pointer (some ⟨p1, q1 + k * 18, none⟩)) (fun _ => rfl) (fun _ => trivial) (fun bs g ev wq hS he hr => ?_)) ?_
        · have r0 : ev (.tmp 13) = .slice (some ⟨p1, q1, none⟩) n da := hr (13, some 1) (by simp); have r1 : ev (.tmp 14) = .int .i64 (k : Int) := hr (14, some 2) (by simp); have hk := he.1; clear hr he
          have e1 := BD.out
          go_simp
        refine GFrom.cons (GStep.val _ rfl rfl _ rfl (fun g => cv xa) (fun _ => rfl) (fun _ => trivial) (fun bs g ev wq hS he hr => ?_)) ?_
        · have r0 : ev (.tmp 15) = .pointer (some ⟨p1, q1 + k * 18, none⟩) := hr (15, some 3) (by simp); have hk := he.1; clear hr he
          exact exec_load rfl r0 (load_cell OA.out (range_kept RA.out hS.out.kp))
        refine GFrom.cons (GStep.val _ rfl rfl _ rfl (fun g => .slice (some ⟨p2, q2, none⟩) n db) (fun _ => rfl) (fun _ => trivial) (fun bs g ev wq hS he hr => ?_)) ?_
        · have r0 : ev (.tmp 1) = .slice (some ⟨p2, q2, none⟩) n db := hr (1, none) (by simp); have hk := he.1; clear hr he
          go_simp
        refine GFrom.cons (GStep.val _ rfl rfl _ rfl (fun g => .int .i64 (k : Int)) (fun _ => rfl) (fun _ => trivial) (fun bs g ev wq hS he hr => ?_)) ?_
        · have r0 : ev (.tmp 6) = .int .i64 (k : Int) := hr (6, none) (by simp); have hk := he.1; clear hr he
          go_simp
        refine GFrom.cons (GStep.val _ rfl rfl _ rfl (fun g => .pointer (some ⟨p2, q2 + k * 18, none⟩)) (fun _ => rfl) (fun _ => trivial) (fun bs g ev wq hS he hr => ?_)) ?_
        · have r0 : ev (.tmp 17) = .slice (some ⟨p2, q2, none⟩) n db := hr (17, some 5) (by simp); have r1 : ev (.tmp 18) = .int .i64 (k : Int) := hr (18, some 6) (by simp); have hk := he.1; clear hr he
          have e1 := BD.out
          go_simp
        refine GFrom.cons (GStep.val _ rfl rfl _ rfl (fun g => cv xb) (fun _ => rfl) (fun _ => trivial) (fun bs g ev wq hS he hr => ?_)) ?_
        · have r0 : ev (.tmp 19) = .pointer (some ⟨p2, q2 + k * 18, none⟩) := hr (19, some 7) (by simp); have hk := he.1; clear hr he
          exact exec_load rfl r0 (load_cell OB.out (range_kept RB.out hS.out.kp))
        refine GFrom.cons (GStep.call _ rfl rfl _ rfl (fun g => cv z) (fun _ => rfl) (fun _ => trivial) 47 (fun g => #[cv xa, cv xb, .int .i64 (-1)]) (fun bs g ev wq hS he hr => ?_) (fun L g wq hd hL hS => ?_)) ?_
        · have r0 : ev (.tmp 16) = cv xa := hr (16, some 4) (by simp); have r1 : ev (.tmp 20) = cv xb := hr (20, some 8) (by simp); have hk := he.1; have hf := he.2; clear hr he
          go_simp
        · exact (CR.out wq).mono fun e w' ⟨h1, h2⟩ => ⟨h1, hid (hS.out.keptN h2)⟩
        refine GFrom.cons (GStep.make _ rfl _ rfl (fun _ => trivial) (fun L g ev wq hL hd hcl hS he hr => ?_)) ?_
        · have r0 : ev (.tmp 21) = cv z := hr (21, some 9) (by simp); clear hr he
          have l11 : L 11 = false := by cases h : L 11 with | false => rfl | true => (have := hcl 11 _ rfl h 10 (by kernel_rfl); rw [hL] at this; cases this)
          have e : bitsAt [10, 11] L = [false, false] := by simp [bitsAt, hL, l11]
          have e2 : bitsAt [10, 11] (upd L 10) = [true, false] := by simp [bitsAt, upd, l11]
          rw [e] at hS
          exact ⟨.slice (some ⟨wq.heap.size, 0, none⟩) 1 1, (Value.slice (some ⟨wq.heap.size, 0, none⟩) 1 1, g.2), _, exec_buildSlice rfl (qs := #[(0, cv z)]) (by simp [r0]) (make_cell1 z OZ.out wq), rfl, old_set _ hL rfl, by rw [e2]; exact hid hS.out.make⟩
        refine GFrom.cons (GStep.make _ rfl _ rfl (fun _ => trivial) (fun L g ev wq hL hd hcl hS he hr => ?_)) ?_
        · have r0 : ev (.tmp 12) = .slice y3 k d3 := hr (12, some 0) (by simp); have r1 : ev (.tmp 22) = g.1 := hr (22, some 10) (by simp); clear hr he
          have l10 : L 10 = true := hd 10 (by kernel_rfl)
          have l12 : L 12 = false := by cases h : L 12 with | false => rfl | true => (have := hcl 12 _ rfl h 11 (by kernel_rfl); rw [hL] at this; cases this)
          have e : bitsAt [10, 11] L = [true, false] := by simp [bitsAt, hL, l10]
          have e2 : bitsAt [10, 11] (upd L 11) = [true, true] := by simp [bitsAt, upd, l10]
          rw [e] at hS
          obtain ⟨Bm, hm, hm2⟩ := hS.out.m1 rfl rfl
          obtain ⟨v', w', hrun, ho, hg⟩ := app_cell (ty := 35) (hS.out.a0 rfl) hm2 OZ.out (by have := BD.out; omega) hS.out.kp.size
          exact ⟨v', (g.1, v'), w', exec_appendQ rfl r0 (r1.trans hm) hrun, rfl, old_set2Q v' v' hL l12 rfl, by rw [e2]; exact hid (hS.out.put ho hg)⟩
        refine GFrom.cons (GStep.val _ rfl rfl _ rfl (fun g => g.2) (fun _ => rfl) (fun _ => trivial) (fun bs g ev wq hS he hr => ?_)) ?_
        · have r0 : ev (.tmp 23) = g.2 := hr (23, some 11) (by simp); have hk := he.1; clear hr he
          go_simp
        exact GFrom.nil
      case hS => exact hid ⟨KO.out.trans (Kp.refl Nb wr).drew (fun _ _ h => h), fun e => by simp at e, fun _ => ownsRow_kp HO.out (Kp.refl Nb wr).drew, fun e => by simp at e⟩
      case hend =>
        intro g wy hy
        obtain ⟨v1, v2⟩ := g
        have ho := hy.out.a1 (by simp)
        have kk := hy.out.kp
        dsimp only at ho
        have RE : Hid (SbR w a b v2 (.int .i64 ((k : Int) + 1)) wy) := hid ⟨k + 1, by rw [HN.out]; exact HLT.out, by go_num, hid (by rw [HQ.out]; exact ho), hid kk⟩
        obtain ⟨y4, d4, rfl⟩ := own_shape ho
        clear hy ho kk HO KO
        simp only [putAll, List.zip_cons_cons, List.zip_nil_right, List.foldl_cons, List.foldl_nil, Act.put, List.setIfInBounds_toArray, List.set_cons_zero, List.set_cons_succ]
        go_wp2
        go_roundw
        case rel => exact RE.out
        case measure => have := HLT.out; simp [intOf]; omega
    · obtain rfl : n = k := by omega
      have HR : Hid (wr.ownsRow w.heap.size 41 18 (.slice y3 n d3) n (rws (subQ a b n))) := hid HO.out
      have KR := hid KO.out
      clear HO KO
      go_wp2
      go_ret
      exact ⟨_, rfl, HR.out, KR.out⟩

end Go.Proofs.Yteedceepoindeaa

namespace Go.Proofs.Yteedceepoindeaa
open Go.RowKit

/-- A sketch (at B, its cells at C), and the list that is wanted of it. -/
structure En where
  B : Nat
  C : Nat
  sc : List Cel
  v : Value
  wc : List Cel
/-- A list's block is older than w0's end, or one of cells. -/
def VtQ (w0 w : World) (v : Value) : Prop := ∀ (blk off n cap : Nat), v = .slice (some ⟨blk, off, none⟩) n cap → blk < w0.heap.size ∨ ∃ xs, Blk w blk 41 xs
/-- What stands of all. -/
structure PlS (w0 : World) (K : List En) (va vw : Value) (w : World) : Prop where
  kp : Kp Nb w0 w
  all : w.ownsRow w0.heap.size 25 1 va K.length (K.map fun q : En => Value.pointer (some ⟨q.B, 0, none⟩))
  want : w.ownsRow w0.heap.size 35 1 vw K.length (K.map fun q : En => q.v)
  sk : ∀ (i : Nat) (q : En), K[i]? = some q → SkAt w q.B q.C q.sc ∧ w0.heap.size ≤ q.C ∧ AllOk q.wc ∧ RowsSl cl c0 18 w q.v q.wc ∧ q.sc.length = q.wc.length ∧ fitB (q.wc.length : Int) = true
  ap : ∀ (i j : Nat) (p q : En), K[i]? = some p → K[j]? = some q → i ≠ j → p.C ≠ q.C
  apv : ∀ (i j : Nat) (p q : En), K[i]? = some p → K[j]? = some q → ∀ (blk off n cap : Nat), q.v = .slice (some ⟨blk, off, none⟩) n cap → blk ≠ p.C
  vt : ∀ (i : Nat) (q : En), K[i]? = some q → VtQ w0 w q.v
theorem blk_ty {w : World} {B C s t : Nat} {xs ys : List Value} (h : Blk w B s xs) (k : Blk w C t ys) (hst : s ≠ t) : B ≠ C := by
  rintro rfl
  have e := (show w.heap[B]? = _ from h).symm.trans (show w.heap[B]? = _ from k)
  injection e with e
  injection e with _ e
  exact hst e
theorem row_tyQ {W : World} {base e size k : Nat} {v : Value} {xs : List Value} (h : W.ownsRow base e size v k xs) {g : Nat} (hg : v.ownBlock = some g) : ∃ cs fr, W.heap[g]? = some (Obj.cells cs e fr) := by
  rcases h.2 with ⟨rfl, _⟩ | ⟨g', cap, cur, rfl, hb, hgg, _⟩
  · simp [Value.ownBlock] at hg
  · have : g' = g := by simpa [Value.ownBlock] using hg
    subst this
    exact ⟨_, _, hgg⟩
theorem rows_turn {w w' : World} {C : Nat} {v : Value} {cs : List Cel} (h : RowsSl cl c0 18 w v cs) (k : Kp (Jb C) w w') (hv : ∀ (blk off n cap : Nat), v = .slice (some ⟨blk, off, none⟩) n cap → blk ≠ C) : RowsSl cl c0 18 w' v cs := by
  rcases h with h | ⟨blk, off, cap, e, hc, hm, hr⟩
  · exact .inl h
  · exact .inr ⟨blk, off, cap, e, hc, hm, fun i hi j u hu => k.cell (hr i hi j u hu) (fun h => hv _ _ _ _ e h)⟩
theorem VtQ.kept {w0 w w' : World} {v : Value} (h : VtQ w0 w v) (k : Kp Nb w w') : VtQ w0 w' v := fun blk off n cap e => by
  rcases h blk off n cap e with h | ⟨xs, h⟩
  · exact .inl h
  · exact .inr ⟨xs, h.kept k (fun h => h)⟩
theorem VtQ.turn {w0 w w' : World} {v : Value} {C : Nat} (h : VtQ w0 w v) (k : Kp (Jb C) w w') (hv : ∀ (blk off n cap : Nat), v = .slice (some ⟨blk, off, none⟩) n cap → blk ≠ C) : VtQ w0 w' v := fun blk off n cap e => by
  rcases h blk off n cap e with h | ⟨xs, h⟩
  · exact .inl h
  · exact .inr ⟨xs, h.kept k (fun hC => hv blk off n cap e hC)⟩
theorem VtQ.ne {w0 w : World} {v : Value} {g t : Nat} {xs : List Value} (h : VtQ w0 w v) (hg : w0.heap.size ≤ g) (hb : Blk w g t xs) (ht : t ≠ 41) : ∀ (blk off n cap : Nat), v = .slice (some ⟨blk, off, none⟩) n cap → blk ≠ g := fun blk off n cap e => by
  rcases h blk off n cap e with h | ⟨ys, h⟩
  · omega
  · exact blk_ty h hb (fun e => ht e.symm)
theorem PlS.kept {w0 w w' : World} {K : List En} {va vw : Value} (h : PlS w0 K va vw w) (k : Kp Nb w w') : PlS w0 K va vw w' :=
  ⟨h.kp.trans k (fun _ _ h => h), ownsRow_kp h.all k, ownsRow_kp h.want k, fun i q e => by
    obtain ⟨h1, h2, h3, h4, h5⟩ := h.sk i q e
    exact ⟨h1.kept k (fun h => h) (fun h => h), h2, h3, h4.kept k, h5⟩, h.ap, h.apv, fun i q e => (h.vt i q e).kept k⟩
/-- One sketch is turned: the others and the lists stay. -/
theorem PlS.turn {w0 w w' : World} {K : List En} {va vw : Value} (h : PlS w0 K va vw w) {i : Nat} {q : En} (hq : K[i]? = some q) {sc' : List Cel} (hs : SkAt w' q.B q.C sc') (hl : sc'.length = q.sc.length) (k : Kp (Jb q.C) w w') :
    PlS w0 (K.set i { q with sc := sc' }) va vw w' := by
  have hi : i < K.length := (List.getElem?_eq_some_iff.1 hq).1
  obtain ⟨s1, s2, s3, s4, s5, s6⟩ := h.sk i q hq
  obtain ⟨capq, restq, bq1, bq2, -⟩ := s1.at'
  have hmB : (K.set i { q with sc := sc' }).map (fun q : En => Value.pointer (some ⟨q.B, 0, none⟩)) = K.map fun q : En => Value.pointer (some ⟨q.B, 0, none⟩) := by
    rw [List.map_set]
    apply List.ext_getElem?
    intro j
    by_cases e : i = j
    · subst e
      rw [List.getElem?_set_self (by rw [List.length_map]; exact hi), List.getElem?_map, hq]
      rfl
    · rw [List.getElem?_set_ne e]
  have hmv : (K.set i { q with sc := sc' }).map (fun q : En => q.v) = K.map fun q : En => q.v := by
    rw [List.map_set]
    apply List.ext_getElem?
    intro j
    by_cases e : i = j
    · subst e
      rw [List.getElem?_set_self (by rw [List.length_map]; exact hi), List.getElem?_map, hq]
      rfl
    · rw [List.getElem?_set_ne e]
  have old : ∀ (j : Nat) (p : En), (K.set i { q with sc := sc' })[j]? = some p → ∃ p', K[j]? = some p' ∧ p.C = p'.C ∧ p.B = p'.B ∧ p.v = p'.v ∧ p.wc = p'.wc ∧ (i ≠ j → p = p') ∧ (i = j → p = { q with sc := sc' }) := fun j p e => by
    by_cases ej : i = j
    · subst ej
      rw [List.getElem?_set_self hi] at e
      injection e with e
      subst e
      exact ⟨q, hq, rfl, rfl, rfl, rfl, fun h => absurd rfl h, fun _ => rfl⟩
    · rw [List.getElem?_set_ne ej] at e
      exact ⟨p, e, rfl, rfl, rfl, rfl, fun _ => rfl, fun h => absurd h ej⟩
  have row : ∀ {e size n : Nat} {v : Value} {xs : List Value}, e ≠ 41 → w.ownsRow w0.heap.size e size v n xs → w'.ownsRow w0.heap.size e size v n xs := fun he ho =>
    ownsRow_same ho (fun g hg => by
      obtain ⟨-, o, hoo, -⟩ := row_cells ho hg
      refine k.heap (Array.getElem?_eq_some_iff.1 hoo).1 (fun hC => ?_)
      have hC' : g = q.C := hC
      obtain ⟨cs', fr', e2⟩ := row_tyQ ho hg
      have h3 := (show w.heap[q.C]? = _ from bq2).symm.trans (hC' ▸ e2)
      injection h3 with h3
      injection h3 with _ h3
      exact he h3.symm)
  refine ⟨h.kp.trans k (fun b hb hC => by have hC' : b = q.C := hC; omega), ?_, ?_, fun j p e => ?_, fun j l p r ej el hne => ?_, fun j l p r ej el => ?_, fun j p e => ?_⟩
  · rw [hmB, List.length_set]; exact row (by decide) h.all
  · rw [hmv, List.length_set]; exact row (by decide) h.want
  · obtain ⟨p', e', e1, e2, e3, e4, e5, e6⟩ := old j p e
    obtain ⟨t1, t2, t3, t4, t5, t6⟩ := h.sk j p' e'
    have hr : RowsSl cl c0 18 w' p.v p.wc := by rw [e3, e4]; exact rows_turn t4 k (h.apv i j q p' hq e')
    by_cases ej : i = j
    · have hp := e6 ej
      subst ej
      rw [hq] at e'
      injection e' with e'
      subst e'
      subst hp
      exact ⟨hs, t2, t3, hr, by rw [hl]; exact t5, t6⟩
    · have hp := e5 ej
      subst hp
      obtain ⟨cap, rest, b1, b2, -⟩ := t1.at'
      exact ⟨t1.kept k (fun hC => blk_ty b1 bq2 (by decide) hC) (fun hC => h.ap j i p q e' hq (fun h => ej h.symm) hC), t2, t3, hr, t5, t6⟩
  · obtain ⟨p', e', e1, -⟩ := old j p ej
    obtain ⟨r', f', f1, -⟩ := old l r el
    rw [e1, f1]
    exact h.ap j l p' r' e' f' hne
  · obtain ⟨p', e', e1, -⟩ := old j p ej
    obtain ⟨r', f', f1, f2, f3, -⟩ := old l r el
    rw [e1, f3]
    exact h.apv j l p' r' e' f'
  · obtain ⟨p', e', -, -, e3, -⟩ := old j p e
    rw [e3]
    exact (h.vt j p' e').turn k (h.apv i j q p' hq e')
/-- The cell of want's row that is stored into. -/
theorem PlS.wantAt {w0 w : World} {K : List En} {va : Value} {y : Option Addr} {n d : Nat} (h : PlS w0 K va (.slice y n d) w) (hK : 0 < K.length) :
    ∃ g rest, y = some ⟨g, 0, none⟩ ∧ n = K.length ∧ w0.heap.size ≤ g ∧ Blk w g 35 ((K.map fun q : En => q.v) ++ rest) ∧ n ≤ d ∧ d ≤ maxLen := by
  obtain ⟨g, cap, rest, e, hg, hb, h1, h2⟩ := own_blk h.want hK
  injection e with e1 e2 e3
  subst e1 e2 e3
  exact ⟨g, rest, rfl, rfl, hg, hb, h1, h2⟩
theorem PlS.allAt {w0 w : World} {K : List En} {vw : Value} {y : Option Addr} {n d : Nat} (h : PlS w0 K (.slice y n d) vw w) (hK : 0 < K.length) :
    ∃ g rest, y = some ⟨g, 0, none⟩ ∧ n = K.length ∧ w0.heap.size ≤ g ∧ Blk w g 25 ((K.map fun q : En => Value.pointer (some ⟨q.B, 0, none⟩)) ++ rest) ∧ n ≤ d ∧ d ≤ maxLen := by
  obtain ⟨g, cap, rest, e, hg, hb, h1, h2⟩ := own_blk h.all hK
  injection e with e1 e2 e3
  subst e1 e2 e3
  exact ⟨g, rest, rfl, rfl, hg, hb, h1, h2⟩
theorem map_at {α : Type} (f : En → α) {K : List En} {i : Nat} {q : En} (hq : K[i]? = some q) (rest : List α) : ((K.map f) ++ rest)[i]? = some (f q) := by
  have hi : i < K.length := (List.getElem?_eq_some_iff.1 hq).1
  rw [List.getElem?_append_left (by rw [List.length_map]; exact hi), List.getElem?_map, hq]
  rfl
/-- What a load of all[i] and of want[i] finds. -/
theorem PlS.cellAll {w0 w : World} {K : List En} {vw : Value} {y : Option Addr} {n d : Nat} (h : PlS w0 K (.slice y n d) vw w) {i : Nat} {q : En} (hq : K[i]? = some q) : ∃ g, y = some ⟨g, 0, none⟩ ∧ n = K.length ∧ n ≤ d ∧ d ≤ maxLen ∧ w.cell? ⟨g, i, none⟩ = some (.pointer (some ⟨q.B, 0, none⟩)) := by
  have hi : i < K.length := (List.getElem?_eq_some_iff.1 hq).1
  obtain ⟨g, rest, e1, e2, -, hb, h1, h2⟩ := h.allAt (by omega)
  exact ⟨g, e1, e2, h1, h2, by rw [hb.cell i]; exact map_at _ hq rest⟩
theorem PlS.cellWant {w0 w : World} {K : List En} {va : Value} {y : Option Addr} {n d : Nat} (h : PlS w0 K va (.slice y n d) w) {i : Nat} {q : En} (hq : K[i]? = some q) : ∃ g, y = some ⟨g, 0, none⟩ ∧ n = K.length ∧ n ≤ d ∧ d ≤ maxLen ∧ w.cell? ⟨g, i, none⟩ = some q.v := by
  have hi : i < K.length := (List.getElem?_eq_some_iff.1 hq).1
  obtain ⟨g, rest, e1, e2, -, hb, h1, h2⟩ := h.wantAt (by omega)
  exact ⟨g, e1, e2, h1, h2, by rw [hb.cell i]; exact map_at _ hq rest⟩

/-- A store into an own row of one-cell elements. -/
theorem own_set {w : World} {base e g n cap : Nat} {xs : List Value} (h : w.ownsRow base e 1 (.slice (some ⟨g, 0, none⟩) n cap) n xs) (i : Nat) (u : Value) : (w.setCell ⟨g, i, none⟩ u).ownsRow base e 1 (.slice (some ⟨g, 0, none⟩) n cap) n (xs.set i u) := by
  obtain ⟨hl, h2⟩ := h
  refine ⟨by rw [List.length_set]; exact hl, ?_⟩
  rcases h2 with ⟨h3, _⟩ | ⟨g', cap', cur, e1, hb, hg, hc, hm, hs, ht⟩
  · injection h3 with h3; cases h3
  · injection e1 with e1 e2 e3
    injection e1 with e1
    injection e1 with e1
    subst e1 e3
    have hB : Blk w g e cur.toList := by
      unfold Blk
      rw [hg]
    have hS := hB.set i u
    refine .inr ⟨g, cap, (cur.toList.set i u).toArray, rfl, hb, hS, hc, hm, ?_, ?_⟩
    · rw [List.size_toArray, List.length_set, Array.length_toList]; exact hs
    · rw [← ht]
      show (cur.toList.set i u).take (n * 1) = _
      rw [List.take_set]
/-- A wanted list is put in the place of another one. -/
theorem PlS.putW {w0 w : World} {K : List En} {va : Value} {g n d : Nat} (h : PlS w0 K va (.slice (some ⟨g, 0, none⟩) n d) w) {i : Nat} {q : En} (hq : K[i]? = some q) {v' : Value} {wc' : List Cel} (hr : RowsSl cl c0 18 w v' wc') (ho : AllOk wc') (hl : wc'.length = q.wc.length)
    (hv : ∀ (j : Nat) (p : En), K[j]? = some p → ∀ (blk off m cap : Nat), v' = .slice (some ⟨blk, off, none⟩) m cap → blk ≠ p.C) (ht : VtQ w0 w v') :
    PlS w0 (K.set i { q with v := v', wc := wc' }) va (.slice (some ⟨g, 0, none⟩) n d) (w.setCell ⟨g, i, none⟩ v') := by
  have hi : i < K.length := (List.getElem?_eq_some_iff.1 hq).1
  obtain ⟨g', rest, eg, en, hgb, hb, -, -⟩ := h.wantAt (by omega)
  injection eg with eg
  injection eg with eg
  subst eg en
  have k : Kp (Jb g) w (w.setCell ⟨g, i, none⟩ v') := (Kp.refl (Jb g) w).set i v'
  have hg := ht.ne hgb hb (by decide)
  have hgv : ∀ (j : Nat) (p : En), K[j]? = some p → ∀ (blk off m cap : Nat), p.v = .slice (some ⟨blk, off, none⟩) m cap → blk ≠ g := fun j p e => (h.vt j p e).ne hgb hb (by decide)
  have hmB : (K.set i { q with v := v', wc := wc' }).map (fun q : En => Value.pointer (some ⟨q.B, 0, none⟩)) = K.map fun q : En => Value.pointer (some ⟨q.B, 0, none⟩) := by
    rw [List.map_set]
    apply List.ext_getElem?
    intro j
    by_cases e : i = j
    · subst e
      rw [List.getElem?_set_self (by rw [List.length_map]; exact hi), List.getElem?_map, hq]
      rfl
    · rw [List.getElem?_set_ne e]
  have old : ∀ (j : Nat) (p : En), (K.set i { q with v := v', wc := wc' })[j]? = some p → ∃ p', K[j]? = some p' ∧ p.C = p'.C ∧ p.B = p'.B ∧ p.sc = p'.sc ∧ (i ≠ j → p = p') ∧ (i = j → p = { q with v := v', wc := wc' }) := fun j p e => by
    by_cases ej : i = j
    · subst ej
      rw [List.getElem?_set_self hi] at e
      injection e with e
      subst e
      exact ⟨q, hq, rfl, rfl, rfl, fun h => absurd rfl h, fun _ => rfl⟩
    · rw [List.getElem?_set_ne ej] at e
      exact ⟨p, e, rfl, rfl, rfl, fun _ => rfl, fun h => absurd h ej⟩
  refine ⟨h.kp.trans k (fun b hb' hC => by have hC' : b = g := hC; omega), ?_, ?_, fun j p e => ?_, fun j l p r ej el hne => ?_, fun j l p r ej el => ?_, fun j p e => ?_⟩
  · rw [hmB, List.length_set]
    refine ownsRow_same h.all (fun b hb' => ?_)
    obtain ⟨-, o, hoo, -⟩ := row_cells h.all hb'
    refine k.heap (Array.getElem?_eq_some_iff.1 hoo).1 (fun hC => ?_)
    have hC' : b = g := hC
    obtain ⟨cs', fr', e2⟩ := row_tyQ h.all hb'
    have h3 := (show w.heap[g]? = _ from hb).symm.trans (hC' ▸ e2)
    injection h3 with h3
    injection h3 with _ h3
    exact absurd h3 (by decide)
  · rw [List.length_set, List.map_set]
    exact own_set h.want i v'
  · obtain ⟨p', e', e1, e2, e3, e5, e6⟩ := old j p e
    obtain ⟨t1, t2, t3, t4, t5, t6⟩ := h.sk j p' e'
    obtain ⟨cap, rest', b1, b2, -⟩ := t1.at'
    have ts : SkAt (w.setCell ⟨g, i, none⟩ v') p'.B p'.C p'.sc := t1.kept k (fun hC => blk_ty b1 hb (by decide) hC) (fun hC => blk_ty b2 hb (by decide) hC)
    by_cases ej : i = j
    · have hp := e6 ej
      subst ej
      rw [hq] at e'
      injection e' with e'
      subst e'
      subst hp
      exact ⟨ts, t2, ho, rows_turn hr k hg, by rw [hl]; exact t5, by rw [hl]; exact t6⟩
    · have hp := e5 ej
      subst hp
      exact ⟨ts, t2, t3, rows_turn t4 k (hgv j p e'), t5, t6⟩
  · obtain ⟨p', e', e1, -⟩ := old j p ej
    obtain ⟨r', f', f1, -⟩ := old l r el
    rw [e1, f1]
    exact h.ap j l p' r' e' f' hne
  · obtain ⟨p', e', e1, -⟩ := old j p ej
    obtain ⟨r', f', f1, f2, f3, f5, f6⟩ := old l r el
    rw [e1]
    by_cases il : i = l
    · have hp := f6 il
      subst hp
      exact hv j p' e'
    · have hp := f5 il
      subst hp
      exact h.apv j l p' r e' f'
  · obtain ⟨p', e', -, -, -, e5, e6⟩ := old j p e
    by_cases ej : i = j
    · have hp := e6 ej
      subst hp
      exact ht.turn k hg
    · have hp := e5 ej
      subst hp
      exact (h.vt j p e').turn k (hgv j p e')

theorem snoc_at {K : List En} {q p : En} {i : Nat} (h : (K ++ [q])[i]? = some p) : (i < K.length ∧ K[i]? = some p) ∨ (i = K.length ∧ p = q) := by
  rcases Nat.lt_or_ge i K.length with hi | hi
  · rw [List.getElem?_append_left hi] at h
    exact .inl ⟨hi, h⟩
  · rw [List.getElem?_append_right hi] at h
    cases e : i - K.length with
    | zero =>
      rw [e] at h
      exact .inr ⟨by omega, by simpa using h.symm⟩
    | succ n => rw [e] at h; simp at h
/-- One more entry. -/
theorem PlS.push {w0 w w' : World} {K : List En} {va vw va' vw' : Value} (h : PlS w0 K va vw w) {q : En} (kp : Kp Nb w0 w')
    (ha : w'.ownsRow w0.heap.size 25 1 va' (K.length + 1) ((K.map fun q : En => Value.pointer (some ⟨q.B, 0, none⟩)) ++ [.pointer (some ⟨q.B, 0, none⟩)]))
    (hw : w'.ownsRow w0.heap.size 35 1 vw' (K.length + 1) ((K.map fun q : En => q.v) ++ [q.v]))
    (hold : ∀ (i : Nat) (p : En), K[i]? = some p → SkAt w' p.B p.C p.sc ∧ RowsSl cl c0 18 w' p.v p.wc)
    (hnew : SkAt w' q.B q.C q.sc ∧ w0.heap.size ≤ q.C ∧ AllOk q.wc ∧ RowsSl cl c0 18 w' q.v q.wc ∧ q.sc.length = q.wc.length ∧ fitB (q.wc.length : Int) = true)
    (hC : ∀ (i : Nat) (p : En), K[i]? = some p → p.C ≠ q.C)
    (hv1 : ∀ (i : Nat) (p : En), K[i]? = some p → ∀ (blk off n cap : Nat), q.v = .slice (some ⟨blk, off, none⟩) n cap → blk ≠ p.C)
    (hv2 : ∀ (i : Nat) (p : En), K[i]? = some p → ∀ (blk off n cap : Nat), p.v = .slice (some ⟨blk, off, none⟩) n cap → blk ≠ q.C)
    (hv3 : ∀ (blk off n cap : Nat), q.v = .slice (some ⟨blk, off, none⟩) n cap → blk ≠ q.C) (ht : ∀ (i : Nat) (p : En), (K ++ [q])[i]? = some p → VtQ w0 w' p.v) : PlS w0 (K ++ [q]) va' vw' w' := by
  refine ⟨kp, ?_, ?_, fun i p e => ?_, fun i j p r ei ej hne => ?_, fun i j p r ei ej => ?_, ht⟩
  · rw [List.length_append, List.map_append]; exact ha
  · rw [List.length_append, List.map_append]; exact hw
  · rcases snoc_at e with ⟨_, e⟩ | ⟨_, rfl⟩
    · obtain ⟨-, t2, t3, -, t5⟩ := h.sk i p e
      obtain ⟨o1, o2⟩ := hold i p e
      exact ⟨o1, t2, t3, o2, t5⟩
    · exact hnew
  · rcases snoc_at ei with ⟨hi, e1⟩ | ⟨hi, e1⟩ <;> rcases snoc_at ej with ⟨hj, e2⟩ | ⟨hj, e2⟩
    · exact h.ap i j p r e1 e2 hne
    · rw [e2]; exact hC i p e1
    · rw [e1]; exact fun e => hC j r e2 e.symm
    · omega
  · rcases snoc_at ei with ⟨hi, e1⟩ | ⟨hi, e1⟩ <;> rcases snoc_at ej with ⟨hj, e2⟩ | ⟨hj, e2⟩
    · exact h.apv i j p r e1 e2
    · rw [e2]; exact hv1 i p e1
    · rw [e1]; exact hv2 j r e2
    · rw [e1, e2]; exact hv3

end Go.Proofs.Yteedceepoindeaa

namespace Go.Proofs.Yteedceepoindeaa
open Go.RowKit

theorem ptr_info3 : ∃ i z, Try.prog.info? 25 = some i ∧ i.zero = some z ∧ i.size = 1 ∧ i.bytes = 8 ∧ z.cells.size = 1 := by
  have h : ((Try.prog.info? 25).map fun i => (i.zero.map fun z => z.cells.size, i.size, i.bytes)) = some (some 1, 1, 8) := by kernel_rfl
  obtain ⟨i, hi, h2⟩ := Option.map_eq_some_iff.1 h
  simp only [Prod.mk.injEq] at h2
  obtain ⟨z, hz, hz2⟩ := Option.map_eq_some_iff.1 h2.1
  exact ⟨i, z, hi, hz, h2.2.1, h2.2.2, hz2⟩
theorem lst_info3 : ∃ i z, Try.prog.info? 35 = some i ∧ i.zero = some z ∧ i.size = 1 ∧ i.bytes = 24 ∧ z.cells.size = 1 := by
  have h : ((Try.prog.info? 35).map fun i => (i.zero.map fun z => z.cells.size, i.size, i.bytes)) = some (some 1, 1, 24) := by kernel_rfl
  obtain ⟨i, hi, h2⟩ := Option.map_eq_some_iff.1 h
  simp only [Prod.mk.injEq] at h2
  obtain ⟨z, hz, hz2⟩ := Option.map_eq_some_iff.1 h2.1
  exact ⟨i, z, hi, hz, h2.2.1, h2.2.2, hz2⟩
theorem one_at0 {w : World} {B t : Nat} {u : Value} (hB : Blk w B t [u]) (j : Nat) (x : Value) (hj : [u][j]? = some x) : w.cell? (Addr.add ⟨B, 0, none⟩ j) = some x := by
  have h := hB.cell j
  rw [hj] at h
  rw [add_mid, Nat.zero_add]
  exact h
theorem app_ptr {w : World} {base ty B n : Nat} {va : Value} {xs : List Value} {u : Value} (own : w.ownsRow base 25 1 va n xs) (hB : Blk w B 25 [u]) (hu : u.oneCell' = true) (hn : n ≤ 100000) (hb : base ≤ w.heap.size) :
    ∃ v' w', (Builtin.append_ #[47, 47] ty #[va, .slice (some ⟨B, 0, none⟩) 1 1]).run Try.prog w = .ok v' w' ∧ w'.ownsRow base 25 1 v' (n + 1) (xs ++ [u]) ∧ w.grownBy w' va.ownBlock := by
  obtain ⟨i0, z0, hi, hz0, hz1, hz2, hz3⟩ := ptr_info3
  obtain ⟨v', w', h2, h3, h4, _⟩ := run_append_own (P := Try.prog) w base 47 ty 25 i0 z0 1 8 Try.underlying47 hi hz0 hz1 hz2 hz3 (by decide) va n xs own ⟨B, 0, none⟩ 1 1 [u] rfl (one_at0 hB) (fun x hx => by rw [List.mem_singleton.1 hx]; exact hu) (by unfold maxLen; omega) (by omega) hb
  exact ⟨v', w', h2, h3, h4⟩
theorem app_lst {w : World} {base ty B n : Nat} {va : Value} {xs : List Value} {u : Value} (own : w.ownsRow base 35 1 va n xs) (hB : Blk w B 35 [u]) (hu : u.oneCell' = true) (hn : n ≤ 100000) (hb : base ≤ w.heap.size) :
    ∃ v' w', (Builtin.append_ #[48, 48] ty #[va, .slice (some ⟨B, 0, none⟩) 1 1]).run Try.prog w = .ok v' w' ∧ w'.ownsRow base 35 1 v' (n + 1) (xs ++ [u]) ∧ w.grownBy w' va.ownBlock := by
  obtain ⟨i0, z0, hi, hz0, hz1, hz2, hz3⟩ := lst_info3
  obtain ⟨v', w', h2, h3, h4, _⟩ := run_append_own (P := Try.prog) w base 48 ty 35 i0 z0 1 24 Try.underlying48 hi hz0 hz1 hz2 hz3 (by decide) va n xs own ⟨B, 0, none⟩ 1 1 [u] rfl (one_at0 hB) (fun x hx => by rw [List.mem_singleton.1 hx]; exact hu) (by unfold maxLen; omega) (by omega) hb
  exact ⟨v', w', h2, h3, h4⟩

end Go.Proofs.Yteedceepoindeaa

namespace Go.Proofs.Yteedceepoindeaa
open Go.RowKit

/-- A list's block is not C. -/
def NeB (v : Value) (C : Nat) : Prop := ∀ (blk off n cap : Nat), v = .slice (some ⟨blk, off, none⟩) n cap → blk ≠ C
/-- C is no entry's block of cells, nor a wanted list's. -/
def NewC (K : List En) (C : Nat) : Prop := ∀ (i : Nat) (p : En), K[i]? = some p → p.C ≠ C ∧ NeB p.v C
/-- What stands of all, but for the two rows. -/
structure CoS (w0 : World) (K : List En) (w : World) : Prop where
  kp : Kp Nb w0 w
  sk : ∀ (i : Nat) (q : En), K[i]? = some q → SkAt w q.B q.C q.sc ∧ w0.heap.size ≤ q.C ∧ AllOk q.wc ∧ RowsSl cl c0 18 w q.v q.wc ∧ q.sc.length = q.wc.length ∧ fitB (q.wc.length : Int) = true
  ap : ∀ (i j : Nat) (p q : En), K[i]? = some p → K[j]? = some q → i ≠ j → p.C ≠ q.C
  apv : ∀ (i j : Nat) (p q : En), K[i]? = some p → K[j]? = some q → NeB q.v p.C
  vt : ∀ (i : Nat) (q : En), K[i]? = some q → VtQ w0 w q.v
abbrev ptrsQ (K : List En) : List Value := K.map fun q : En => Value.pointer (some ⟨q.B, 0, none⟩)
abbrev lstsQ (K : List En) : List Value := K.map fun q : En => q.v
theorem PlS.co {w0 w : World} {K : List En} {va vw : Value} (h : PlS w0 K va vw w) : CoS w0 K w := ⟨h.kp, h.sk, h.ap, h.apv, h.vt⟩
theorem CoS.same {w0 w w' : World} {K : List En} (h : CoS w0 K w) (kp : Kp Nb w0 w') (hs : ∀ (B t : Nat) (xs : List Value), Blk w B t xs → t = 77 ∨ t = 41 → w'.heap[B]? = w.heap[B]?) : CoS w0 K w' := by
  have bl : ∀ {B t : Nat} {xs : List Value}, Blk w B t xs → t = 77 ∨ t = 41 → Blk w' B t xs := fun hb ht => (hs _ _ _ hb ht).trans hb
  refine ⟨kp, fun i q e => ?_, h.ap, h.apv, fun i q e blk off n cap ev => ?_⟩
  · obtain ⟨h1, h2, h3, h4, h5⟩ := h.sk i q e
    obtain ⟨cap, rest, b1, b2, b3⟩ := h1.at'
    refine ⟨⟨h1.ok, ⟨cap, rest, bl b1 (.inl rfl), bl b2 (.inr rfl), b3⟩, h1.pos, h1.ne⟩, h2, h3, ?_, h5⟩
    rcases h4 with h4 | ⟨blk, off, cap, e1, hc, hm, hr⟩
    · exact .inl h4
    · refine .inr ⟨blk, off, cap, e1, hc, hm, fun i hi j u hu => ?_⟩
      rcases h.vt _ q e _ _ _ _ e1 with hlt | ⟨xs, hb⟩
      · exact (World.cell?_of_block (w := w) (w' := w') (a := ⟨blk, _, none⟩) ((kp.heap hlt (fun h => h)).trans (h.kp.heap hlt (fun h => h)).symm)).trans (hr i hi j u hu)
      · exact (World.cell?_of_block (w := w) (w' := w') (a := ⟨blk, _, none⟩) (hs _ _ _ hb (.inr rfl))).trans (hr i hi j u hu)
  · rcases h.vt _ q e _ _ _ _ ev with hlt | ⟨xs, hb⟩
    · exact .inl hlt
    · exact .inr ⟨xs, bl hb (.inr rfl)⟩
theorem CoS.kept {w0 w w' : World} {K : List En} (h : CoS w0 K w) (k : Kp Nb w w') : CoS w0 K w' := h.same (h.kp.trans k (fun _ _ h => h)) (fun _ _ _ hb _ => k.heap hb.lt (fun h => h))
theorem kp_grownU {w0 w w' : World} {base e size n : Nat} {v : Value} {xs : List Value} (h : w.ownsRow base e size v n xs) (g : w.grownBy w' v.ownBlock) (hb : base = w0.heap.size) (k : Kp Nb w0 w) : Kp Nb w0 w' :=
  k.grown g (fun b hb' hlt => by have := (row_cells h hb').1; omega)
theorem grown_heapU {w w' : World} {base e size n : Nat} {v : Value} {xs : List Value} (h : w.ownsRow base e size v n xs) (g : w.grownBy w' v.ownBlock) {B t : Nat} {cs : List Value} (hb : Blk w B t cs) (ht : t ≠ e) : w'.heap[B]? = w.heap[B]? :=
  g.block B hb.lt (fun e' => by
    obtain ⟨cs', fr', e2⟩ := row_tyQ h e'.symm
    have h3 := (show w.heap[B]? = _ from hb).symm.trans e2
    injection h3 with h3
    injection h3 with _ h3
    exact ht h3)
theorem grown_blkU {w w' : World} {base e size n : Nat} {v : Value} {xs : List Value} (h : w.ownsRow base e size v n xs) (g : w.grownBy w' v.ownBlock) {B t : Nat} {cs : List Value} (hb : Blk w B t cs) (ht : t ≠ e) : Blk w' B t cs := (grown_heapU h g hb ht).trans hb
theorem grown_rowU {w w' : World} {base e size n : Nat} {v : Value} {xs : List Value} (h : w.ownsRow base e size v n xs) (g : w.grownBy w' v.ownBlock) {base2 e2 size2 n2 : Nat} {v2 : Value} {xs2 : List Value} (h2 : w.ownsRow base2 e2 size2 v2 n2 xs2) (ht : e2 ≠ e) : w'.ownsRow base2 e2 size2 v2 n2 xs2 :=
  ownsRow_same h2 (fun b hb => by
    obtain ⟨-, o, hoo, -⟩ := row_cells h2 hb
    refine g.block b (Array.getElem?_eq_some_iff.1 hoo).1 (fun e' => ?_)
    obtain ⟨cs1, fr1, e1⟩ := row_tyQ h2 hb
    obtain ⟨cs2, fr2, e2⟩ := row_tyQ h e'.symm
    have h3 := e1.symm.trans e2
    injection h3 with h3
    injection h3 with _ h3
    exact ht h3)
theorem CoS.grown {w0 w w' : World} {K : List En} (h : CoS w0 K w) {e size n : Nat} {v : Value} {xs : List Value} (r : w.ownsRow w0.heap.size e size v n xs) (g : w.grownBy w' v.ownBlock) (h1 : 77 ≠ e) (h2 : 41 ≠ e) : CoS w0 K w' :=
  h.same (kp_grownU r g rfl h.kp) (fun _ _ _ hb ht => grown_heapU r g hb (by rcases ht with rfl | rfl <;> assumption))
theorem SkAt.grownU {w w' : World} {base e size n : Nat} {v : Value} {xs : List Value} (r : w.ownsRow base e size v n xs) (g : w.grownBy w' v.ownBlock) (h1 : 77 ≠ e) (h2 : 41 ≠ e) {B C : Nat} {cs : List Cel} (h : SkAt w B C cs) : SkAt w' B C cs := by
  obtain ⟨cap, rest, b1, b2, b3⟩ := h.at'
  exact ⟨h.ok, ⟨cap, rest, grown_blkU r g b1 h1, grown_blkU r g b2 h2, b3⟩, h.pos, h.ne⟩
theorem rows_grownU {w0 w w' : World} {e size n : Nat} {v : Value} {xs : List Value} (k : Kp Nb w0 w) (r : w.ownsRow w0.heap.size e size v n xs) (g : w.grownBy w' v.ownBlock) (h2 : 41 ≠ e) {u : Value} {cs : List Cel} (hv : VtQ w0 w u) (h : RowsSl cl c0 18 w u cs) : RowsSl cl c0 18 w' u cs ∧ VtQ w0 w' u := by
  refine ⟨?_, fun blk off n cap ev => ?_⟩
  · rcases h with h | ⟨blk, off, cap, e1, hc, hm, hr⟩
    · exact .inl h
    · refine .inr ⟨blk, off, cap, e1, hc, hm, fun i hi j u hu => ?_⟩
      rcases hv _ _ _ _ e1 with hlt | ⟨xs, hb⟩
      · exact (World.cell?_of_block (w := w) (w' := w') (a := ⟨blk, _, none⟩) (((kp_grownU r g rfl k).heap hlt (fun h => h)).trans (k.heap hlt (fun h => h)).symm)).trans (hr i hi j u hu)
      · exact (World.cell?_of_block (w := w) (w' := w') (a := ⟨blk, _, none⟩) (grown_heapU r g hb h2)).trans (hr i hi j u hu)
  · rcases hv _ _ _ _ ev with hlt | ⟨xs, hb⟩
    · exact .inl hlt
    · exact .inr ⟨xs, grown_blkU r g hb h2⟩

abbrev PtrT : Nat := 25
abbrev LstT : Nat := 35
/-- What stands while one sketch (at B, C) and one list (v) are made and appended: b0 the sketch is there, b1 its row, b2 it is appended; b3 the list is there, b4 its row, b5 it is appended. -/
structure S2 (w0 w1 : World) (K : List En) (sc wc : List Cel) (va vw : Value) (b0 b1 b2 b3 b4 b5 : Bool) (B C : Nat) (r1 a1 v r2 a2 : Value) (w : World) : Prop where
  co : CoS w0 K w
  st : ∀ (D t : Nat) (xs : List Value), Blk w1 D t xs → t ≠ PtrT → t ≠ LstT → Blk w D t xs
  cl' : b0 = true → SkAt w B C sc ∧ w0.heap.size ≤ C ∧ NewC K C
  m1 : b1 = true → b2 = false → ∃ b, r1 = .slice (some ⟨b, 0, none⟩) 1 1 ∧ Blk w b PtrT [.pointer (some ⟨B, 0, none⟩)]
  p0 : b2 = false → w.ownsRow w0.heap.size PtrT 1 va K.length (ptrsQ K)
  p1 : b2 = true → w.ownsRow w0.heap.size PtrT 1 a1 (K.length + 1) (ptrsQ K ++ [.pointer (some ⟨B, 0, none⟩)])
  nv : b3 = true → RowsSl cl c0 18 w v wc ∧ VtQ w0 w v ∧ ∀ (i : Nat) (p : En), K[i]? = some p → NeB v p.C
  nc : b0 = true → b3 = true → NeB v C
  m2 : b4 = true → b5 = false → ∃ b, r2 = .slice (some ⟨b, 0, none⟩) 1 1 ∧ Blk w b LstT [v]
  l0 : b5 = false → w.ownsRow w0.heap.size LstT 1 vw K.length (lstsQ K)
  l1 : b5 = true → w.ownsRow w0.heap.size LstT 1 a2 (K.length + 1) (lstsQ K ++ [v])
section
variable {w0 w1 w w' : World} {K : List En} {sc wc : List Cel} {va vw : Value} {b0 b1 b2 b3 b4 b5 : Bool} {B C : Nat} {r1 a1 v r2 a2 : Value}
theorem S2.keptN (h : S2 w0 w1 K sc wc va vw b0 b1 b2 b3 b4 b5 B C r1 a1 v r2 a2 w) (k : Kp Nb w w') : S2 w0 w1 K sc wc va vw b0 b1 b2 b3 b4 b5 B C r1 a1 v r2 a2 w' :=
  ⟨h.co.kept k, fun D t xs e f g => (h.st D t xs e f g).kept k (fun h => h), fun e => by obtain ⟨x, y⟩ := h.cl' e; exact ⟨x.kept k (fun h => h) (fun h => h), y⟩,
   fun e f => by obtain ⟨b, x, y⟩ := h.m1 e f; exact ⟨b, x, y.kept k (fun h => h)⟩, fun e => ownsRow_kp (h.p0 e) k, fun e => ownsRow_kp (h.p1 e) k,
   fun e => by obtain ⟨x, y, z⟩ := h.nv e; exact ⟨x.kept k, y.kept k, z⟩, h.nc, fun e f => by obtain ⟨b, x, y⟩ := h.m2 e f; exact ⟨b, x, y.kept k (fun h => h)⟩, fun e => ownsRow_kp (h.l0 e) k, fun e => ownsRow_kp (h.l1 e) k⟩
/-- The sketch is there. -/
theorem S2.sketch (h : S2 w0 w1 K sc wc va vw false b1 b2 b3 b4 b5 B C r1 a1 v r2 a2 w) (hb1 : b1 = false) (hb2 : b2 = false) {B' C' : Nat} (k : Kp Nb w w') (hs : SkAt w' B' C' sc) (hC : w.heap.size ≤ C') (hv : b3 = true → NeB v C') : S2 w0 w1 K sc wc va vw true b1 b2 b3 b4 b5 B' C' r1 a1 v r2 a2 w' := by
  have h' := h.keptN k
  have hN : NewC K C' := fun i p e => by
    obtain ⟨t1, t2, t3, t4, t5, t6⟩ := h.co.sk i p e
    refine ⟨?_, fun blk off n cap ev => ?_⟩
    · have := t1.lt; omega
    · rcases h.co.vt i p e _ _ _ _ ev with hlt | ⟨xs, hb⟩
      · have := h.co.kp.size; omega
      · have := hb.lt; omega
  exact ⟨h'.co, h'.st, fun _ => ⟨hs, by have := h.co.kp.size; omega, hN⟩, (fun e _ => by rw [hb1] at e; cases e), h'.p0, (fun e => by rw [hb2] at e; cases e), h'.nv, fun _ e => hv e, h'.m2, h'.l0, h'.l1⟩
/-- Its row is there. -/
theorem S2.make1 (h : S2 w0 w1 K sc wc va vw b0 false b2 b3 b4 b5 B C r1 a1 v r2 a2 w) : S2 w0 w1 K sc wc va vw b0 true b2 b3 b4 b5 B C (.slice (some ⟨w.heap.size, 0, none⟩) 1 1) a1 v r2 a2 (w.alloc (.cells #[.pointer (some ⟨B, 0, none⟩)] PtrT (0, 0))) := by
  have h' := h.keptN ((Kp.refl Nb w).alloc (.cells #[.pointer (some ⟨B, 0, none⟩)] PtrT (0, 0)))
  exact ⟨h'.co, h'.st, h'.cl', fun _ _ => ⟨_, rfl, Blk.new w _ [_]⟩, h'.p0, h'.p1, h'.nv, h'.nc, h'.m2, h'.l0, h'.l1⟩
theorem S2.make2 (h : S2 w0 w1 K sc wc va vw b0 b1 b2 b3 false b5 B C r1 a1 v r2 a2 w) : S2 w0 w1 K sc wc va vw b0 b1 b2 b3 true b5 B C r1 a1 v (.slice (some ⟨w.heap.size, 0, none⟩) 1 1) a2 (w.alloc (.cells #[v] LstT (0, 0))) := by
  have h' := h.keptN ((Kp.refl Nb w).alloc (.cells #[v] LstT (0, 0)))
  exact ⟨h'.co, h'.st, h'.cl', h'.m1, h'.p0, h'.p1, h'.nv, h'.nc, fun _ _ => ⟨_, rfl, Blk.new w _ [_]⟩, h'.l0, h'.l1⟩
/-- The list is there. -/
theorem S2.list (h : S2 w0 w1 K sc wc va vw b0 b1 b2 false b4 b5 B C r1 a1 v r2 a2 w) (hb4 : b4 = false) (hb5 : b5 = false) {v' : Value} (k : Kp Nb w w') (hr : w'.ownsRow w.heap.size 41 18 v' wc.length (rws wc)) (hok : AllOk wc) (hpos : 0 < wc.length) : S2 w0 w1 K sc wc va vw b0 b1 b2 true b4 b5 B C r1 a1 v' r2 a2 w' := by
  have h' := h.keptN k
  obtain ⟨g, cap, rest, rfl, hg, hb, -, -⟩ := own_blk hr hpos
  have hne : ∀ C', C' < w.heap.size → NeB (.slice (some ⟨g, 0, none⟩) wc.length cap) C' := fun C' hC blk off n cap e => by
    injection e with e
    injection e with e
    injection e with e
    omega
  refine ⟨h'.co, h'.st, h'.cl', h'.m1, h'.p0, h'.p1, fun _ => ⟨rows_own hr hok, fun blk off n cap e => ?_, fun i p e => hne _ (h.co.sk i p e).1.lt.2⟩, fun e _ => hne _ (h.cl' e).1.lt.2, (fun e _ => by rw [hb4] at e; cases e), h'.l0, (fun e => by rw [hb5] at e; cases e)⟩
  injection e with e
  injection e with e
  injection e with e
  subst e
  exact .inr ⟨_, hb⟩
/-- The sketch is appended. -/
theorem S2.put1 (h : S2 w0 w1 K sc wc va vw b0 b1 false b3 b4 b5 B C r1 a1 v r2 a2 w) {v' : Value} (ho : w'.ownsRow w0.heap.size PtrT 1 v' (K.length + 1) (ptrsQ K ++ [.pointer (some ⟨B, 0, none⟩)])) (hg : w.grownBy w' va.ownBlock) :
    S2 w0 w1 K sc wc va vw b0 b1 true b3 b4 b5 B C r1 v' v r2 a2 w' := by
  have r := h.p0 rfl
  refine ⟨h.co.grown r hg (by decide) (by decide), fun D t xs e f g => grown_blkU r hg (h.st D t xs e f g) f, fun e => by obtain ⟨x, y⟩ := h.cl' e; exact ⟨x.grownU r hg (by decide) (by decide), y⟩, (fun _ e => by cases e), (fun e => by cases e), fun _ => ho,
    fun e => by obtain ⟨x, y, z⟩ := h.nv e; obtain ⟨x', y'⟩ := rows_grownU h.co.kp r hg (by decide) y x; exact ⟨x', y', z⟩, h.nc, fun e f => by obtain ⟨b, x, y⟩ := h.m2 e f; exact ⟨b, x, grown_blkU r hg y (by decide)⟩, fun e => grown_rowU r hg (h.l0 e) (by decide), fun e => grown_rowU r hg (h.l1 e) (by decide)⟩
/-- The list is appended. -/
theorem S2.put2 (h : S2 w0 w1 K sc wc va vw b0 b1 b2 b3 b4 false B C r1 a1 v r2 a2 w) {v' : Value} (ho : w'.ownsRow w0.heap.size LstT 1 v' (K.length + 1) (lstsQ K ++ [v])) (hg : w.grownBy w' vw.ownBlock) :
    S2 w0 w1 K sc wc va vw b0 b1 b2 b3 b4 true B C r1 a1 v r2 v' w' := by
  have r := h.l0 rfl
  refine ⟨h.co.grown r hg (by decide) (by decide), fun D t xs e f g => grown_blkU r hg (h.st D t xs e f g) g, fun e => by obtain ⟨x, y⟩ := h.cl' e; exact ⟨x.grownU r hg (by decide) (by decide), y⟩, fun e f => by obtain ⟨b, x, y⟩ := h.m1 e f; exact ⟨b, x, grown_blkU r hg y (by decide)⟩, fun e => grown_rowU r hg (h.p0 e) (by decide), fun e => grown_rowU r hg (h.p1 e) (by decide),
    fun e => by obtain ⟨x, y, z⟩ := h.nv e; obtain ⟨x', y'⟩ := rows_grownU h.co.kp r hg (by decide) y x; exact ⟨x', y', z⟩, h.nc, (fun _ e => by cases e), (fun e => by cases e), fun _ => ho⟩
theorem S2.fin (h : S2 w0 w1 K sc wc va vw true b1 true true b4 true B C r1 a1 v r2 a2 w) (ho : AllOk wc) (hl : sc.length = wc.length) (hf : fitB (wc.length : Int) = true) : PlS w0 (K ++ [⟨B, C, sc, v, wc⟩]) a1 a2 w := by
  obtain ⟨c1, c2, c3⟩ := h.cl' rfl
  obtain ⟨v1, v2, v3⟩ := h.nv rfl
  have P : ∀ (i : Nat) (p : En), K[i]? = some p → SkAt w p.B p.C p.sc ∧ RowsSl cl c0 18 w p.v p.wc := fun i p e => by
    obtain ⟨t1, t2, t3, t4, t5, t6⟩ := h.co.sk i p e
    exact ⟨t1, t4⟩
  refine ⟨h.co.kp, ?_, ?_, fun i p e => ?_, fun i j p r ei ej hne => ?_, fun i j p r ei ej => ?_, fun i p e => ?_⟩
  · rw [List.length_append, List.map_append]; exact h.p1 rfl
  · rw [List.length_append, List.map_append]; exact h.l1 rfl
  · rcases snoc_at e with ⟨_, e⟩ | ⟨_, rfl⟩
    · exact h.co.sk i p e
    · exact ⟨c1, c2, ho, v1, hl, hf⟩
  · rcases snoc_at ei with ⟨hi, e1⟩ | ⟨hi, e1⟩ <;> rcases snoc_at ej with ⟨hj, e2⟩ | ⟨hj, e2⟩
    · exact h.co.ap i j p r e1 e2 hne
    · rw [e2]; exact (c3 i p e1).1
    · rw [e1]; exact fun e => (c3 j r e2).1 e.symm
    · omega
  · rcases snoc_at ei with ⟨hi, e1⟩ | ⟨hi, e1⟩ <;> rcases snoc_at ej with ⟨hj, e2⟩ | ⟨hj, e2⟩
    · exact h.co.apv i j p r e1 e2
    · rw [e2]; exact v3 i p e1
    · rw [e1]; exact (c3 j r e2).2
    · rw [e1, e2]; exact h.nc rfl rfl
  · rcases snoc_at e with ⟨_, e⟩ | ⟨_, rfl⟩
    · exact h.co.vt i p e
    · exact v2
end
theorem PlS.s2 {w0 w : World} {K : List En} {va vw : Value} (h : PlS w0 K va vw w) (sc wc : List Cel) (r1 a1 v r2 a2 : Value) (b0 b3 : Bool) (B C : Nat) (hc : b0 = true → SkAt w B C sc ∧ w0.heap.size ≤ C ∧ NewC K C) (hv : b3 = true → RowsSl cl c0 18 w v wc ∧ VtQ w0 w v ∧ ∀ (i : Nat) (p : En), K[i]? = some p → NeB v p.C) (hn : b0 = true → b3 = true → NeB v C) : S2 w0 w K sc wc va vw b0 false false b3 false false B C r1 a1 v r2 a2 w.drew :=
  S2.keptN (w := w) ⟨h.co, fun _ _ _ e _ _ => e, hc, (fun e => by cases e), fun _ => h.all, (fun e => by cases e), hv, hn, (fun e => by cases e), fun _ => h.want, (fun e => by cases e)⟩ (Kp.refl Nb w).drew
theorem make_ptr1 (B : Nat) (w : World) : (Instr.buildSlice 47 1 #[(0, .pointer (some ⟨B, 0, none⟩))]).run Try.prog w = .ok (.slice (some ⟨w.heap.size, 0, none⟩) 1 1) (w.alloc (.cells #[.pointer (some ⟨B, 0, none⟩)] PtrT (0, 0))) := by go_simp
theorem make_lst1 (y : Option Addr) (n d : Nat) (w : World) : (Instr.buildSlice 48 1 #[(0, .slice y n d)]).run Try.prog w = .ok (.slice (some ⟨w.heap.size, 0, none⟩) 1 1) (w.alloc (.cells #[.slice y n d] LstT (0, 0))) := by go_simp
theorem make_ptr2 (B B' : Nat) (w : World) : (Instr.buildSlice 47 2 #[(0, .pointer (some ⟨B, 0, none⟩)), (1, .pointer (some ⟨B', 0, none⟩))]).run Try.prog w = .ok (.slice (some ⟨w.heap.size, 0, none⟩) 2 2) (w.alloc (.cells #[.pointer (some ⟨B, 0, none⟩), .pointer (some ⟨B', 0, none⟩)] PtrT (0, 0))) := by go_simp
theorem make_lst2 (y y' : Option Addr) (n d n' d' : Nat) (w : World) : (Instr.buildSlice 48 2 #[(0, .slice y n d), (1, .slice y' n' d')]).run Try.prog w = .ok (.slice (some ⟨w.heap.size, 0, none⟩) 2 2) (w.alloc (.cells #[.slice y n d, .slice y' n' d'] LstT (0, 0))) := by go_simp
theorem own_made2 {w : World} {base e : Nat} (a b : Value) (hb : base ≤ w.heap.size) : (w.alloc (.cells #[a, b] e (0, 0))).ownsRow base e 1 (.slice (some ⟨w.heap.size, 0, none⟩) 2 2) 2 [a, b] :=
  ⟨rfl, .inr ⟨w.heap.size, 2, #[a, b], rfl, hb, heap_alloc_new w _, Nat.le_refl _, by decide, rfl, rfl⟩⟩

end Go.Proofs.Yteedceepoindeaa
