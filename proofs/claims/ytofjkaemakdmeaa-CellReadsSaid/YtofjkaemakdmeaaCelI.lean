/-
  Layer 10: the walk of CellHolds: whatever the cells, the mark and the marks, it is true. Conditions: cells and marks are what their kinds hold. (Printed by gen_holds.py.)
-/
import Derived.Test.YtofjkaemakdmeaaCelX
import Derived.Test.YtofjkaemakdmeaaVars
namespace Go.Proofs.Ytofjkaemakdmeaa
open Go.RowKit

/-- A slice of marks. -/
def markAt (ms : List (List Int)) (i : Nat) : List Int := ms[i]?.getD (List.replicate 16 0)
def MkSl (w : World) (v : Value) (ms : List (List Int)) : Prop :=
  (∀ i, MarkOk (markAt ms i)) ∧ (((∃ a cap, v = .slice a 0 cap) ∧ ms = []) ∨ ∃ blk off cap, v = .slice (some ⟨blk, off, none⟩) ms.length cap ∧ ms.length ≤ cap ∧ cap ≤ maxLen ∧
    ∀ i, i < ms.length → w.rangeAt blk (off + i * 16) (markL (markAt ms i)))
theorem MkSl.kept {w w' : World} {v : Value} {ms : List (List Int)} (h : MkSl w v ms) (k : Kp Nb w w') : MkSl w' v ms := by
  refine ⟨h.1, ?_⟩
  rcases h.2 with h | ⟨blk, off, cap, rfl, hc, hm, hr⟩
  · exact .inl h
  · exact .inr ⟨blk, off, cap, rfl, hc, hm, fun i hi => range_kept (hr i hi) k⟩
theorem MkSl.shape {w : World} {v : Value} {ms : List (List Int)} (h : MkSl w v ms) : ∃ y d, v = .slice y ms.length d := by
  rcases h.2 with ⟨⟨a, c, rfl⟩, rfl⟩ | ⟨blk, off, cap, rfl, _⟩
  · exact ⟨a, c, rfl⟩
  · exact ⟨_, _, rfl⟩

abbrev cl (x : Cel) : List Value := cellL x.1 x.2.1 x.2.2
def caseL (a b c : Cel) (m : List Int) (vl vm : Value) : List Value := cl a ++ (cl b ++ (cl c ++ (markL m ++ [vl, vm])))
abbrev caseV (a b c : Cel) (m : List Int) (vl vm : Value) : Value := .agg (caseL a b c m vl vm).toArray
theorem cl_length {x : Cel} (h : CelOk x) : (cl x).length = 18 := cellL_length _ _ _ h.mark.len
section
variable {w : World} {B t : Nat} {a b c : Cel} {m : List Int} {vl vm : Value}
theorem app_left {α : Type} {u v : List α} : ∀ j, j < u.length → (u ++ v)[0 + j]? = u[j]? := fun j hj => by rw [Nat.zero_add]; exact List.getElem?_append_left hj
theorem app_right {α : Type} {u v x : List α} {n k : Nat} (hn : u.length = n) (h : ∀ j, j < x.length → v[k + j]? = x[j]?) : ∀ j, j < x.length → (u ++ v)[n + k + j]? = x[j]? := fun j hj => by
  rw [List.getElem?_append_right (by omega), show n + k + j - u.length = k + j from by omega]; exact h j hj
theorem case_a (h : Blk w B t (caseL a b c m vl vm)) : w.rangeAt B 0 (cl a) := h.range 0 _ app_left
theorem case_b (ha : CelOk a) (h : Blk w B t (caseL a b c m vl vm)) : w.rangeAt B 18 (cl b) := h.range 18 _ (app_right (k := 0) (cl_length ha) app_left)
theorem case_c (ha : CelOk a) (hb : CelOk b) (h : Blk w B t (caseL a b c m vl vm)) : w.rangeAt B 36 (cl c) := h.range 36 _ (app_right (k := 18) (cl_length ha) (app_right (k := 0) (cl_length hb) app_left))
theorem case_m (ha : CelOk a) (hb : CelOk b) (hc : CelOk c) (h : Blk w B t (caseL a b c m vl vm)) : w.rangeAt B 54 (markL m) :=
  h.range 54 _ (app_right (k := 36) (cl_length ha) (app_right (k := 18) (cl_length hb) (app_right (k := 0) (cl_length hc) app_left)))
theorem case_s (ha : CelOk a) (hb : CelOk b) (hc : CelOk c) (hm : MarkOk m) (h : Blk w B t (caseL a b c m vl vm)) : w.cell? ⟨B, 71, none⟩ = some vm := by
  have hr : w.rangeAt B 70 [vl, vm] := h.range 70 _ (app_right (k := 52) (cl_length ha) (app_right (k := 34) (cl_length hb) (app_right (k := 16) (cl_length hc) (app_right (n := 16) (k := 0) (by rw [markL_length, hm.len]) (fun j hj => by rw [Nat.zero_add])))))
  exact hr 1 vm rfl
end
theorem load_cell {w : World} {B o : Nat} {x : Cel} (hx : CelOk x) (h : w.rangeAt B o (cl x)) : (Instr.loadAt 26 (.pointer (some ⟨B, o, none⟩))).run Try.prog w = .ok (cv x) w := by
  obtain ⟨d, h1, h2⟩ := cell_under
  exact run_loadAt_mid w B o 26 (cl x) d h h1 h2 (cell_infoL _ _ _ hx.mark.len)
theorem load_mark {w : World} {B o : Nat} {m : List Int} (hm : MarkOk m) (h : w.rangeAt B o (markL m)) : (Instr.loadAt 23 (.pointer (some ⟨B, o, none⟩))).run Try.prog w = .ok (markV m) w :=
  run_loadAt_mid w B o 23 (markL m) _ h under_mark rfl (mark_infoL m hm.len)
theorem run_mark_eqD (d : Nat) (zs ys : List Int) (hz : zs.length = 16) (hy : ys.length = 16) (w : World) :
    (Op.equalIn (d + 2) 23 (bytesVal zs) (bytesVal ys)).run Try.prog w = .ok (decide (zs = ys)) w := by
  obtain ⟨i, hi⟩ := info_u8
  unfold bytesVal
  rw [run_equalIn_array w (d + 1) _ _ under_mark hi, cells_u8, eqItems_bytes d zs ys 16 hz hy w _ (fun i h => List.mem_range.1 h), all_range zs ys 16 hz hy]
theorem run_mark_same (d : Nat) (zs : List Int) (hz : zs.length = 16) (w : World) : (Op.equalIn (d + 2) 23 (bytesVal zs) (bytesVal zs)).run Try.prog w = .ok true w := by
  have e := run_mark_eqD d zs zs hz hz w
  rw [decide_eq_true rfl] at e
  exact e
set_option maxRecDepth 10000 in
theorem eq_cell (x : Cel) (hx : CelOk x) (w : World) : Sem.run Try.prog (Op.equalIn 10000 26 (cv x) (cv x)) w = .ok true w := by
  obtain ⟨c, m, k⟩ := x
  obtain ⟨m0, m1, m2, m3, m4, m5, m6, m7, m8, m9, m10, m11, m12, m13, m14, m15, rfl⟩ := sixteen m hx.mark.len
  clear hx
  have e : Sem.run Try.prog (Op.equalIn 9999 23 (.agg #[.int .u8 m0, .int .u8 m1, .int .u8 m2, .int .u8 m3, .int .u8 m4, .int .u8 m5, .int .u8 m6, .int .u8 m7, .int .u8 m8, .int .u8 m9, .int .u8 m10, .int .u8 m11, .int .u8 m12, .int .u8 m13, .int .u8 m14, .int .u8 m15]) (.agg #[.int .u8 m0, .int .u8 m1, .int .u8 m2, .int .u8 m3, .int .u8 m4, .int .u8 m5, .int .u8 m6, .int .u8 m7, .int .u8 m8, .int .u8 m9, .int .u8 m10, .int .u8 m11, .int .u8 m12, .int .u8 m13, .int .u8 m14, .int .u8 m15])) w = .ok true w := run_mark_same 9997 [m0, m1, m2, m3, m4, m5, m6, m7, m8, m9, m10, m11, m12, m13, m14, m15] rfl w
  dsimp only [cv, cellV, cellL, markL, List.map_cons, List.map_nil, List.cons_append, List.nil_append]
  go_simp
theorem store_cell {w : World} {B : Nat} {x : Cel} (hx : CelOk x) (ht : w.there B 0 (cl x).length) : (Instr.storeAt 26 (.pointer (some ⟨B, 0, none⟩)) (cv x)).run Try.prog w = .ok () (w.setCells B 0 (cl x)) :=
  run_storeAt_mid w B 0 26 (cl x).toArray (by simpa using ht) (by rw [List.size_toArray]; exact cell_infoL _ _ _ hx.mark.len) (all_oneCell_toArray (cellL_one _ _ _))
theorem store_mark {w : World} {B : Nat} {m : List Int} (hm : MarkOk m) (ht : w.there B 0 (markL m).length) : (Instr.storeAt 23 (.pointer (some ⟨B, 0, none⟩)) (markV m)).run Try.prog w = .ok () (w.setCells B 0 (markL m)) :=
  run_storeAt_mid w B 0 23 (markL m).toArray (by simpa using ht) (by rw [List.size_toArray]; exact mark_infoL _ hm.len) (all_oneCell_toArray (markL_one _))

def holdT : Nat → TypeId | 3 => 23 | _ => 26
def holdZ : Nat → List Value | 3 => markL (List.replicate 16 0) | _ => cl c0
def holdV (a b c : Cel) (m : List Int) : Nat → List Value | 0 => cl a | 1 => cl b | 2 => cl c | _ => markL m
def upC (m : List Int) (ms : List (List Int)) : Nat → Cel
  | 0 => ofC m
  | k + 1 => addC (upC m ms k) (ofC (markAt ms k))
def downC (m : List Int) (ms : List (List Int)) : Nat → Cel
  | 0 => upC m ms ms.length
  | k + 1 => subC (downC m ms k) (ofC (markAt ms (ms.length - 1 - k)))
theorem upC_ok {m : List Int} {ms : List (List Int)} (hm : MarkOk m) : ∀ k, CelOk (upC m ms k)
  | 0 => ofC_ok hm
  | _ + 1 => addC_ok
theorem downC_eq {m : List Int} {ms : List (List Int)} (hm : MarkOk m) (hs : ∀ i, MarkOk (markAt ms i)) : ∀ k, k ≤ ms.length → downC m ms k = upC m ms (ms.length - k)
  | 0, _ => rfl
  | k + 1, h => by
    have e := downC_eq hm hs k (by omega)
    show subC (downC m ms k) _ = _
    rw [e, show ms.length - k = (ms.length - (k + 1)) + 1 from by omega, show ms.length - 1 - k = ms.length - (k + 1) from by omega]
    exact subC_back (upC_ok hm _) (ofC_ok (hs _))
theorem cof_c (m : List Int) (w : World) (hm : MarkOk m) : Calls Try.prog 12 #[markV m] w fun e w' => e = .returned (cv (ofC m)) ∧ Kp Nb w w' := cof_any m w hm
def HoldR (w4 : World) (B : Nat) (X : Nat → Cel) (n : Nat) (i : Value) (wr : World) : Prop := ∃ k : Nat, k ≤ n ∧ i = .int .i64 k ∧ Hid (Blk wr B 26 (cl (X k))) ∧ Hid (Kp (Jb B) w4 wr)
theorem cell_there {w : World} {B : Nat} {zs : List Value} {x : Cel} (h : Blk w B 26 zs) (hl : zs.length = 18) (hx : CelOk x) : w.there B 0 (cl x).toArray.size := by
  rw [List.size_toArray, cl_length hx]; exact h.there 0 18 (by omega)
theorem cell_sized {x : Cel} (hx : CelOk x) : (Try.prog.info? 26).map (·.size) = some (cl x).toArray.size := by rw [List.size_toArray, cl_length hx]; exact cell_info
theorem cv_end {R : Nat} {w' : World} {x : Cel} {zs : List Value} {o : Oper} {ad v : Operand} {a : Act} (hx : CelOk x) (hz : Blk w' R 26 zs) (hl : zs.length = 18)
    (ho : o.op = .store 26 ad v) (ha : a.eval ad = .pointer (some ⟨R, 0, none⟩)) (hv : a.eval v = cv x) {Q : Exit → Act → World → Prop}
    (h : Q .normal (a.put o.dst undef) (w'.setCells R 0 (cl x))) : Oper.wp Try.prog o a w' (fun a w => Q .normal a w) Q :=
  wp_store_mid 26 ad v ho R 0 (cl x).toArray ha hv (cell_there hz hl hx) (cell_sized hx) (all_oneCell_toArray (cellL_one _ _ _)) h
theorem mark_there {w : World} {B : Nat} {zs : List Value} {m : List Int} (h : Blk w B 23 zs) (hl : zs.length = 16) (hm : MarkOk m) : w.there B 0 (markL m).toArray.size := by
  rw [List.size_toArray, markL_length, hm.len]; exact h.there 0 16 (by omega)
theorem mark_sized {m : List Int} (hm : MarkOk m) : (Try.prog.info? 23).map (·.size) = some (markL m).toArray.size := by rw [List.size_toArray, markL_length, hm.len]; exact mark_info

set_option maxRecDepth 100000 in
set_option maxHeartbeats 4000000 in
theorem cholds_any (a b c : Cel) (m : List Int) (vl vm : Value) (ms : List (List Int)) (w : World) (ha : CelOk a) (hb : CelOk b) (hc : CelOk c) (hm : MarkOk m) (hs : MkSl w vm ms) :
    Calls Try.prog 5 #[caseV a b c m vl vm] w fun e w' => e = .returned (.bool true) ∧ Kp Nb w w' := by
  obtain ⟨y, d, rfl⟩ := hs.shape
  have HA := hid ha
  have HB := hid hb
  have HC := hid hc
  have HM := hid hm
  have HS := hid hs
  clear ha hb hc hm hs
  obtain ⟨cs, hcs⟩ : ∃ cs, cs = caseL a b c m vl (.slice y ms.length d) := ⟨_, rfl⟩
  rw [show caseV a b c m vl (.slice y ms.length d) = .agg cs.toArray from by rw [hcs]]
  have HD := hid (Blk.new w 30 cs)
  have KD := hid ((Kp.refl Nb w).alloc (.cells cs.toArray 30))
  have HCS := hid hcs
  clear hcs
  go_enter Try.func5, Try.ntmps5
  go_wp2_with fail
  refine (cfirst_any _).mono ?_
  rintro e w1 ⟨rfl, k1⟩
  have h1 := HD.out.kept k1 (fun h => h)
  rw [HCS.out] at h1
  have H1 := hid h1
  have K1 := hid (KD.out.trans k1 (fun _ _ h => h))
  have HS1 := hid (HS.out.kept K1.out)
  clear HD KD k1 h1
  go_wp2_with fail
  obtain ⟨D, hD⟩ : ∃ D, w.heap.size = D := ⟨_, rfl⟩
  rw [hD] at H1 ⊢
  have HDD := hid hD
  clear hD
  refine region_ghost (g0 := (fun _ => 0)) [none, none, none, some 10, some 11, some 12, some 13, some 18, none, none, none, none, none, none, some 0, some 1, some 2, some 3, some 4, some 5, some 6, some 7, some 8, some 9, none, none, none, none, none, none, none, none, none, none, none, none, none, none, none, none, none, none, none, none, none, none, none, none, none, none, none, none, none, none, none, none, none, none, none, none, none, none, none, none, none, none, none, none, none, none, none, none, none, none, none, none, none, none, none, none, none, none, none, none, none, none, none, none, none, none, none, none, none, none, none, none, none, none, none, none, none, none, none, none, none, none, none, none, none, none, none] [[(1, none)], [(14, some 0)], [(1, none)], [(16, some 2)], [(1, none)], [(18, some 4)], [(1, none)], [(20, some 6)], [(1, none)], [(22, some 8)], [], [], [], [], [(3, some 10), (15, some 1)], [(4, some 11), (17, some 3)], [(5, some 12), (19, some 5)], [(6, some 13), (21, some 7)], [(23, some 9)]] [some 14, some 15, some 16, some 17, some 18, some 19, some 20, some 21, some 22, some 23, some 3, some 4, some 5, some 6, none, none, none, none, some 7] (fun g => [.pointer (some ⟨D, 0, none⟩), cv a, .pointer (some ⟨D, 18, none⟩), cv b, .pointer (some ⟨D, 36, none⟩), cv c, .pointer (some ⟨D, 54, none⟩), markV m, .pointer (some ⟨D, 71, none⟩), .slice y ms.length d, .pointer (some ⟨(g 0), 0, none⟩), .pointer (some ⟨(g 1), 0, none⟩), .pointer (some ⟨(g 2), 0, none⟩), .pointer (some ⟨(g 3), 0, none⟩), undef, undef, undef, undef, .slice y ms.length d]) [10, 11, 12, 13, 14, 15, 16, 17] (fun bs g wq => Hid (VarsS w1 4 holdT holdZ (holdV a b c m) bs g wq)) (by kernel_rfl) (by kernel_rfl) (fun g => by kernel_rfl) (by kernel_rfl) ?hS (GFrom.all (n := 19) (by kernel_rfl) ?hstep) ?hend
  case hstep =>
    refine GFrom.cons (GStep.val _ rfl rfl _ rfl (fun g => .pointer (some ⟨D, 0, none⟩)) (fun _ => rfl) (fun _ => trivial) (fun bs g ev wq hS he hr => ?_)) ?_
    · have r0 : ev (.tmp 1) = .pointer (some ⟨D, 0, none⟩) := hr (1, none) (by simp); have hk := he.1; clear hr he
      go_simp
    refine GFrom.cons (GStep.val _ rfl rfl _ rfl (fun g => cv a) (fun _ => rfl) (fun _ => trivial) (fun bs g ev wq hS he hr => ?_)) ?_
    · have r0 : ev (.tmp 14) = .pointer (some ⟨D, 0, none⟩) := hr (14, some 0) (by simp); have hk := he.1; clear hr he
      exact exec_load rfl r0 (load_cell HA.out (case_a (H1.out.kept hS.out.kp (fun h => h))))
    refine GFrom.cons (GStep.val _ rfl rfl _ rfl (fun g => .pointer (some ⟨D, 18, none⟩)) (fun _ => rfl) (fun _ => trivial) (fun bs g ev wq hS he hr => ?_)) ?_
    · have r0 : ev (.tmp 1) = .pointer (some ⟨D, 0, none⟩) := hr (1, none) (by simp); have hk := he.1; clear hr he
      go_simp
    refine GFrom.cons (GStep.val _ rfl rfl _ rfl (fun g => cv b) (fun _ => rfl) (fun _ => trivial) (fun bs g ev wq hS he hr => ?_)) ?_
    · have r0 : ev (.tmp 16) = .pointer (some ⟨D, 18, none⟩) := hr (16, some 2) (by simp); have hk := he.1; clear hr he
      exact exec_load rfl r0 (load_cell HB.out (case_b HA.out (H1.out.kept hS.out.kp (fun h => h))))
    refine GFrom.cons (GStep.val _ rfl rfl _ rfl (fun g => .pointer (some ⟨D, 36, none⟩)) (fun _ => rfl) (fun _ => trivial) (fun bs g ev wq hS he hr => ?_)) ?_
    · have r0 : ev (.tmp 1) = .pointer (some ⟨D, 0, none⟩) := hr (1, none) (by simp); have hk := he.1; clear hr he
      go_simp
    refine GFrom.cons (GStep.val _ rfl rfl _ rfl (fun g => cv c) (fun _ => rfl) (fun _ => trivial) (fun bs g ev wq hS he hr => ?_)) ?_
    · have r0 : ev (.tmp 18) = .pointer (some ⟨D, 36, none⟩) := hr (18, some 4) (by simp); have hk := he.1; clear hr he
      exact exec_load rfl r0 (load_cell HC.out (case_c HA.out HB.out (H1.out.kept hS.out.kp (fun h => h))))
    refine GFrom.cons (GStep.val _ rfl rfl _ rfl (fun g => .pointer (some ⟨D, 54, none⟩)) (fun _ => rfl) (fun _ => trivial) (fun bs g ev wq hS he hr => ?_)) ?_
    · have r0 : ev (.tmp 1) = .pointer (some ⟨D, 0, none⟩) := hr (1, none) (by simp); have hk := he.1; clear hr he
      go_simp
    refine GFrom.cons (GStep.val _ rfl rfl _ rfl (fun g => markV m) (fun _ => rfl) (fun _ => trivial) (fun bs g ev wq hS he hr => ?_)) ?_
    · have r0 : ev (.tmp 20) = .pointer (some ⟨D, 54, none⟩) := hr (20, some 6) (by simp); have hk := he.1; clear hr he
      exact exec_load rfl r0 (load_mark HM.out (case_m HA.out HB.out HC.out (H1.out.kept hS.out.kp (fun h => h))))
    refine GFrom.cons (GStep.val _ rfl rfl _ rfl (fun g => .pointer (some ⟨D, 71, none⟩)) (fun _ => rfl) (fun _ => trivial) (fun bs g ev wq hS he hr => ?_)) ?_
    · have r0 : ev (.tmp 1) = .pointer (some ⟨D, 0, none⟩) := hr (1, none) (by simp); have hk := he.1; clear hr he
      go_simp
    refine GFrom.cons (GStep.val _ rfl rfl _ rfl (fun g => .slice y ms.length d) (fun _ => rfl) (fun _ => trivial) (fun bs g ev wq hS he hr => ?_)) ?_
    · have r0 : ev (.tmp 22) = .pointer (some ⟨D, 71, none⟩) := hr (22, some 8) (by simp); have hk := he.1; clear hr he
      have c0 := case_s HA.out HB.out HC.out HM.out (H1.out.kept hS.out.kp (fun h => h))
      go_simp
    refine GFrom.cons (GStep.valloc 0 _ rfl (by decide) rfl rfl rfl 14 _ rfl rfl (by kernel_rfl) (fun g x => by kernel_rfl) (fun g => by simp) (fun ev w => by go_simp; rfl)) ?_
    refine GFrom.cons (GStep.valloc 1 _ rfl (by decide) rfl rfl rfl 15 _ rfl rfl (by kernel_rfl) (fun g x => by kernel_rfl) (fun g => by simp) (fun ev w => by go_simp; rfl)) ?_
    refine GFrom.cons (GStep.valloc 2 _ rfl (by decide) rfl rfl rfl 16 _ rfl rfl (by kernel_rfl) (fun g x => by kernel_rfl) (fun g => by simp) (fun ev w => by go_simp; rfl)) ?_
    refine GFrom.cons (GStep.valloc 3 _ rfl (by decide) rfl rfl rfl 17 _ rfl rfl (by kernel_rfl) (fun g x => by kernel_rfl) (fun g => by simp) (fun ev w => by go_simp; rfl)) ?_
    refine GFrom.cons (GStep.vfill 0 _ rfl (by decide) rfl rfl rfl 10 rfl (by kernel_rfl) (cl_length HA.out) (fun _ => rfl) _ rfl (fun g ev wq he hr ht => ?_)) ?_
    · have r0 : ev (.tmp 3) = .pointer (some ⟨(g 0), 0, none⟩) := hr (3, some 10) (by simp); have r1 : ev (.tmp 15) = cv a := hr (15, some 1) (by simp); have hk := he.1; clear hr he
      exact exec_store rfl r0 r1 (store_cell HA.out ht)
    refine GFrom.cons (GStep.vfill 1 _ rfl (by decide) rfl rfl rfl 11 rfl (by kernel_rfl) (cl_length HB.out) (fun _ => rfl) _ rfl (fun g ev wq he hr ht => ?_)) ?_
    · have r0 : ev (.tmp 4) = .pointer (some ⟨(g 1), 0, none⟩) := hr (4, some 11) (by simp); have r1 : ev (.tmp 17) = cv b := hr (17, some 3) (by simp); have hk := he.1; clear hr he
      exact exec_store rfl r0 r1 (store_cell HB.out ht)
    refine GFrom.cons (GStep.vfill 2 _ rfl (by decide) rfl rfl rfl 12 rfl (by kernel_rfl) (cl_length HC.out) (fun _ => rfl) _ rfl (fun g ev wq he hr ht => ?_)) ?_
    · have r0 : ev (.tmp 5) = .pointer (some ⟨(g 2), 0, none⟩) := hr (5, some 12) (by simp); have r1 : ev (.tmp 19) = cv c := hr (19, some 5) (by simp); have hk := he.1; clear hr he
      exact exec_store rfl r0 r1 (store_cell HC.out ht)
    refine GFrom.cons (GStep.vfill 3 _ rfl (by decide) rfl rfl rfl 13 rfl (by kernel_rfl) (by show (markL m).length = _; rw [markL_length, HM.out.len]; rfl) (fun _ => rfl) _ rfl (fun g ev wq he hr ht => ?_)) ?_
    · have r0 : ev (.tmp 6) = .pointer (some ⟨(g 3), 0, none⟩) := hr (6, some 13) (by simp); have r1 : ev (.tmp 21) = markV m := hr (21, some 7) (by simp); have hk := he.1; clear hr he
      exact exec_store rfl r0 r1 (store_mark HM.out ht)
    refine GFrom.cons (GStep.val _ rfl rfl _ rfl (fun g => .slice y ms.length d) (fun _ => rfl) (fun _ => trivial) (fun bs g ev wq hS he hr => ?_)) ?_
    · have r0 : ev (.tmp 23) = .slice y ms.length d := hr (23, some 9) (by simp); have hk := he.1; clear hr he
      go_simp
    exact GFrom.nil
  case hS => exact VarsS.start _ _ _ _ _ _ _
  case hend =>
    intro g w2 h2
    have hd := h2.out.done rfl
    obtain ⟨q0, q1, q2, q3⟩ : ((w1.heap.size ≤ g 0 ∧ Blk w2 (g 0) 26 (cl a)) ∧ (w1.heap.size ≤ g 1 ∧ Blk w2 (g 1) 26 (cl b)) ∧ (w1.heap.size ≤ g 2 ∧ Blk w2 (g 2) 26 (cl c)) ∧ (w1.heap.size ≤ g 3 ∧ Blk w2 (g 3) 23 (markL m))) := ⟨hd.1 0 (by decide), hd.1 1 (by decide), hd.1 2 (by decide), hd.1 3 (by decide)⟩
    have k2 := h2.out.kp
    clear hd h2
    generalize g 0 = b3 at q0 ⊢
    generalize g 1 = b4 at q1 ⊢
    generalize g 2 = b5 at q2 ⊢
    generalize g 3 = b6 at q3 ⊢
    have Q0 := hid q0.2
    have Q1 := hid q1.2
    have Q2 := hid q2.2
    have Q3 := hid q3.2
    have K2 := hid (K1.out.trans k2 (fun _ _ h => h))
    have HS2 := hid (HS1.out.kept k2)
    clear q0 q1 q2 q3 k2 K1 HS1 H1 g
    simp only [putAll, List.zip_cons_cons, List.zip_nil_right, List.foldl_cons, List.foldl_nil, Act.put, List.setIfInBounds_toArray, List.set_cons_zero, List.set_cons_succ]
    by_cases hl : 50 < ms.length
    · have d1 : decide (50 < (ms.length : Int)) = true := decide_eq_true (by omega)
      go_wp2
      go_ret
      exact ⟨rfl, K2.out⟩
    have d1 : decide (50 < (ms.length : Int)) = false := decide_eq_false (by omega)
    have HN := hid (Nat.not_lt.1 hl)
    clear hl
    go_wp2_with (refine wpList_load_mid (by rfl) 23 (.tmp 6) (by rfl) b6 0 (by rfl) (markL m) _ (range_of Q3.out) under_mark rfl (mark_infoL m HM.out.len) ?_)
    obtain ⟨X, hX⟩ : ∃ X, X = ofC m := ⟨_, rfl⟩
    have HX := hid hX
    have CO : Hid (∀ w, Calls Try.prog 12 #[markV m] w fun e w' => e = .returned (cv X) ∧ Kp Nb w w') := hid (fun w => by rw [hX]; exact cof_c m w HM.out)
    have XO : Hid (CelOk X) := hid (by rw [hX]; exact ofC_ok HM.out)
    clear hX
    refine (CO.out _).mono ?_
    rintro e w3 ⟨rfl, k3⟩
    have hz := Blk.new w3 26 (cl c0)
    obtain ⟨w4, h4⟩ : ∃ w4, w4 = (w3.alloc (.cells (cl c0).toArray 26)).setCells w3.heap.size 0 (cl X) := ⟨_, rfl⟩
    have k4 : Kp Nb w3 w4 := by rw [h4]; exact Kp.setCells (fun h => absurd h (Nat.lt_irrefl _)) _ 0 _ ((Kp.refl Nb w3).alloc _)
    have TH := hid (cell_there hz (cl_length c0_ok) XO.out)
    have SI := hid (cell_sized XO.out)
    have ON := hid (all_oneCell_toArray (cellL_one X.1 X.2.1 X.2.2))
    have Q8 : Hid (Blk w4 w3.heap.size 26 (cl X)) := hid (by rw [h4]; exact row_set hz (by rw [cl_length c0_ok, cl_length XO.out]))
    have P0 := hid ((Q0.out.kept k3 (fun h => h)).kept k4 (fun h => h))
    have P1 := hid ((Q1.out.kept k3 (fun h => h)).kept k4 (fun h => h))
    have P2 := hid ((Q2.out.kept k3 (fun h => h)).kept k4 (fun h => h))
    have P3 := hid ((Q3.out.kept k3 (fun h => h)).kept k4 (fun h => h))
    have L0 := hid (Q0.out.kept k3 (fun h => h)).lt
    have L1 := hid (Q1.out.kept k3 (fun h => h)).lt
    have L2 := hid (Q2.out.kept k3 (fun h => h)).lt
    have L3 := hid (Q3.out.kept k3 (fun h => h)).lt
    have K4 := hid ((K2.out.trans k3 (fun _ _ h => h)).trans k4 (fun _ _ h => h))
    have LB : Hid (w.heap.size ≤ w3.heap.size) := hid ((K2.out.trans k3 (fun _ _ h => h)).size)
    clear Q0 Q1 Q2 Q3 K2 k3 k4 HS2 hz
    go_wp2_with (refine wpList_store_mid (by rfl) 26 (.tmp 8) (.tmp 28) (by rfl) w3.heap.size 0 (cl X).toArray (by rfl) (by rfl) TH.out SI.out ON.out ?_)
    rw [show (w3.alloc (.cells #[.int .i64 0, .int .u8 0, .int .u8 0, .int .u8 0, .int .u8 0, .int .u8 0, .int .u8 0, .int .u8 0, .int .u8 0, .int .u8 0, .int .u8 0, .int .u8 0, .int .u8 0, .int .u8 0, .int .u8 0, .int .u8 0, .int .u8 0, .int .u64 0] 26)).setCells w3.heap.size 0 (cl X) = w4 from h4.symm]
    generalize w3.heap.size = B at *
    clear h4 TH SI ON
    go_loopw [31] (HoldR w4 B (upC m ms) ms.length) (fun i _ => ms.length - (intOf i).toNat)
    case atStart => exact ⟨0, by omega, rfl, by rw [HX.out] at Q8; exact Q8, Kp.refl _ _⟩
    case round =>
      clear Q8
      obtain ⟨k, hk, rfl, HA1, HK1⟩ := hrel
      by_cases hlt : k < ms.length
      · have KW := hid (K4.out.trans HK1.out (fun i hi h => by have h' : i = B := h; have := LB.out; omega))
        have hC := HS.out.kept KW.out
        rcases hC.2 with ⟨_, e0⟩ | ⟨blk, off, cap, e1, hc, hm, hcell⟩
        · rw [e0] at hlt
          exact absurd hlt (Nat.not_lt_zero _)
        · injection e1 with e1 _ e2
          subst e1 e2
          have HR := hid (hcell k hlt)
          have M1 := hid (hC.1 k)
          have HQ := hid (show upC m ms (k + 1) = addC (upC m ms k) (ofC (markAt ms k)) from rfl)
          have U1 := hid (upC_ok (ms := ms) HM.out k)
          unfold maxLen at hm
          generalize markAt ms k = z at HR M1 HQ
          generalize upC m ms k = u at HA1 HQ U1
          obtain ⟨N, hN⟩ : ∃ N, N = wr.heap.size := ⟨_, rfl⟩
          have hz := Blk.new wr 23 (markL (List.replicate 16 0))
          obtain ⟨W, hW⟩ : ∃ W, W = (wr.alloc (.cells (markL (List.replicate 16 0)).toArray 23)).setCells wr.heap.size 0 (markL z) := ⟨_, rfl⟩
          have kW : Kp Nb wr W := by rw [hW]; exact Kp.setCells (fun h => absurd h (Nat.lt_irrefl _)) _ 0 _ ((Kp.refl Nb wr).alloc _)
          have TH := hid (mark_there hz (by rw [markL_length]; rfl) M1.out)
          have SI := hid (mark_sized M1.out)
          have ON := hid (all_oneCell_toArray (markL_one z))
          have HZ : Hid (Blk W N 23 (markL z)) := hid (by rw [hW, hN]; exact row_set hz (by rw [markL_length, markL_length, M1.out.len]; rfl))
          have HB1 := hid (HA1.out.kept kW (fun h => h))
          have HK2 := hid (HK1.out.trans kW (fun _ _ h => h.elim))
          obtain ⟨Z, hZ⟩ : ∃ Z, Z = ofC z := ⟨_, rfl⟩
          obtain ⟨Y, hY⟩ : ∃ Y, Y = addC u Z := ⟨_, rfl⟩
          have CZ : Hid (∀ w, Calls Try.prog 12 #[markV z] w fun e w' => e = .returned (cv Z) ∧ Kp Nb w w') := hid (fun w => by rw [hZ]; exact cof_c z w M1.out)
          have CY : Hid (∀ w, Calls Try.prog 14 #[cv u, cv Z] w fun e w' => e = .returned (cv Y) ∧ Kp Nb w w') := hid (fun w => by rw [hY, hZ]; exact cadd_c u (ofC z) w U1.out (ofC_ok M1.out))
          have YO : Hid (CelOk Y) := hid (by rw [hY]; exact addC_ok)
          have HY : Hid (upC m ms (k + 1) = Y) := hid (by rw [hY, hZ]; exact HQ.out)
          clear hZ hY HQ hz kW hcell
          go_upto_region 10 with (first
            | (refine wpList_load_mid (by rfl) 23 (.tmp 33) (by rfl) blk (off + k * 16) (by rfl) (markL z) _ HR.out under_mark rfl (mark_infoL z M1.out.len) ?_)
            | (refine wpList_store_mid (by rfl) 23 (.tmp 10) (.tmp 34) (by rfl) wr.heap.size 0 (markL z).toArray (by rfl) (by rfl) TH.out SI.out ON.out ?_))
          rw [show (wr.alloc (.cells #[.int .u8 0, .int .u8 0, .int .u8 0, .int .u8 0, .int .u8 0, .int .u8 0, .int .u8 0, .int .u8 0, .int .u8 0, .int .u8 0, .int .u8 0, .int .u8 0, .int .u8 0, .int .u8 0, .int .u8 0, .int .u8 0] 23)).setCells wr.heap.size 0 (markL z) = W from hW.symm, ← hN]
          clear hW hN TH SI ON
          refine region_vals_last (n := 4) [none, none, none, none, none, none, none, none, none, none, none, none, none, none, none, none, none, none, none, none, none, none, none, none, none, none, none, none, none, none, none, none, none, none, none, some 0, some 1, some 2, some 3, none, none, none, none, none, none, none, none, none, none, none, none, none, none, none, none, none, none, none, none, none, none, none, none, none, none, none, none, none, none, none, none, none, none, none, none, none, none, none, none, none, none, none, none, none, none, none, none, none, none, none, none, none, none, none, none, none, none, none, none, none, none, none, none, none, none, none, none, none, none, none, none] [[(8, none)], [(10, none)], [(36, some 1)], [(35, some 0), (37, some 2)], [(8, none), (38, some 3)]] [some 35, some 36, some 37, some 38] [cv u, markV z, cv Z, cv Y] (fun w' => Hid (Kp Nb W w')) (by kernel_rfl) (by kernel_rfl) (by kernel_rfl) (by kernel_rfl) ({ dst := none, op := Op.store 26 (Operand.tmp 8) (Operand.tmp 38), type := 0, pos := "law.go:75", after := #[{ on := 3, ground := Ground.data }, { on := 3, ground := Ground.chain }, { on := 0, ground := Ground.phase }, { on := 1, ground := Ground.phase }, { on := 2, ground := Ground.phase }, { on := 3, ground := Ground.phase }], guard := none }) rfl rfl (by kernel_rfl) (by kernel_rfl) ?hS (?hstep : VFrom _ _ _ _ _ _ 0 4).start ?hend
          case hstep =>
            refine VFrom.cons (VStep.val _ rfl _ rfl (cv u) rfl trivial (fun ev wq hS he hr => ?_)) ?_
            · have r0 : ev (.tmp 8) = .pointer (some ⟨B, 0, none⟩) := hr (8, none) (by simp); have hk := he.1; clear hr he
              exact exec_load rfl r0 (load_cell U1.out (range_of (HB1.out.kept hS.out (fun h => h))))
            refine VFrom.cons (VStep.val _ rfl _ rfl (markV z) rfl trivial (fun ev wq hS he hr => ?_)) ?_
            · have r0 : ev (.tmp 10) = .pointer (some ⟨N, 0, none⟩) := hr (10, none) (by simp); have hk := he.1; clear hr he
              exact exec_load rfl r0 (load_mark M1.out (range_of (HZ.out.kept hS.out (fun h => h))))
            refine VFrom.cons (VStep.call _ rfl _ rfl (cv Z) rfl trivial 12 #[markV z] (fun ev wq hS he hr => ?_) (fun wq hS => ?_)) ?_
            · have r0 : ev (.tmp 36) = markV z := hr (36, some 1) (by simp); have hk := he.1; have hf := he.2; clear hr he
              go_simp
            · exact (CZ.out wq).mono fun e w' ⟨h1, h2⟩ => ⟨h1, hS.out.trans h2 (fun _ _ h => h)⟩
            refine VFrom.cons (VStep.call _ rfl _ rfl (cv Y) rfl trivial 14 #[cv u, cv Z] (fun ev wq hS he hr => ?_) (fun wq hS => ?_)) ?_
            · have r0 : ev (.tmp 35) = cv u := hr (35, some 0) (by simp); have r1 : ev (.tmp 37) = cv Z := hr (37, some 2) (by simp); have hk := he.1; have hf := he.2; clear hr he
              go_simp
            · exact (CY.out wq).mono fun e w' ⟨h1, h2⟩ => ⟨h1, hS.out.trans h2 (fun _ _ h => h)⟩
            exact VFrom.nil
          case hS => exact hid ((Kp.refl Nb W).drew)
          case hend =>
            intro af wy haf kh
            have HE := HB1.out.kept kh.out (fun h => h)
            have HA3 : Hid (Blk (wy.setCells B 0 (cl Y)) B 26 (cl (upC m ms (k + 1)))) := hid (by rw [HY.out]; exact row_set HE (by rw [cl_length YO.out, cl_length U1.out]))
            have HK3 : Hid (Kp (Jb B) w4 (wy.setCells B 0 (cl Y))) := hid (Kp.setCells (S := Jb B) (fun _ => show B = B from rfl) _ 0 _ (HK2.out.trans kh.out (fun _ _ h => h.elim)))
            refine cv_end (x := Y) (ad := .tmp 8) (v := .tmp 38) YO.out HE (cl_length U1.out) rfl (by rw [haf.out]; kernel_rfl) (by rw [haf.out]; kernel_rfl) ?_
            rw [haf.out]
            clear haf kh HE
            simp only [putAll, List.zip_cons_cons, List.zip_nil_right, List.foldl_cons, List.foldl_nil, Act.put, List.setIfInBounds_toArray, List.set_cons_zero, List.set_cons_succ]
            go_wp2
            go_roundw
            case rel => exact ⟨k + 1, by omega, by go_num, HA3, HK3⟩
            case measure => simp [intOf]; omega
      · obtain rfl : k = ms.length := by omega
        clear hk hlt
        go_wp2
        go_loopw [42] (HoldR w4 B (downC m ms) ms.length) (fun i _ => ms.length - (intOf i).toNat)
        case atStart => exact ⟨0, by omega, rfl, HA1, HK1⟩
        case round =>
          clear HA1 HK1
          obtain ⟨k, hk, rfl, HA1, HK1⟩ := hrel
          have KW := hid (K4.out.trans HK1.out (fun i hi h => by have h' : i = B := h; have := LB.out; omega))
          by_cases hlt : k < ms.length
          · have hC := HS.out.kept KW.out
            rcases hC.2 with ⟨_, e0⟩ | ⟨blk, off, cap, e1, hc, hm, hcell⟩
            · rw [e0] at hlt
              exact absurd hlt (Nat.not_lt_zero _)
            · injection e1 with e1 _ e2
              subst e1 e2
              obtain ⟨p, hp⟩ : ∃ p, p = ms.length - 1 - k := ⟨_, rfl⟩
              have hpl : p < ms.length := by omega
              have HR := hid (hcell p hpl)
              have M1 := hid (hC.1 p)
              have HQ := hid (show downC m ms (k + 1) = subC (downC m ms k) (ofC (markAt ms p)) from by rw [hp]; rfl)
              have U1 : Hid (CelOk (downC m ms k)) := hid (by rw [downC_eq HM.out HS.out.1 k hk]; exact upC_ok HM.out _)
              unfold maxLen at hm
              have E1 : Hid (IntKind.i64.wrap ((ms.length : Int) - 1) = ((ms.length - 1 : Nat) : Int)) := hid (by rw [IntKind.wrap_i64]; have := HN.out; omega)
              have E2 : Hid (IntKind.i64.wrap (((ms.length - 1 : Nat) : Int) - (k : Int)) = (p : Int)) := hid (by rw [IntKind.wrap_i64]; have := HN.out; omega)
              have P1 := hid (show (0 : Int) ≤ (p : Int) from by omega)
              have P2 := hid (show (p : Int) < (ms.length : Int) from by omega)
              have PT := hid (show ((p : Nat) : Int).toNat = p from by omega)
              generalize markAt ms p = z at HR M1 HQ
              generalize downC m ms k = u at HA1 HQ U1
              generalize ms.length - 1 = n1 at E1 E2
              obtain ⟨Z, hZ⟩ : ∃ Z, Z = ofC z := ⟨_, rfl⟩
              obtain ⟨Y, hY⟩ : ∃ Y, Y = subC u Z := ⟨_, rfl⟩
              have CZ : Hid (∀ w, Calls Try.prog 12 #[markV z] w fun e w' => e = .returned (cv Z) ∧ Kp Nb w w') := hid (fun w => by rw [hZ]; exact cof_c z w M1.out)
              have CY : Hid (∀ w, Calls Try.prog 15 #[cv u, cv Z] w fun e w' => e = .returned (cv Y) ∧ Kp Nb w w') := hid (fun w => by rw [hY, hZ]; exact csub_c u (ofC z) w U1.out (ofC_ok M1.out))
              have YO : Hid (CelOk Y) := hid (by rw [hY]; exact subC_ok)
              have HY : Hid (downC m ms (k + 1) = Y) := hid (by rw [hY, hZ]; exact HQ.out)
              clear hZ hY HQ hcell hp hpl hC
              go_upto_region 15 with fail
              refine region_vals_last (n := 11) [none, none, none, none, none, none, none, none, none, none, none, none, none, none, none, none, none, none, none, none, none, none, none, none, none, none, none, none, none, none, none, none, none, none, none, none, none, none, none, none, none, none, none, none, none, some 0, some 1, some 2, some 3, some 4, some 5, some 6, some 7, some 8, some 9, some 10, none, none, none, none, none, none, none, none, none, none, none, none, none, none, none, none, none, none, none, none, none, none, none, none, none, none, none, none, none, none, none, none, none, none, none, none, none, none, none, none, none, none, none, none, none, none, none, none, none, none, none, none, none, none, none] [[(8, none)], [(7, none)], [(7, none)], [(47, some 2)], [(48, some 3)], [(11, none)], [(49, some 4), (50, some 5)], [(46, some 1), (51, some 6)], [(52, some 7)], [(53, some 8)], [(45, some 0), (54, some 9)], [(8, none), (55, some 10)]] [some 45, some 46, some 47, some 48, some 49, some 50, some 51, some 52, some 53, some 54, some 55] [cv u, .slice (some ⟨blk, off, none⟩) ms.length d, .slice (some ⟨blk, off, none⟩) ms.length d, .int .i64 (ms.length : Int), .int .i64 (n1 : Int), .int .i64 (k : Int), .int .i64 (p : Int), .pointer (some ⟨blk, off + p * 16, none⟩), markV z, cv Z, cv Y] (fun w' => Hid (Kp Nb wr w')) (by kernel_rfl) (by kernel_rfl) (by kernel_rfl) (by kernel_rfl) ({ dst := none, op := Op.store 26 (Operand.tmp 8) (Operand.tmp 55), type := 0, pos := "law.go:78", after := #[{ on := 10, ground := Ground.data }, { on := 10, ground := Ground.chain }, { on := 0, ground := Ground.phase }, { on := 1, ground := Ground.phase }, { on := 2, ground := Ground.phase }, { on := 3, ground := Ground.phase }, { on := 4, ground := Ground.phase }, { on := 5, ground := Ground.phase }, { on := 6, ground := Ground.phase }, { on := 7, ground := Ground.phase }, { on := 8, ground := Ground.phase }, { on := 9, ground := Ground.phase }, { on := 10, ground := Ground.phase }], guard := none }) rfl rfl (by kernel_rfl) (by kernel_rfl) ?hS (?hstep : VFrom _ _ _ _ _ _ 0 11).start ?hend
              case hstep =>
                refine VFrom.cons (VStep.val _ rfl _ rfl (cv u) rfl trivial (fun ev wq hS he hr => ?_)) ?_
                · have r0 : ev (.tmp 8) = .pointer (some ⟨B, 0, none⟩) := hr (8, none) (by simp); have hk := he.1; clear hr he
                  exact exec_load rfl r0 (load_cell U1.out (range_of (HA1.out.kept hS.out (fun h => h))))
                refine VFrom.cons (VStep.val _ rfl _ rfl (.slice (some ⟨blk, off, none⟩) ms.length d) rfl trivial (fun ev wq hS he hr => ?_)) ?_
                · have r0 : ev (.tmp 7) = .slice (some ⟨blk, off, none⟩) ms.length d := hr (7, none) (by simp); have hk := he.1; clear hr he
                  go_simp
                refine VFrom.cons (VStep.val _ rfl _ rfl (.slice (some ⟨blk, off, none⟩) ms.length d) rfl trivial (fun ev wq hS he hr => ?_)) ?_
                · have r0 : ev (.tmp 7) = .slice (some ⟨blk, off, none⟩) ms.length d := hr (7, none) (by simp); have hk := he.1; clear hr he
                  go_simp
                refine VFrom.cons (VStep.val _ rfl _ rfl (.int .i64 (ms.length : Int)) rfl trivial (fun ev wq hS he hr => ?_)) ?_
                · have r0 : ev (.tmp 47) = .slice (some ⟨blk, off, none⟩) ms.length d := hr (47, some 2) (by simp); have hk := he.1; clear hr he
                  go_simp
                refine VFrom.cons (VStep.val _ rfl _ rfl (.int .i64 (n1 : Int)) rfl trivial (fun ev wq hS he hr => ?_)) ?_
                · have r0 : ev (.tmp 48) = .int .i64 (ms.length : Int) := hr (48, some 3) (by simp); have hk := he.1; clear hr he
                  have e := E1.out
                  go_simp
                refine VFrom.cons (VStep.val _ rfl _ rfl (.int .i64 (k : Int)) rfl trivial (fun ev wq hS he hr => ?_)) ?_
                · have r0 : ev (.tmp 11) = .int .i64 (k : Int) := hr (11, none) (by simp); have hk := he.1; clear hr he
                  go_simp
                refine VFrom.cons (VStep.val _ rfl _ rfl (.int .i64 (p : Int)) rfl trivial (fun ev wq hS he hr => ?_)) ?_
                · have r0 : ev (.tmp 49) = .int .i64 (n1 : Int) := hr (49, some 4) (by simp); have r1 : ev (.tmp 50) = .int .i64 (k : Int) := hr (50, some 5) (by simp); have hk := he.1; clear hr he
                  have e := E2.out
                  go_simp
                refine VFrom.cons (VStep.val _ rfl _ rfl (.pointer (some ⟨blk, off + p * 16, none⟩)) rfl trivial (fun ev wq hS he hr => ?_)) ?_
                · have r0 : ev (.tmp 46) = .slice (some ⟨blk, off, none⟩) ms.length d := hr (46, some 1) (by simp); have r1 : ev (.tmp 51) = .int .i64 (p : Int) := hr (51, some 6) (by simp); have hk := he.1; clear hr he
                  have e1 := P1.out; have e2 := P2.out; have e3 := PT.out
                  go_simp
                refine VFrom.cons (VStep.val _ rfl _ rfl (markV z) rfl trivial (fun ev wq hS he hr => ?_)) ?_
                · have r0 : ev (.tmp 52) = .pointer (some ⟨blk, off + p * 16, none⟩) := hr (52, some 7) (by simp); have hk := he.1; clear hr he
                  exact exec_load rfl r0 (load_mark M1.out (range_kept HR.out hS.out))
                refine VFrom.cons (VStep.call _ rfl _ rfl (cv Z) rfl trivial 12 #[markV z] (fun ev wq hS he hr => ?_) (fun wq hS => ?_)) ?_
                · have r0 : ev (.tmp 53) = markV z := hr (53, some 8) (by simp); have hk := he.1; have hf := he.2; clear hr he
                  go_simp
                · exact (CZ.out wq).mono fun e w' ⟨h1, h2⟩ => ⟨h1, hS.out.trans h2 (fun _ _ h => h)⟩
                refine VFrom.cons (VStep.call _ rfl _ rfl (cv Y) rfl trivial 15 #[cv u, cv Z] (fun ev wq hS he hr => ?_) (fun wq hS => ?_)) ?_
                · have r0 : ev (.tmp 45) = cv u := hr (45, some 0) (by simp); have r1 : ev (.tmp 54) = cv Z := hr (54, some 9) (by simp); have hk := he.1; have hf := he.2; clear hr he
                  go_simp
                · exact (CY.out wq).mono fun e w' ⟨h1, h2⟩ => ⟨h1, hS.out.trans h2 (fun _ _ h => h)⟩
                exact VFrom.nil
              case hS => exact hid ((Kp.refl Nb wr).drew)
              case hend =>
                intro af wy haf kh
                have HE := HA1.out.kept kh.out (fun h => h)
                have HA3 : Hid (Blk (wy.setCells B 0 (cl Y)) B 26 (cl (downC m ms (k + 1)))) := hid (by rw [HY.out]; exact row_set HE (by rw [cl_length YO.out, cl_length U1.out]))
                have HK3 : Hid (Kp (Jb B) w4 (wy.setCells B 0 (cl Y))) := hid (Kp.setCells (S := Jb B) (fun _ => show B = B from rfl) _ 0 _ (HK1.out.trans kh.out (fun _ _ h => h.elim)))
                refine cv_end (x := Y) (ad := .tmp 8) (v := .tmp 55) YO.out HE (cl_length U1.out) rfl (by rw [haf.out]; kernel_rfl) (by rw [haf.out]; kernel_rfl) ?_
                rw [haf.out]
                clear haf kh HE
                simp only [putAll, List.zip_cons_cons, List.zip_nil_right, List.foldl_cons, List.foldl_nil, Act.put, List.setIfInBounds_toArray, List.set_cons_zero, List.set_cons_succ]
                go_wp2
                go_roundw
                case rel => exact ⟨k + 1, by omega, by go_num, HA3, HK3⟩
                case measure => simp [intOf]; omega
          · obtain rfl : k = ms.length := by omega
            have HX9 : Hid (Blk wr B 26 (cl X)) := hid (by have h := HA1.out; rw [downC_eq HM.out HS.out.1 _ (Nat.le_refl _), Nat.sub_self] at h; rw [HX.out]; exact h)
            have R0 := hid (P0.out.kept HK1.out (fun h => by have h' : b3 = B := h; have := L0.out; omega))
            have R1 := hid (P1.out.kept HK1.out (fun h => by have h' : b4 = B := h; have := L1.out; omega))
            have R2 := hid (P2.out.kept HK1.out (fun h => by have h' : b5 = B := h; have := L2.out; omega))
            have R3 := hid (P3.out.kept HK1.out (fun h => by have h' : b6 = B := h; have := L3.out; omega))
            clear hk hlt HA1 HK1 P0 P1 P2 P3 K4 L0 L1 L2 L3 LB HN d1
            go_upto_region 17 with fail
            have OA := HA.out
            have OB := HB.out
            have OC := HC.out
            obtain ⟨AB, hAB⟩ : ∃ z, z = addC a b := ⟨_, rfl⟩
            obtain ⟨BC, hBC⟩ : ∃ z, z = addC b c := ⟨_, rfl⟩
            obtain ⟨ABC, hABC⟩ : ∃ z, z = addC AB c := ⟨_, rfl⟩
            obtain ⟨NX, hNX⟩ : ∃ z, z = subC c0 X := ⟨_, rfl⟩
            have OAB : CelOk AB := by rw [hAB]; exact addC_ok
            have OBC : CelOk BC := by rw [hBC]; exact addC_ok
            have OABC : CelOk ABC := by rw [hABC]; exact addC_ok
            have CAB : Hid (∀ w, Calls Try.prog 14 #[cv a, cv b] w fun e w' => e = .returned (cv AB) ∧ Kp Nb w w') := hid (fun w => by rw [hAB]; exact cadd_c a b w OA OB)
            have CBA : Hid (∀ w, Calls Try.prog 14 #[cv b, cv a] w fun e w' => e = .returned (cv AB) ∧ Kp Nb w w') := hid (fun w => by rw [hAB, addC_comm OA OB]; exact cadd_c b a w OB OA)
            have CABC : Hid (∀ w, Calls Try.prog 14 #[cv AB, cv c] w fun e w' => e = .returned (cv ABC) ∧ Kp Nb w w') := hid (fun w => by rw [hABC]; exact cadd_c AB c w OAB OC)
            have CBC : Hid (∀ w, Calls Try.prog 14 #[cv b, cv c] w fun e w' => e = .returned (cv BC) ∧ Kp Nb w w') := hid (fun w => by rw [hBC]; exact cadd_c b c w OB OC)
            have CA9 : Hid (∀ w, Calls Try.prog 14 #[cv a, cv BC] w fun e w' => e = .returned (cv ABC) ∧ Kp Nb w w') := hid (fun w => by rw [hABC, hAB, addC_assoc OA OB OC, ← hBC]; exact cadd_c a BC w OA OBC)
            have SAB : Hid (∀ w, Calls Try.prog 15 #[cv AB, cv b] w fun e w' => e = .returned (cv a) ∧ Kp Nb w w') := hid (fun w => by have h := csub_c AB b w OAB OB; rw [show subC AB b = a from by rw [hAB]; exact subC_back OA OB] at h; exact h)
            have SAA : Hid (∀ w, Calls Try.prog 15 #[cv a, cv a] w fun e w' => e = .returned (cv c0) ∧ Kp Nb w w') := hid (fun w => by have h := csub_c a a w OA OA; rw [subC_self OA] at h; exact h)
            have SX : Hid (∀ w, Calls Try.prog 15 #[cv c0, cv X] w fun e w' => e = .returned (cv NX) ∧ Kp Nb w w') := hid (fun w => by rw [hNX]; exact csub_c c0 X w c0_ok XO.out)
            have eNX : NX = (-1, m, chk m) := by
              rw [hNX, HX.out]
              show (IntKind.i64.wrap (0 - 1), layL (List.replicate 16 0) m, bits .xor .u64 0 (chk m)) = _
              rw [lay_comm zero_ok HM.out, lay_zero HM.out, x64_comm 0 _ (by decide) (by decide) (chk_range m).1 (chk_range m).2, x64_zero _ (chk_range m).1 (chk_range m).2]
              rfl
            have PX : Hid (∀ w, Calls Try.prog 17 #[cv X] w fun e w' => e = .returned (.int .i64 1) ∧ Kp Nb w w') := hid (fun w => by rw [HX.out]; exact pure_one m w HM.out)
            have PN : Hid (∀ w, Calls Try.prog 17 #[cv NX] w fun e w' => e = .returned (.int .i64 (-1)) ∧ Kp Nb w w') := hid (fun w => by rw [eNX]; exact pure_neg m w HM.out)
            have EAB := hid (eq_cell AB OAB)
            have EABC := hid (eq_cell ABC OABC)
            have EA := hid (eq_cell a OA)
            have E0 := hid (eq_cell c0 c0_ok)
            have EX := hid (eq_cell X XO.out)
            clear hAB hBC hABC hNX OA OB OC OAB OBC OABC eNX
            refine region_vals2 [none, none, some 54, none, none, none, none, none, none, none, none, none, none, none, none, none, none, none, none, none, none, none, none, none, none, none, none, none, none, none, none, none, none, none, none, none, none, none, none, none, none, none, none, none, none, none, none, none, none, none, none, none, none, none, none, none, none, some 0, some 1, some 2, some 3, some 4, some 5, some 6, some 7, some 8, some 9, some 10, some 11, some 12, some 13, some 14, some 15, some 16, some 17, some 18, some 19, some 20, some 21, some 22, some 23, some 24, some 25, some 26, some 27, some 28, some 29, some 30, some 31, some 32, some 33, some 34, some 35, some 36, some 37, some 38, some 39, some 40, some 41, some 42, some 43, some 44, some 45, some 46, some 47, some 48, some 49, some 50, some 51, some 52, some 53] [[(3, none)], [(4, none)], [(57, some 0), (58, some 1)], [(4, none)], [(3, none)], [(60, some 3), (61, some 4)], [(59, some 2), (62, some 5)], [(63, some 6)], [(3, none)], [(4, none)], [(65, some 8), (66, some 9)], [(5, none)], [(67, some 10), (68, some 11)], [(3, none)], [(4, none)], [(5, none)], [(71, some 14), (72, some 15)], [(70, some 13), (73, some 16)], [(69, some 12), (74, some 17)], [(64, some 7), (75, some 18)], [(76, some 19)], [(3, none)], [(4, none)], [(78, some 21), (79, some 22)], [(4, none)], [(80, some 23), (81, some 24)], [(3, none)], [(82, some 25), (83, some 26)], [(77, some 20), (84, some 27)], [(85, some 28)], [(3, none)], [(3, none)], [(87, some 30), (88, some 31)], [], [(89, some 32), (90, some 33)], [(86, some 29), (91, some 34)], [(92, some 35)], [(8, none)], [(6, none)], [(95, some 38)], [(94, some 37), (96, some 39)], [(93, some 36), (97, some 40)], [(98, some 41)], [(8, none)], [(100, some 43)], [(101, some 44)], [(99, some 42), (102, some 45)], [(103, some 46)], [], [(8, none)], [(105, some 48), (106, some 49)], [(107, some 50)], [(108, some 51)], [(104, some 47), (109, some 52)], [(110, some 53)]] [some 57, some 58, some 59, some 60, some 61, some 62, some 63, some 64, some 65, some 66, some 67, some 68, some 69, some 70, some 71, some 72, some 73, some 74, some 75, some 76, some 77, some 78, some 79, some 80, some 81, some 82, some 83, some 84, some 85, some 86, some 87, some 88, some 89, some 90, some 91, some 92, some 93, some 94, some 95, some 96, some 97, some 98, some 99, some 100, some 101, some 102, some 103, some 104, some 105, some 106, some 107, some 108, some 109, some 110, some 2] [cv a, cv b, cv AB, cv b, cv a, cv AB, .bool true, .bool true, cv a, cv b, cv AB, cv c, cv ABC, cv a, cv b, cv c, cv BC, cv ABC, .bool true, .bool true, .bool true, cv a, cv b, cv AB, cv b, cv a, cv a, .bool true, .bool true, .bool true, cv a, cv a, cv c0, cv c0, .bool true, .bool true, .bool true, cv X, markV m, cv X, .bool true, .bool true, .bool true, cv X, .int .i64 1, .bool true, .bool true, .bool true, cv c0, cv X, cv NX, .int .i64 (-1), .bool true, .bool true, .bool true] (fun w' => Hid (Kp Nb wr w')) (by kernel_rfl) (by kernel_rfl) (by kernel_rfl) ?hS (VFrom.all (n := 55) (by kernel_rfl) ?hstep) ?hend
            case hstep =>
              refine VFrom.cons (VStep.val _ rfl _ rfl (cv a) rfl trivial (fun ev wq hS he hr => ?_)) ?_
              · have r0 : ev (.tmp 3) = .pointer (some ⟨b3, 0, none⟩) := hr (3, none) (by simp); have hk := he.1; clear hr he
                exact exec_load rfl r0 (load_cell HA.out (range_of (R0.out.kept hS.out (fun h => h))))
              refine VFrom.cons (VStep.val _ rfl _ rfl (cv b) rfl trivial (fun ev wq hS he hr => ?_)) ?_
              · have r0 : ev (.tmp 4) = .pointer (some ⟨b4, 0, none⟩) := hr (4, none) (by simp); have hk := he.1; clear hr he
                exact exec_load rfl r0 (load_cell HB.out (range_of (R1.out.kept hS.out (fun h => h))))
              refine VFrom.cons (VStep.call _ rfl _ rfl (cv AB) rfl trivial 14 #[cv a, cv b] (fun ev wq hS he hr => ?_) (fun wq hS => ?_)) ?_
              · have r0 : ev (.tmp 57) = cv a := hr (57, some 0) (by simp); have r1 : ev (.tmp 58) = cv b := hr (58, some 1) (by simp); have hk := he.1; have hf := he.2; clear hr he
                go_simp
              · exact (CAB.out wq).mono fun e w' ⟨h1, h2⟩ => ⟨h1, hS.out.trans h2 (fun _ _ h => h)⟩
              refine VFrom.cons (VStep.val _ rfl _ rfl (cv b) rfl trivial (fun ev wq hS he hr => ?_)) ?_
              · have r0 : ev (.tmp 4) = .pointer (some ⟨b4, 0, none⟩) := hr (4, none) (by simp); have hk := he.1; clear hr he
                exact exec_load rfl r0 (load_cell HB.out (range_of (R1.out.kept hS.out (fun h => h))))
              refine VFrom.cons (VStep.val _ rfl _ rfl (cv a) rfl trivial (fun ev wq hS he hr => ?_)) ?_
              · have r0 : ev (.tmp 3) = .pointer (some ⟨b3, 0, none⟩) := hr (3, none) (by simp); have hk := he.1; clear hr he
                exact exec_load rfl r0 (load_cell HA.out (range_of (R0.out.kept hS.out (fun h => h))))
              refine VFrom.cons (VStep.call _ rfl _ rfl (cv AB) rfl trivial 14 #[cv b, cv a] (fun ev wq hS he hr => ?_) (fun wq hS => ?_)) ?_
              · have r0 : ev (.tmp 60) = cv b := hr (60, some 3) (by simp); have r1 : ev (.tmp 61) = cv a := hr (61, some 4) (by simp); have hk := he.1; have hf := he.2; clear hr he
                go_simp
              · exact (CBA.out wq).mono fun e w' ⟨h1, h2⟩ => ⟨h1, hS.out.trans h2 (fun _ _ h => h)⟩
              refine VFrom.cons (VStep.val _ rfl _ rfl (.bool true) rfl trivial (fun ev wq hS he hr => ?_)) ?_
              · have r0 : ev (.tmp 59) = cv AB := hr (59, some 2) (by simp); have r1 : ev (.tmp 62) = cv AB := hr (62, some 5) (by simp); have hk := he.1; clear hr he
                exact exec_eqlCell rfl r0 r1 (EAB.out wq)
              refine VFrom.cons (VStep.val _ rfl _ rfl (.bool true) rfl trivial (fun ev wq hS he hr => ?_)) ?_
              · have r0 : ev (.tmp 63) = .bool true := hr (63, some 6) (by simp); have hk := he.1; clear hr he
                go_simp
              refine VFrom.cons (VStep.val _ rfl _ rfl (cv a) rfl rfl (fun ev wq hS he hr => ?_)) ?_
              · have r0 : ev (.tmp 3) = .pointer (some ⟨b3, 0, none⟩) := hr (3, none) (by simp); have hk := he.1; clear hr he
                exact exec_load rfl r0 (load_cell HA.out (range_of (R0.out.kept hS.out (fun h => h))))
              refine VFrom.cons (VStep.val _ rfl _ rfl (cv b) rfl rfl (fun ev wq hS he hr => ?_)) ?_
              · have r0 : ev (.tmp 4) = .pointer (some ⟨b4, 0, none⟩) := hr (4, none) (by simp); have hk := he.1; clear hr he
                exact exec_load rfl r0 (load_cell HB.out (range_of (R1.out.kept hS.out (fun h => h))))
              refine VFrom.cons (VStep.call _ rfl _ rfl (cv AB) rfl rfl 14 #[cv a, cv b] (fun ev wq hS he hr => ?_) (fun wq hS => ?_)) ?_
              · have r0 : ev (.tmp 65) = cv a := hr (65, some 8) (by simp); have r1 : ev (.tmp 66) = cv b := hr (66, some 9) (by simp); have hk := he.1; have hf := he.2; clear hr he
                go_simp
              · exact (CAB.out wq).mono fun e w' ⟨h1, h2⟩ => ⟨h1, hS.out.trans h2 (fun _ _ h => h)⟩
              refine VFrom.cons (VStep.val _ rfl _ rfl (cv c) rfl rfl (fun ev wq hS he hr => ?_)) ?_
              · have r0 : ev (.tmp 5) = .pointer (some ⟨b5, 0, none⟩) := hr (5, none) (by simp); have hk := he.1; clear hr he
                exact exec_load rfl r0 (load_cell HC.out (range_of (R2.out.kept hS.out (fun h => h))))
              refine VFrom.cons (VStep.call _ rfl _ rfl (cv ABC) rfl rfl 14 #[cv AB, cv c] (fun ev wq hS he hr => ?_) (fun wq hS => ?_)) ?_
              · have r0 : ev (.tmp 67) = cv AB := hr (67, some 10) (by simp); have r1 : ev (.tmp 68) = cv c := hr (68, some 11) (by simp); have hk := he.1; have hf := he.2; clear hr he
                go_simp
              · exact (CABC.out wq).mono fun e w' ⟨h1, h2⟩ => ⟨h1, hS.out.trans h2 (fun _ _ h => h)⟩
              refine VFrom.cons (VStep.val _ rfl _ rfl (cv a) rfl rfl (fun ev wq hS he hr => ?_)) ?_
              · have r0 : ev (.tmp 3) = .pointer (some ⟨b3, 0, none⟩) := hr (3, none) (by simp); have hk := he.1; clear hr he
                exact exec_load rfl r0 (load_cell HA.out (range_of (R0.out.kept hS.out (fun h => h))))
              refine VFrom.cons (VStep.val _ rfl _ rfl (cv b) rfl rfl (fun ev wq hS he hr => ?_)) ?_
              · have r0 : ev (.tmp 4) = .pointer (some ⟨b4, 0, none⟩) := hr (4, none) (by simp); have hk := he.1; clear hr he
                exact exec_load rfl r0 (load_cell HB.out (range_of (R1.out.kept hS.out (fun h => h))))
              refine VFrom.cons (VStep.val _ rfl _ rfl (cv c) rfl rfl (fun ev wq hS he hr => ?_)) ?_
              · have r0 : ev (.tmp 5) = .pointer (some ⟨b5, 0, none⟩) := hr (5, none) (by simp); have hk := he.1; clear hr he
                exact exec_load rfl r0 (load_cell HC.out (range_of (R2.out.kept hS.out (fun h => h))))
              refine VFrom.cons (VStep.call _ rfl _ rfl (cv BC) rfl rfl 14 #[cv b, cv c] (fun ev wq hS he hr => ?_) (fun wq hS => ?_)) ?_
              · have r0 : ev (.tmp 71) = cv b := hr (71, some 14) (by simp); have r1 : ev (.tmp 72) = cv c := hr (72, some 15) (by simp); have hk := he.1; have hf := he.2; clear hr he
                go_simp
              · exact (CBC.out wq).mono fun e w' ⟨h1, h2⟩ => ⟨h1, hS.out.trans h2 (fun _ _ h => h)⟩
              refine VFrom.cons (VStep.call _ rfl _ rfl (cv ABC) rfl rfl 14 #[cv a, cv BC] (fun ev wq hS he hr => ?_) (fun wq hS => ?_)) ?_
              · have r0 : ev (.tmp 70) = cv a := hr (70, some 13) (by simp); have r1 : ev (.tmp 73) = cv BC := hr (73, some 16) (by simp); have hk := he.1; have hf := he.2; clear hr he
                go_simp
              · exact (CA9.out wq).mono fun e w' ⟨h1, h2⟩ => ⟨h1, hS.out.trans h2 (fun _ _ h => h)⟩
              refine VFrom.cons (VStep.val _ rfl _ rfl (.bool true) rfl rfl (fun ev wq hS he hr => ?_)) ?_
              · have r0 : ev (.tmp 69) = cv ABC := hr (69, some 12) (by simp); have r1 : ev (.tmp 74) = cv ABC := hr (74, some 17) (by simp); have hk := he.1; clear hr he
                exact exec_eqlCell rfl r0 r1 (EABC.out wq)
              refine VFrom.cons (VStep.val _ rfl _ rfl (.bool true) rfl trivial (fun ev wq hS he hr => ?_)) ?_
              · have r0 : ev (.tmp 64) = .bool true := hr (64, some 7) (by simp); have r1 : ev (.tmp 75) = .bool true := hr (75, some 18) (by simp); have hk := he.1; clear hr he
                go_simp
              refine VFrom.cons (VStep.val _ rfl _ rfl (.bool true) rfl trivial (fun ev wq hS he hr => ?_)) ?_
              · have r0 : ev (.tmp 76) = .bool true := hr (76, some 19) (by simp); have hk := he.1; clear hr he
                go_simp
              refine VFrom.cons (VStep.val _ rfl _ rfl (cv a) rfl rfl (fun ev wq hS he hr => ?_)) ?_
              · have r0 : ev (.tmp 3) = .pointer (some ⟨b3, 0, none⟩) := hr (3, none) (by simp); have hk := he.1; clear hr he
                exact exec_load rfl r0 (load_cell HA.out (range_of (R0.out.kept hS.out (fun h => h))))
              refine VFrom.cons (VStep.val _ rfl _ rfl (cv b) rfl rfl (fun ev wq hS he hr => ?_)) ?_
              · have r0 : ev (.tmp 4) = .pointer (some ⟨b4, 0, none⟩) := hr (4, none) (by simp); have hk := he.1; clear hr he
                exact exec_load rfl r0 (load_cell HB.out (range_of (R1.out.kept hS.out (fun h => h))))
              refine VFrom.cons (VStep.call _ rfl _ rfl (cv AB) rfl rfl 14 #[cv a, cv b] (fun ev wq hS he hr => ?_) (fun wq hS => ?_)) ?_
              · have r0 : ev (.tmp 78) = cv a := hr (78, some 21) (by simp); have r1 : ev (.tmp 79) = cv b := hr (79, some 22) (by simp); have hk := he.1; have hf := he.2; clear hr he
                go_simp
              · exact (CAB.out wq).mono fun e w' ⟨h1, h2⟩ => ⟨h1, hS.out.trans h2 (fun _ _ h => h)⟩
              refine VFrom.cons (VStep.val _ rfl _ rfl (cv b) rfl rfl (fun ev wq hS he hr => ?_)) ?_
              · have r0 : ev (.tmp 4) = .pointer (some ⟨b4, 0, none⟩) := hr (4, none) (by simp); have hk := he.1; clear hr he
                exact exec_load rfl r0 (load_cell HB.out (range_of (R1.out.kept hS.out (fun h => h))))
              refine VFrom.cons (VStep.call _ rfl _ rfl (cv a) rfl rfl 15 #[cv AB, cv b] (fun ev wq hS he hr => ?_) (fun wq hS => ?_)) ?_
              · have r0 : ev (.tmp 80) = cv AB := hr (80, some 23) (by simp); have r1 : ev (.tmp 81) = cv b := hr (81, some 24) (by simp); have hk := he.1; have hf := he.2; clear hr he
                go_simp
              · exact (SAB.out wq).mono fun e w' ⟨h1, h2⟩ => ⟨h1, hS.out.trans h2 (fun _ _ h => h)⟩
              refine VFrom.cons (VStep.val _ rfl _ rfl (cv a) rfl rfl (fun ev wq hS he hr => ?_)) ?_
              · have r0 : ev (.tmp 3) = .pointer (some ⟨b3, 0, none⟩) := hr (3, none) (by simp); have hk := he.1; clear hr he
                exact exec_load rfl r0 (load_cell HA.out (range_of (R0.out.kept hS.out (fun h => h))))
              refine VFrom.cons (VStep.val _ rfl _ rfl (.bool true) rfl rfl (fun ev wq hS he hr => ?_)) ?_
              · have r0 : ev (.tmp 82) = cv a := hr (82, some 25) (by simp); have r1 : ev (.tmp 83) = cv a := hr (83, some 26) (by simp); have hk := he.1; clear hr he
                exact exec_eqlCell rfl r0 r1 (EA.out wq)
              refine VFrom.cons (VStep.val _ rfl _ rfl (.bool true) rfl trivial (fun ev wq hS he hr => ?_)) ?_
              · have r0 : ev (.tmp 77) = .bool true := hr (77, some 20) (by simp); have r1 : ev (.tmp 84) = .bool true := hr (84, some 27) (by simp); have hk := he.1; clear hr he
                go_simp
              refine VFrom.cons (VStep.val _ rfl _ rfl (.bool true) rfl trivial (fun ev wq hS he hr => ?_)) ?_
              · have r0 : ev (.tmp 85) = .bool true := hr (85, some 28) (by simp); have hk := he.1; clear hr he
                go_simp
              refine VFrom.cons (VStep.val _ rfl _ rfl (cv a) rfl rfl (fun ev wq hS he hr => ?_)) ?_
              · have r0 : ev (.tmp 3) = .pointer (some ⟨b3, 0, none⟩) := hr (3, none) (by simp); have hk := he.1; clear hr he
                exact exec_load rfl r0 (load_cell HA.out (range_of (R0.out.kept hS.out (fun h => h))))
              refine VFrom.cons (VStep.val _ rfl _ rfl (cv a) rfl rfl (fun ev wq hS he hr => ?_)) ?_
              · have r0 : ev (.tmp 3) = .pointer (some ⟨b3, 0, none⟩) := hr (3, none) (by simp); have hk := he.1; clear hr he
                exact exec_load rfl r0 (load_cell HA.out (range_of (R0.out.kept hS.out (fun h => h))))
              refine VFrom.cons (VStep.call _ rfl _ rfl (cv c0) rfl rfl 15 #[cv a, cv a] (fun ev wq hS he hr => ?_) (fun wq hS => ?_)) ?_
              · have r0 : ev (.tmp 87) = cv a := hr (87, some 30) (by simp); have r1 : ev (.tmp 88) = cv a := hr (88, some 31) (by simp); have hk := he.1; have hf := he.2; clear hr he
                go_simp
              · exact (SAA.out wq).mono fun e w' ⟨h1, h2⟩ => ⟨h1, hS.out.trans h2 (fun _ _ h => h)⟩
              refine VFrom.cons (VStep.val _ rfl _ rfl (cv c0) rfl rfl (fun ev wq hS he hr => ?_)) ?_
              · have hk := he.1; clear hr he
                exact exec_build rfl (by simp) (build_c0 wq)
              refine VFrom.cons (VStep.val _ rfl _ rfl (.bool true) rfl rfl (fun ev wq hS he hr => ?_)) ?_
              · have r0 : ev (.tmp 89) = cv c0 := hr (89, some 32) (by simp); have r1 : ev (.tmp 90) = cv c0 := hr (90, some 33) (by simp); have hk := he.1; clear hr he
                exact exec_eqlCell rfl r0 r1 (E0.out wq)
              refine VFrom.cons (VStep.val _ rfl _ rfl (.bool true) rfl trivial (fun ev wq hS he hr => ?_)) ?_
              · have r0 : ev (.tmp 86) = .bool true := hr (86, some 29) (by simp); have r1 : ev (.tmp 91) = .bool true := hr (91, some 34) (by simp); have hk := he.1; clear hr he
                go_simp
              refine VFrom.cons (VStep.val _ rfl _ rfl (.bool true) rfl trivial (fun ev wq hS he hr => ?_)) ?_
              · have r0 : ev (.tmp 92) = .bool true := hr (92, some 35) (by simp); have hk := he.1; clear hr he
                go_simp
              refine VFrom.cons (VStep.val _ rfl _ rfl (cv X) rfl rfl (fun ev wq hS he hr => ?_)) ?_
              · have r0 : ev (.tmp 8) = .pointer (some ⟨B, 0, none⟩) := hr (8, none) (by simp); have hk := he.1; clear hr he
                exact exec_load rfl r0 (load_cell XO.out (range_of (HX9.out.kept hS.out (fun h => h))))
              refine VFrom.cons (VStep.val _ rfl _ rfl (markV m) rfl rfl (fun ev wq hS he hr => ?_)) ?_
              · have r0 : ev (.tmp 6) = .pointer (some ⟨b6, 0, none⟩) := hr (6, none) (by simp); have hk := he.1; clear hr he
                exact exec_load rfl r0 (load_mark HM.out (range_of (R3.out.kept hS.out (fun h => h))))
              refine VFrom.cons (VStep.call _ rfl _ rfl (cv X) rfl rfl 12 #[markV m] (fun ev wq hS he hr => ?_) (fun wq hS => ?_)) ?_
              · have r0 : ev (.tmp 95) = markV m := hr (95, some 38) (by simp); have hk := he.1; have hf := he.2; clear hr he
                go_simp
              · exact (CO.out wq).mono fun e w' ⟨h1, h2⟩ => ⟨h1, hS.out.trans h2 (fun _ _ h => h)⟩
              refine VFrom.cons (VStep.val _ rfl _ rfl (.bool true) rfl rfl (fun ev wq hS he hr => ?_)) ?_
              · have r0 : ev (.tmp 94) = cv X := hr (94, some 37) (by simp); have r1 : ev (.tmp 96) = cv X := hr (96, some 39) (by simp); have hk := he.1; clear hr he
                exact exec_eqlCell rfl r0 r1 (EX.out wq)
              refine VFrom.cons (VStep.val _ rfl _ rfl (.bool true) rfl trivial (fun ev wq hS he hr => ?_)) ?_
              · have r0 : ev (.tmp 93) = .bool true := hr (93, some 36) (by simp); have r1 : ev (.tmp 97) = .bool true := hr (97, some 40) (by simp); have hk := he.1; clear hr he
                go_simp
              refine VFrom.cons (VStep.val _ rfl _ rfl (.bool true) rfl trivial (fun ev wq hS he hr => ?_)) ?_
              · have r0 : ev (.tmp 98) = .bool true := hr (98, some 41) (by simp); have hk := he.1; clear hr he
                go_simp
              refine VFrom.cons (VStep.val _ rfl _ rfl (cv X) rfl rfl (fun ev wq hS he hr => ?_)) ?_
              · have r0 : ev (.tmp 8) = .pointer (some ⟨B, 0, none⟩) := hr (8, none) (by simp); have hk := he.1; clear hr he
                exact exec_load rfl r0 (load_cell XO.out (range_of (HX9.out.kept hS.out (fun h => h))))
              refine VFrom.cons (VStep.call _ rfl _ rfl (.int .i64 1) rfl rfl 17 #[cv X] (fun ev wq hS he hr => ?_) (fun wq hS => ?_)) ?_
              · have r0 : ev (.tmp 100) = cv X := hr (100, some 43) (by simp); have hk := he.1; have hf := he.2; clear hr he
                go_simp
              · exact (PX.out wq).mono fun e w' ⟨h1, h2⟩ => ⟨h1, hS.out.trans h2 (fun _ _ h => h)⟩
              refine VFrom.cons (VStep.val _ rfl _ rfl (.bool true) rfl rfl (fun ev wq hS he hr => ?_)) ?_
              · have r0 : ev (.tmp 101) = .int .i64 1 := hr (101, some 44) (by simp); have hk := he.1; clear hr he
                go_simp
              refine VFrom.cons (VStep.val _ rfl _ rfl (.bool true) rfl trivial (fun ev wq hS he hr => ?_)) ?_
              · have r0 : ev (.tmp 99) = .bool true := hr (99, some 42) (by simp); have r1 : ev (.tmp 102) = .bool true := hr (102, some 45) (by simp); have hk := he.1; clear hr he
                go_simp
              refine VFrom.cons (VStep.val _ rfl _ rfl (.bool true) rfl trivial (fun ev wq hS he hr => ?_)) ?_
              · have r0 : ev (.tmp 103) = .bool true := hr (103, some 46) (by simp); have hk := he.1; clear hr he
                go_simp
              refine VFrom.cons (VStep.val _ rfl _ rfl (cv c0) rfl rfl (fun ev wq hS he hr => ?_)) ?_
              · have hk := he.1; clear hr he
                exact exec_build rfl (by simp) (build_c0 wq)
              refine VFrom.cons (VStep.val _ rfl _ rfl (cv X) rfl rfl (fun ev wq hS he hr => ?_)) ?_
              · have r0 : ev (.tmp 8) = .pointer (some ⟨B, 0, none⟩) := hr (8, none) (by simp); have hk := he.1; clear hr he
                exact exec_load rfl r0 (load_cell XO.out (range_of (HX9.out.kept hS.out (fun h => h))))
              refine VFrom.cons (VStep.call _ rfl _ rfl (cv NX) rfl rfl 15 #[cv c0, cv X] (fun ev wq hS he hr => ?_) (fun wq hS => ?_)) ?_
              · have r0 : ev (.tmp 105) = cv c0 := hr (105, some 48) (by simp); have r1 : ev (.tmp 106) = cv X := hr (106, some 49) (by simp); have hk := he.1; have hf := he.2; clear hr he
                go_simp
              · exact (SX.out wq).mono fun e w' ⟨h1, h2⟩ => ⟨h1, hS.out.trans h2 (fun _ _ h => h)⟩
              refine VFrom.cons (VStep.call _ rfl _ rfl (.int .i64 (-1)) rfl rfl 17 #[cv NX] (fun ev wq hS he hr => ?_) (fun wq hS => ?_)) ?_
              · have r0 : ev (.tmp 107) = cv NX := hr (107, some 50) (by simp); have hk := he.1; have hf := he.2; clear hr he
                go_simp
              · exact (PN.out wq).mono fun e w' ⟨h1, h2⟩ => ⟨h1, hS.out.trans h2 (fun _ _ h => h)⟩
              refine VFrom.cons (VStep.val _ rfl _ rfl (.bool true) rfl rfl (fun ev wq hS he hr => ?_)) ?_
              · have r0 : ev (.tmp 108) = .int .i64 (-1) := hr (108, some 51) (by simp); have hk := he.1; clear hr he
                go_simp
              refine VFrom.cons (VStep.val _ rfl _ rfl (.bool true) rfl trivial (fun ev wq hS he hr => ?_)) ?_
              · have r0 : ev (.tmp 104) = .bool true := hr (104, some 47) (by simp); have r1 : ev (.tmp 109) = .bool true := hr (109, some 52) (by simp); have hk := he.1; clear hr he
                go_simp
              refine VFrom.cons (VStep.val _ rfl _ rfl (.bool true) rfl trivial (fun ev wq hS he hr => ?_)) ?_
              · have r0 : ev (.tmp 110) = .bool true := hr (110, some 53) (by simp); have hk := he.1; clear hr he
                go_simp
              exact VFrom.nil
            case hS => exact hid ((Kp.refl Nb wr).drew)
            case hend =>
              intro wy kh
              have K9 := hid (KW.out.trans kh.out (fun _ _ h => h))
              clear kh
              simp only [putAll, List.zip_cons_cons, List.zip_nil_right, List.foldl_cons, List.foldl_nil, Act.put, List.setIfInBounds_toArray, List.set_cons_zero, List.set_cons_succ]
              go_wp2
              go_ret
              exact ⟨rfl, K9.out⟩

end Go.Proofs.Ytofjkaemakdmeaa
