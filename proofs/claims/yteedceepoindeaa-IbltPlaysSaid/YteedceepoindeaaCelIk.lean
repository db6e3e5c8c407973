/-
  Layer 10: cells and marks in memory, loaded, stored, held equal; slices of marks. Conditions: cells and marks are what their kinds hold.
-/
import Derived.Test.YteedceepoindeaaCelX
import Derived.Test.YteedceepoindeaaVars
import Derived.Test.YteedceepoindeaaRowCut
namespace Go.Proofs.Yteedceepoindeaa
open Go.RowKit

/-- A slice of marks. -/
def markAt (ms : List (List Int)) (i : Nat) : List Int := ms[i]?.getD (List.replicate 16 0)
def MkSl (w : World) (v : Value) (ms : List (List Int)) : Prop :=
  (∀ i, MarkOk (markAt ms i)) ∧ (((∃ a cap, v = .slice a 0 cap) ∧ ms = []) ∨ ∃ blk off cap, v = .slice (some ⟨blk, off, none⟩) ms.length cap ∧ ms.length ≤ cap ∧ cap ≤ maxLen ∧
    ∀ i, i < ms.length → w.rangeAt blk (off + i * 16) (markL (markAt ms i)))
theorem MkSl.kept {w w' : World} {v : Value} {ms : List (List Int)} (h : MkSl w v ms) (k : Kp Nb w w') : MkSl w' v ms := by
  refine ⟨h.1, ?_⟩
  rcases h.2 with h | ⟨blk, off, cap, rfl, hc, hm, hr⟩
  · exact .inl h
  · exact .inr ⟨blk, off, cap, rfl, hc, hm, fun i hi => range_kept (hr i hi) k⟩
theorem MkSl.shape {w : World} {v : Value} {ms : List (List Int)} (h : MkSl w v ms) : ∃ y d, v = .slice y ms.length d := by
  rcases h.2 with ⟨⟨a, c, rfl⟩, rfl⟩ | ⟨blk, off, cap, rfl, _⟩
  · exact ⟨a, c, rfl⟩
  · exact ⟨_, _, rfl⟩

abbrev cl (x : Cel) : List Value := cellL x.1 x.2.1 x.2.2
def caseL (a b c : Cel) (m : List Int) (vl vm : Value) : List Value := cl a ++ (cl b ++ (cl c ++ (markL m ++ [vl, vm])))
abbrev caseV (a b c : Cel) (m : List Int) (vl vm : Value) : Value := .agg (caseL a b c m vl vm).toArray
theorem cl_length {x : Cel} (h : CelOk x) : (cl x).length = 18 := cellL_length _ _ _ h.mark.len
section
variable {w : World} {B t : Nat} {a b c : Cel} {m : List Int} {vl vm : Value}
theorem app_left {α : Type} {u v : List α} : ∀ j, j < u.length → (u ++ v)[0 + j]? = u[j]? := fun j hj => by rw [Nat.zero_add]; exact List.getElem?_append_left hj
theorem app_right {α : Type} {u v x : List α} {n k : Nat} (hn : u.length = n) (h : ∀ j, j < x.length → v[k + j]? = x[j]?) : ∀ j, j < x.length → (u ++ v)[n + k + j]? = x[j]? := fun j hj => by
  rw [List.getElem?_append_right (by omega), show n + k + j - u.length = k + j from by omega]; exact h j hj
theorem case_a (h : Blk w B t (caseL a b c m vl vm)) : w.rangeAt B 0 (cl a) := h.range 0 _ app_left
theorem case_b (ha : CelOk a) (h : Blk w B t (caseL a b c m vl vm)) : w.rangeAt B 18 (cl b) := h.range 18 _ (app_right (k := 0) (cl_length ha) app_left)
theorem case_c (ha : CelOk a) (hb : CelOk b) (h : Blk w B t (caseL a b c m vl vm)) : w.rangeAt B 36 (cl c) := h.range 36 _ (app_right (k := 18) (cl_length ha) (app_right (k := 0) (cl_length hb) app_left))
theorem case_m (ha : CelOk a) (hb : CelOk b) (hc : CelOk c) (h : Blk w B t (caseL a b c m vl vm)) : w.rangeAt B 54 (markL m) :=
  h.range 54 _ (app_right (k := 36) (cl_length ha) (app_right (k := 18) (cl_length hb) (app_right (k := 0) (cl_length hc) app_left)))
theorem case_s (ha : CelOk a) (hb : CelOk b) (hc : CelOk c) (hm : MarkOk m) (h : Blk w B t (caseL a b c m vl vm)) : w.cell? ⟨B, 71, none⟩ = some vm := by
  have hr : w.rangeAt B 70 [vl, vm] := h.range 70 _ (app_right (k := 52) (cl_length ha) (app_right (k := 34) (cl_length hb) (app_right (k := 16) (cl_length hc) (app_right (n := 16) (k := 0) (by rw [markL_length, hm.len]) (fun j hj => by rw [Nat.zero_add])))))
  exact hr 1 vm rfl
end
theorem load_cell {w : World} {B o : Nat} {x : Cel} (hx : CelOk x) (h : w.rangeAt B o (cl x)) : (Instr.loadAt 41 (.pointer (some ⟨B, o, none⟩))).run Try.prog w = .ok (cv x) w := by
  obtain ⟨d, h1, h2⟩ := cell_under
  exact run_loadAt_mid w B o 41 (cl x) d h h1 h2 (cell_infoL _ _ _ hx.mark.len)
theorem load_mark {w : World} {B o : Nat} {m : List Int} (hm : MarkOk m) (h : w.rangeAt B o (markL m)) : (Instr.loadAt 23 (.pointer (some ⟨B, o, none⟩))).run Try.prog w = .ok (markV m) w :=
  run_loadAt_mid w B o 23 (markL m) _ h under_mark rfl (mark_infoL m hm.len)
theorem run_mark_eqD (d : Nat) (zs ys : List Int) (hz : zs.length = 16) (hy : ys.length = 16) (w : World) :
    (Op.equalIn (d + 2) 23 (bytesVal zs) (bytesVal ys)).run Try.prog w = .ok (decide (zs = ys)) w := by
  obtain ⟨i, hi⟩ := info_u8
  unfold bytesVal
  rw [run_equalIn_array w (d + 1) _ _ under_mark hi, cells_u8, eqItems_bytes d zs ys 16 hz hy w _ (fun i h => List.mem_range.1 h), all_range zs ys 16 hz hy]
theorem run_mark_same (d : Nat) (zs : List Int) (hz : zs.length = 16) (w : World) : (Op.equalIn (d + 2) 23 (bytesVal zs) (bytesVal zs)).run Try.prog w = .ok true w := by
  have e := run_mark_eqD d zs zs hz hz w
  rw [decide_eq_true rfl] at e
  exact e
set_option maxRecDepth 10000 in
theorem eq_cell (x : Cel) (hx : CelOk x) (w : World) : Sem.run Try.prog (Op.equalIn 10000 41 (cv x) (cv x)) w = .ok true w := by
  obtain ⟨c, m, k⟩ := x
  obtain ⟨m0, m1, m2, m3, m4, m5, m6, m7, m8, m9, m10, m11, m12, m13, m14, m15, rfl⟩ := sixteen m hx.mark.len
  clear hx
  have e : Sem.run Try.prog (Op.equalIn 9999 23 (.agg #[.int .u8 m0, .int .u8 m1, .int .u8 m2, .int .u8 m3, .int .u8 m4, .int .u8 m5, .int .u8 m6, .int .u8 m7, .int .u8 m8, .int .u8 m9, .int .u8 m10, .int .u8 m11, .int .u8 m12, .int .u8 m13, .int .u8 m14, .int .u8 m15]) (.agg #[.int .u8 m0, .int .u8 m1, .int .u8 m2, .int .u8 m3, .int .u8 m4, .int .u8 m5, .int .u8 m6, .int .u8 m7, .int .u8 m8, .int .u8 m9, .int .u8 m10, .int .u8 m11, .int .u8 m12, .int .u8 m13, .int .u8 m14, .int .u8 m15])) w = .ok true w := run_mark_same 9997 [m0, m1, m2, m3, m4, m5, m6, m7, m8, m9, m10, m11, m12, m13, m14, m15] rfl w
  dsimp only [cv, cellV, cellL, markL, List.map_cons, List.map_nil, List.cons_append, List.nil_append]
  go_simp
theorem store_cell {w : World} {B : Nat} {x : Cel} (hx : CelOk x) (ht : w.there B 0 (cl x).length) : (Instr.storeAt 41 (.pointer (some ⟨B, 0, none⟩)) (cv x)).run Try.prog w = .ok () (w.setCells B 0 (cl x)) :=
  run_storeAt_mid w B 0 41 (cl x).toArray (by simpa using ht) (by rw [List.size_toArray]; exact cell_infoL _ _ _ hx.mark.len) (all_oneCell_toArray (cellL_one _ _ _))
theorem store_mark {w : World} {B : Nat} {m : List Int} (hm : MarkOk m) (ht : w.there B 0 (markL m).length) : (Instr.storeAt 23 (.pointer (some ⟨B, 0, none⟩)) (markV m)).run Try.prog w = .ok () (w.setCells B 0 (markL m)) :=
  run_storeAt_mid w B 0 23 (markL m).toArray (by simpa using ht) (by rw [List.size_toArray]; exact mark_infoL _ hm.len) (all_oneCell_toArray (markL_one _))

theorem cof_c (m : List Int) (w : World) (hm : MarkOk m) : Calls Try.prog 43 #[markV m] w fun e w' => e = .returned (cv (ofC m)) ∧ Kp Nb w w' := cof_any m w hm
theorem cell_there {w : World} {B : Nat} {zs : List Value} {x : Cel} (h : Blk w B 41 zs) (hl : zs.length = 18) (hx : CelOk x) : w.there B 0 (cl x).toArray.size := by
  rw [List.size_toArray, cl_length hx]; exact h.there 0 18 (by omega)
theorem cell_sized {x : Cel} (hx : CelOk x) : (Try.prog.info? 41).map (·.size) = some (cl x).toArray.size := by rw [List.size_toArray, cl_length hx]; exact cell_info
theorem cv_end {R : Nat} {w' : World} {x : Cel} {zs : List Value} {o : Oper} {ad v : Operand} {a : Act} (hx : CelOk x) (hz : Blk w' R 41 zs) (hl : zs.length = 18)
    (ho : o.op = .store 41 ad v) (ha : a.eval ad = .pointer (some ⟨R, 0, none⟩)) (hv : a.eval v = cv x) {Q : Exit → Act → World → Prop}
    (h : Q .normal (a.put o.dst undef) (w'.setCells R 0 (cl x))) : Oper.wp Try.prog o a w' (fun a w => Q .normal a w) Q :=
  wp_store_mid 41 ad v ho R 0 (cl x).toArray ha hv (cell_there hz hl hx) (cell_sized hx) (all_oneCell_toArray (cellL_one _ _ _)) h
theorem mark_there {w : World} {B : Nat} {zs : List Value} {m : List Int} (h : Blk w B 23 zs) (hl : zs.length = 16) (hm : MarkOk m) : w.there B 0 (markL m).toArray.size := by
  rw [List.size_toArray, markL_length, hm.len]; exact h.there 0 16 (by omega)
theorem mark_sized {m : List Int} (hm : MarkOk m) : (Try.prog.info? 23).map (·.size) = some (markL m).toArray.size := by rw [List.size_toArray, markL_length, hm.len]; exact mark_info

end Go.Proofs.Yteedceepoindeaa
