/-
  Layer 9: Union, Minus, Meet. Conditions: at most 100,000 marks a list; the lists' blocks are in memory.
-/
import Derived.Test.YtijlmfmpfjjlpaaMaE
namespace Go.Proofs.Ytijlmfmpfjjlpaa
open Go.RowKit Go.Shelf
attribute [local go_sem] Oper.semAt_some

set_option maxRecDepth 100000 in
set_option maxHeartbeats 4000000 in
theorem those_nil_in (n : Nat) (h1 : 1 ≤ n) (va vb : Value) (xs ys : List (List Int)) (fA fB fC : Bool) (w : World) (ha : MkSl w va xs) (hb : MkSl w vb ys) (hx : xs.length ≤ 100000) (hy : ys.length ≤ 100000) (hr : (rightB xs && rightB ys) = false) :
    CallsIn Fence.wide n Try.prog 40 #[va, vb, .bool fA, .bool fB, .bool fC] w fun e w' => e = .returned (.slice none 0 0) ∧ Kp Nb w w' := by
  obtain ⟨rx, hrx⟩ : ∃ b, rightB xs = b := ⟨_, rfl⟩
  obtain ⟨ry, hry⟩ : ∃ b, rightB ys = b := ⟨_, rfl⟩
  have CA : Hid (∀ wx, Kp Nb w wx → Calls Try.prog 11 #[va] wx fun e w' => e = .returned (.bool rx) ∧ Kp Nb wx w') := hid (fun wx k => by have := mright_any va xs wx (ha.kept k) hx; rwa [hrx] at this)
  have CB : Hid (∀ wx, Kp Nb w wx → Calls Try.prog 11 #[vb] wx fun e w' => e = .returned (.bool ry) ∧ Kp Nb wx w') := hid (fun wx k => by have := mright_any vb ys wx (hb.kept k) hy; rwa [hry] at this)
  rw [hrx, hry] at hr
  obtain ⟨pa, da, rfl⟩ := ha.shape
  obtain ⟨pb, db, rfl⟩ := hb.shape
  obtain ⟨nA, hnA⟩ : ∃ n, xs.length = n := ⟨_, rfl⟩
  obtain ⟨nB, hnB⟩ : ∃ n, ys.length = n := ⟨_, rfl⟩
  rw [hnA] at CA ⊢
  rw [hnB] at CB ⊢
  clear ha hb hx hy hrx hry hnA hnB
  refine callsIn_of_wp Try.func40 rfl trivial ?_ rfl
  simp only [Try.ntmps40, List.size_toArray, List.length_cons, List.length_nil, Nat.reduceAdd, Nat.reduceSub, Array.replicate_succ, Array.replicate_zero, List.push_toArray, List.append_toArray, List.nil_append, List.cons_append]
  cases rx with
  | false =>
    gi_wp2
    refine wide_scope ?_
    gi_wp2_with (refine ⟨trivial, ?_⟩; gi_at_call 11; refine (callsIn_wide.2 (CA.out _ ((((Kp.refl Nb w).alloc _).alloc _).alloc _))).mono ?_; rintro r w1 ⟨rfl, k1⟩)
    refine ⟨trivial, ?_⟩
    gi_wp2
    dsimp only [Exit.noGoto]
    go_ret
    exact ⟨rfl, (((Kp.refl Nb w).alloc _).alloc _).alloc _ |>.trans k1 (fun _ _ h => h)⟩
  | true =>
    have hry : ry = false := by simpa using hr
    subst hry
    gi_wp2
    refine wide_scope ?_
    have C2 : Hid (∀ wx v, Kp Nb w wx → ((v = .slice pa nA da → False) → v = .slice pb nB db) → ∃ b, (v = .slice pa nA da → b = true ∨ b = false) ∧ Calls Try.prog 11 #[v] wx fun e w' => e = .returned (.bool b) ∧ Kp Nb wx w') := hid (fun wx v k h => by
      by_cases e : v = .slice pa nA da
      · exact ⟨true, fun _ => .inl rfl, by rw [e]; exact CA.out wx k⟩
      · exact ⟨false, fun _ => .inr rfl, by rw [h e]; exact CB.out wx k⟩)
    clear C2
    have K0 := hid ((((Kp.refl Nb w).alloc (.cells #[.bool fA] 4)).alloc (.cells #[.bool fB] 4)).alloc (.cells #[.bool fC] 4))
    obtain ⟨V3, hV3⟩ : ∃ V, V = ((w.alloc (.cells #[.bool fA] 4)).alloc (.cells #[.bool fB] 4)).alloc (.cells #[.bool fC] 4) := ⟨_, rfl⟩
    rw [← hV3] at K0 ⊢
    clear hV3
    gi_wp2_with (refine ⟨trivial, ?_⟩; gi_at_call 11; (first
      | (have hh := K4.out; refine (callsIn_wide.2 (CB.out _ K4.out)).mono ?_; rintro r w2 ⟨rfl, k2⟩; have K5 := hid (K4.out.trans k2 (fun _ _ h => h)); clear k2)
      | (refine (callsIn_wide.2 (CA.out _ K0.out)).mono ?_; rintro r w1 ⟨rfl, k1⟩; have K4 := hid (K0.out.trans k1 (fun _ _ h => h)); clear k1)))
    dsimp only [Exit.noGoto]
    go_ret
    exact ⟨rfl, K5.out⟩

/-- The set that those answers. -/
def thoseT (fA fB fC : Bool) (xs ys : List (List Int)) : List (List Int) := if rightB xs && rightB ys then ((mergeM xs ys).filter (pkF fA fB fC)).map (·.1) else []
theorem map_atP (L : List (List Int × Int)) : (List.range L.length).map (atP L) = L := by
  apply List.ext_getElem
  · simp
  · intro i h1 h2
    rw [List.getElem_map, List.getElem_range]
    unfold atP
    rw [List.getElem?_eq_getElem h2]
    rfl
theorem pickT_all (fA fB fC : Bool) (L : List (List Int × Int)) : pickT fA fB fC L (List.range L.length) = (L.filter (pkF fA fB fC)).map (·.1) := by
  unfold pickT
  rw [map_atP]
theorem thoseT_ok (fA fB fC : Bool) (xs ys : List (List Int)) (h1 : ∀ m ∈ xs, MarkOk m) (h2 : ∀ m ∈ ys, MarkOk m) : ∀ m ∈ thoseT fA fB fC xs ys, MarkOk m := fun m hm => by
  unfold thoseT at hm
  split at hm
  · obtain ⟨p, hp, rfl⟩ := List.mem_map.1 hm
    exact (mergeN_ok _ xs ys h1 h2 p (List.mem_filter.1 hp).1).1
  · cases hm
theorem thoseT_len (fA fB fC : Bool) (xs ys : List (List Int)) : (thoseT fA fB fC xs ys).length ≤ xs.length + ys.length := by
  have h : ∀ f (xs ys : List (List Int)), (mergeN f xs ys).length ≤ f := fun f => by
    induction f with
    | zero => intro xs ys; exact Nat.le_refl 0
    | succ f ih => intro xs ys; unfold mergeN; split
                   · exact Nat.zero_le _
                   · rw [List.length_cons]; exact Nat.succ_le_succ (ih _ _)
  unfold thoseT
  split
  · rw [List.length_map]
    exact Nat.le_trans (List.length_filter_le _ _) (h _ xs ys)
  · exact Nat.zero_le _
theorem mk_of_rows {w : World} {v : Value} {ms : List (List Int)} (h : RowsSl markL (List.replicate 16 0) 16 w v ms) (hok : ∀ m ∈ ms, MarkOk m) : MkSl w v ms := ⟨fun i => by
  unfold markAt
  cases e : ms[i]? with
  | none => exact zero_ok
  | some m => exact hok m (List.mem_of_getElem? e), h⟩
/-- A slice whose block is of this call's own, or none. -/
def OwnV (w : World) (v : Value) (w' : World) : Prop := ∀ g, v.ownBlock = some g → w.heap.size ≤ g ∧ g < w'.heap.size
theorem those_any (va vb : Value) (xs ys : List (List Int)) (fA fB fC : Bool) (w : World) (ha : MkSl w va xs) (hb : MkSl w vb ys) (hx : xs.length ≤ 100000) (hy : ys.length ≤ 100000)
    (hga : ∀ g, va.ownBlock = some g → g < w.heap.size) (hgb : ∀ g, vb.ownBlock = some g → g < w.heap.size) :
    Calls Try.prog 40 #[va, vb, .bool fA, .bool fB, .bool fC] w fun e w' => ∃ v', e = .returned v' ∧ MkSl w' v' (thoseT fA fB fC xs ys) ∧ OwnV w v' w' ∧ Kp Nb w w' := by
  cases hr : rightB xs && rightB ys with
  | false =>
    refine (callsIn_wide.1 (those_nil_in 3 (by omega) va vb xs ys fA fB fC w ha hb hx hy hr)).mono ?_
    rintro e w' ⟨rfl, k⟩
    refine ⟨_, rfl, ?_, by intro g hg; simp [Value.ownBlock] at hg, k⟩
    unfold thoseT
    rw [hr]
    exact ⟨fun i => by unfold markAt; exact zero_ok, .inl ⟨⟨_, _, rfl⟩, rfl⟩⟩
  | true =>
    have hr' := hr
    rw [Bool.and_eq_true] at hr
    refine (callsIn_wide.1 (those_in 3 (Nat.le_refl _) va vb xs ys fA fB fC w ha hb hx hy hr.1 hr.2 hga hgb)).mono ?_
    rintro e w' ⟨v', out, rfl, ho, own, k⟩
    have e1 : thoseT fA fB fC xs ys = out := by rw [ho, pickT_all]; unfold thoseT; rw [hr', if_pos rfl]
    have hok : ∀ m ∈ out, MarkOk m := by rw [← e1]; exact thoseT_ok fA fB fC xs ys ha.ok hb.ok
    rw [e1]
    exact ⟨v', rfl, mk_of_rows (rows_owned own (fun q hq => by rw [markL_length, (hok q hq).len])) hok, by intro g hg; exact ⟨(row_cells own hg).1, by obtain ⟨-, o, ho, -⟩ := row_cells own hg; exact (Array.getElem?_eq_some_iff.1 ho).1⟩, k⟩

set_option maxHeartbeats 1000000 in
theorem munion_any (va vb : Value) (xs ys : List (List Int)) (w : World) (ha : MkSl w va xs) (hb : MkSl w vb ys) (hx : xs.length ≤ 100000) (hy : ys.length ≤ 100000)
    (hga : ∀ g, va.ownBlock = some g → g < w.heap.size) (hgb : ∀ g, vb.ownBlock = some g → g < w.heap.size) :
    Calls Try.prog 18 #[va, vb] w fun e w' => ∃ v', e = .returned v' ∧ MkSl w' v' (thoseT true true true xs ys) ∧ OwnV w v' w' ∧ Kp Nb w w' := by
  have CC := hid (those_any va vb xs ys true true true w ha hb hx hy hga hgb)
  have HS := ha.shape
  have HS2 := hb.shape
  clear ha hb hx hy hga hgb
  obtain ⟨pa, da, rfl⟩ := HS
  obtain ⟨pb, db, rfl⟩ := HS2
  obtain ⟨nA, hnA⟩ : ∃ n, xs.length = n := ⟨_, rfl⟩
  obtain ⟨nB, hnB⟩ : ∃ n, ys.length = n := ⟨_, rfl⟩
  rw [hnA, hnB] at CC ⊢
  clear hnA hnB
  go_enter Try.func18, Try.ntmps18
  go_wp2_with (go_at_call 40; refine CC.out.mono ?_; rintro r w1 ⟨v1, rfl, h1, h2, k1⟩; obtain ⟨y, d, rfl⟩ := h1.shape; have H1 := hid h1; have H2 := hid h2; have K1 := hid k1; clear h1 h2 k1)
  go_ret
  exact ⟨_, rfl, H1.out, H2.out, K1.out⟩
set_option maxHeartbeats 1000000 in
theorem mminus_any (va vb : Value) (xs ys : List (List Int)) (w : World) (ha : MkSl w va xs) (hb : MkSl w vb ys) (hx : xs.length ≤ 100000) (hy : ys.length ≤ 100000)
    (hga : ∀ g, va.ownBlock = some g → g < w.heap.size) (hgb : ∀ g, vb.ownBlock = some g → g < w.heap.size) :
    Calls Try.prog 20 #[va, vb] w fun e w' => ∃ v', e = .returned v' ∧ MkSl w' v' (thoseT true false false xs ys) ∧ OwnV w v' w' ∧ Kp Nb w w' := by
  have CC := hid (those_any va vb xs ys true false false w ha hb hx hy hga hgb)
  have HS := ha.shape
  have HS2 := hb.shape
  clear ha hb hx hy hga hgb
  obtain ⟨pa, da, rfl⟩ := HS
  obtain ⟨pb, db, rfl⟩ := HS2
  obtain ⟨nA, hnA⟩ : ∃ n, xs.length = n := ⟨_, rfl⟩
  obtain ⟨nB, hnB⟩ : ∃ n, ys.length = n := ⟨_, rfl⟩
  rw [hnA, hnB] at CC ⊢
  clear hnA hnB
  go_enter Try.func20, Try.ntmps20
  go_wp2_with (go_at_call 40; refine CC.out.mono ?_; rintro r w1 ⟨v1, rfl, h1, h2, k1⟩; obtain ⟨y, d, rfl⟩ := h1.shape; have H1 := hid h1; have H2 := hid h2; have K1 := hid k1; clear h1 h2 k1)
  go_ret
  exact ⟨_, rfl, H1.out, H2.out, K1.out⟩
set_option maxHeartbeats 1000000 in
theorem mmeet_any (va vb : Value) (xs ys : List (List Int)) (w : World) (ha : MkSl w va xs) (hb : MkSl w vb ys) (hx : xs.length ≤ 100000) (hy : ys.length ≤ 100000)
    (hga : ∀ g, va.ownBlock = some g → g < w.heap.size) (hgb : ∀ g, vb.ownBlock = some g → g < w.heap.size) :
    Calls Try.prog 21 #[va, vb] w fun e w' => ∃ v', e = .returned v' ∧ MkSl w' v' (thoseT false false true xs ys) ∧ OwnV w v' w' ∧ Kp Nb w w' := by
  have CC := hid (those_any va vb xs ys false false true w ha hb hx hy hga hgb)
  have HS := ha.shape
  have HS2 := hb.shape
  clear ha hb hx hy hga hgb
  obtain ⟨pa, da, rfl⟩ := HS
  obtain ⟨pb, db, rfl⟩ := HS2
  obtain ⟨nA, hnA⟩ : ∃ n, xs.length = n := ⟨_, rfl⟩
  obtain ⟨nB, hnB⟩ : ∃ n, ys.length = n := ⟨_, rfl⟩
  rw [hnA, hnB] at CC ⊢
  clear hnA hnB
  go_enter Try.func21, Try.ntmps21
  go_wp2_with (go_at_call 40; refine CC.out.mono ?_; rintro r w1 ⟨v1, rfl, h1, h2, k1⟩; obtain ⟨y, d, rfl⟩ := h1.shape; have H1 := hid h1; have H2 := hid h2; have K1 := hid k1; clear h1 h2 k1)
  go_ret
  exact ⟨_, rfl, H1.out, H2.out, K1.out⟩
end Go.Proofs.Ytijlmfmpfjjlpaa
