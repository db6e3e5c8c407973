/-
  Layer 9: least; two sets beside one another: the iterator. Conditions: marks of 16 bytes.
-/
import Derived.Test.YtijlmfmpfjjlpaaMaB
import Derived.Test.YtijlmfmpfjjlpaaSeqW
import Derived.Test.YtijlmfmpfjjlpaaGhostR
import Derived.RangeFuncNested
import Derived.RangeFuncBound
import Derived.RangeFuncCalls
import Derived.RangeFuncLeaves
import Derived.Shelf.Abstract
import Derived.Shelf.RegionOpen
import Derived.OwnWalkIn
import Derived.TacticsInMore
import Derived.LoopNIn
import Derived.LoopIn
namespace Go.Proofs.Ytijlmfmpfjjlpaa
open Go.RowKit Go.Shelf
attribute [local go_sem] Oper.semAt_some

theorem markAt_drop (ms : List (List Int)) (n i : Nat) : markAt (ms.drop n) i = markAt ms (n + i) := by
  unfold markAt
  rw [List.getElem?_drop]
theorem MkSl.cutL {w : World} {v : Value} {ms : List (List Int)} (h : MkSl w v ms) (n : Nat) (hn : n ≤ ms.length) :
    ∃ x d, (∀ W, (Instr.slice 22 v (some (.int .i64 (n : Int))) none none).run Try.prog W = .ok (.slice x (ms.length - n) d) W) ∧ MkSl w (.slice x (ms.length - n) d) (ms.drop n) := by
  obtain ⟨x, d, h1, h2⟩ := RowsSl.cutL (P := Try.prog) Try.underlying22 mark_info (mk_rows h) n hn
  exact ⟨x, d, h1, fun i => by rw [markAt_drop]; exact h.1 _, h2⟩
theorem MkSl.cutH {w : World} {v : Value} {ms : List (List Int)} (h : MkSl w v ms) (n : Nat) (hn : n ≤ ms.length) :
    ∃ x d, (∀ W, (Instr.slice 22 v none (some (.int .i64 (n : Int))) none).run Try.prog W = .ok (.slice x n d) W) ∧ MkSl w (.slice x n d) (ms.take n) := by
  obtain ⟨x, d, h1, h2⟩ := RowsSl.cutH (P := Try.prog) Try.underlying22 mark_info (mk_rows h) n hn
  refine ⟨x, d, h1, fun i => ?_, h2⟩
  unfold markAt
  by_cases hi : i < n
  · rw [List.getElem?_take_of_lt hi]; exact h.1 i
  · rw [List.getElem?_eq_none (by rw [List.length_take]; omega)]; exact zero_ok
theorem mk_new (w : World) : (Instr.alloc 24 true (.tuple #[])).run Try.prog w = .ok (.pointer (some ⟨w.heap.size, 0, none⟩)) (w.alloc (.cells (markL (List.replicate 16 0)).toArray 24)) := by kernel_rfl
theorem exec_allocM {P : Program} {ev : Operand → Value} {o : Oper} {T : TypeId} {v : Value} {w w' : World} (ho : o.op = .alloc T) (hl : (Instr.alloc T true (.tuple #[])).run P w = .ok v w') : (execOp ev o).run P w = .ok (.value v) w' := by
  unfold execOp
  simp only [ho, Sem.run_bind, Sem.run_pure, Result.andThen_ok, hl]
theorem mk_put {w : World} {B : Nat} {q : List Value} (hq : q.length = 16) (h : Blk w B 24 q) {r : List Int} (hr : MarkOk r) : ∃ W', (Instr.storeAt 24 (.pointer (some ⟨B, 0, none⟩)) (markV r)).run Try.prog w = .ok () W' ∧ Blk W' B 24 (markL r) ∧ Kp (Jb B) w W' :=
  ⟨w.setCells B 0 (markL r), run_storeAt_mid w B 0 24 (markL r).toArray (mark_there h hq hr) (mark_sized hr) (all_oneCell_toArray (markL_one r)), row_set h (by rw [markL_length, hr.len, hq]), Kp.setCells (S := Jb B) (fun _ => rfl) _ _ _ (Kp.refl _ w)⟩
theorem mk_fresh (w : World) {r : List Int} (hr : MarkOk r) : ∃ W', (Instr.storeAt 24 (.pointer (some ⟨w.heap.size, 0, none⟩)) (markV r)).run Try.prog (w.alloc (.cells (markL (List.replicate 16 0)).toArray 24)) = .ok () W' ∧ Blk W' w.heap.size 24 (markL r) ∧ Kp Nb w W' := by
  obtain ⟨W', h1, h2, h3⟩ := mk_put (by simp [markL]) (Blk.new w 24 (markL (List.replicate 16 0))) hr
  exact ⟨W', h1, h2, ⟨h3.os, h3.tape, h3.output, Nat.le_trans (by simp) h3.size, fun i hi _ => (h3.block i (by simp; omega) (fun e => by have : i = w.heap.size := e; omega)).trans (Below.heap_alloc _ _ _ hi)⟩⟩
theorem wpList_storeM {P : Program} {ops : Array Oper} {rest : List Oper} {o : Oper} {a : Act} {w w' : World} {Q : Exit → Act → World → Prop} (hg : o.guard = none) (T : TypeId) (x y : Operand) (hop : o.op = .store T x y) {p : Addr} {v : Value} (hx : a.eval x = .pointer (some p)) (hy : a.eval y = v) (hl : (Instr.storeAt T (.pointer (some p)) v).run P w = .ok () w')
    (hK : wpList P ops Q rest (a.put o.dst undef) w') : wpList P ops Q (o :: rest) a w := wpList_plain hg fun _ h => wp_store_at T x y hop hx hy hl (h _ _ hK)
/-- The two results of a function: a variable's cells and a slot. -/
theorem results_ct {P : Program} {w : World} {fn : Func} {s t : Tmp} {T : TypeId} (h : fn.results = #[.cell s T, .tmp t]) (tmps : Array Value) (B : Nat) (ht : tmps.getD s undef = .pointer (some ⟨B, 0, none⟩)) (v u : Value) (hu : tmps.getD t undef = u) (hl : (loadVar T ⟨B, 0, none⟩).run P w = .ok v w) :
    (results fn tmps).run P w = .ok (.tuple #[v, u]) w := by
  simp only [Array.getD_eq_getD_getElem?] at ht hu
  simp [results, h, ht, hl, hu, asAddr]
theorem mark_loadVar {w : World} {B t : Nat} {m : List Int} (hm : MarkOk m) (h : Blk w B t (markL m)) : (loadVar 24 ⟨B, 0, none⟩).run Try.prog w = .ok (markV m) w :=
  row_loadVar under_mark rfl (mark_infoL m hm.len) h 0 (fun j _ => by rw [Nat.zero_add])
set_option maxRecDepth 100000 in
set_option maxHeartbeats 4000000 in
theorem least_any (va vb : Value) (xs ys : List (List Int)) (w : World) (ha : MkSl w va xs) (hb : MkSl w vb ys) (hne : ¬ (xs = [] ∧ ys = [])) :
    Calls Try.prog 74 #[va, vb] w fun e w' => e = .returned (.tuple #[markV (leastM xs ys).1, .int .i64 (leastM xs ys).2]) ∧ Kp Nb w w' := by
  obtain ⟨M, hM⟩ : ∃ M, w.heap.size = M := ⟨_, rfl⟩
  obtain ⟨W, hW⟩ : ∃ W, W = w.alloc (.cells (markL (List.replicate 16 0)).toArray 24) := ⟨_, rfl⟩
  have AL : Hid ((Instr.alloc 24 true (.tuple #[])).run Try.prog w = .ok (.pointer (some ⟨M, 0, none⟩)) W) := hid (by rw [hW, ← hM]; exact mk_new w)
  have D0 : Hid (Blk W M 24 (markL (List.replicate 16 0))) := hid (by rw [hW, ← hM]; exact Blk.new w _ _)
  have KW : Kp Nb w W := by rw [hW]; exact (Kp.refl Nb w).alloc _
  have ha' := ha.kept KW
  have hb' := hb.kept KW
  have K0 := hid KW
  have HM := hid hM
  obtain ⟨ya, da, rfl⟩ := ha.shape
  obtain ⟨yb, db, rfl⟩ := hb.shape
  -- a store of a mark into the result, wherever the walk stands
  have FIN : Hid (∀ (w1 : World) (m : List Int), MarkOk m → Kp Nb W w1 → ∃ W', (Instr.storeAt 24 (.pointer (some ⟨M, 0, none⟩)) (markV m)).run Try.prog w1 = .ok () W' ∧ Blk W' M 24 (markL m) ∧ Kp Nb w W') := hid (fun w1 m hm k => by
    obtain ⟨W', h1, h2, h3⟩ := mk_put (by simp [markL]) (D0.out.kept k (fun h => h)) hm
    exact ⟨W', h1, h2, (K0.out.trans k (fun _ _ h => h)).trans (S' := Jb M) h3 (fun i hi h => by have e2 : i = M := h; have := HM.out; omega)⟩)
  clear hW KW hM
  cases xs with
  | nil =>
    cases ys with
    | nil => exact absurd ⟨rfl, rfl⟩ hne
    | cons b ys =>
      obtain ⟨gb, ob, cb, eb, _, _, hcb⟩ := mk_shape hb' (by simp)
      cases eb
      have h0 := hcb 0 (by simp)
      simp only [Nat.zero_mul, Nat.add_zero] at h0
      obtain ⟨m, hm⟩ : ∃ m, markAt (b :: ys) 0 = m := ⟨_, rfl⟩
      rw [hm] at h0
      have HLM : Hid (leastM [] (b :: ys) = (m, 2)) := hid (by rw [← hm]; rfl)
      obtain ⟨n, hn⟩ : ∃ n, (b :: ys).length = n := ⟨_, rfl⟩
      have hn0 : 0 < n := by rw [← hn]; simp
      have hn1 : ((n : Int) == 0) = false := beq_eq_false_iff_ne.2 (by omega)
      have LD := hid (load_mark h0.1 h0.2)
      obtain ⟨W', s1, s2, s3⟩ := FIN.out W m h0.1 (Kp.refl _ _)
      have S1 := hid s1
      have S2 := hid s2
      have S3 := hid s3
      have OM := hid h0.1
      rw [HLM.out, hn]
      clear ha hb ha' hb' hcb h0 hm hn s1 s2 s3 hne
      go_enter Try.func74, Try.ntmps74
      go_wp2_with (first
        | (refine wpList_val (by rfl) _ _ (exec_allocM rfl AL.out) ?_)
        | (refine wpList_val (by rfl) _ _ (exec_loadM (a := ⟨gb, ob, none⟩) rfl (by rfl) LD.out) ?_)
        | (refine wpList_storeM rfl 24 (.tmp 4) (.tmp 19) rfl (p := ⟨M, 0, none⟩) (by rfl) (v := markV m) (by rfl) S1.out ?_))
      exact bodyPost_ret (results_ct rfl _ M (by rfl) _ _ (by rfl) (mark_loadVar OM.out S2.out)) rfl ⟨rfl, S3.out⟩
  | cons a xs =>
    obtain ⟨ga, oa, ca, ea, _, _, hca⟩ := mk_shape ha' (by simp)
    cases ea
    have h0 := hca 0 (by simp)
    simp only [Nat.zero_mul, Nat.add_zero] at h0
    rw [show markAt (a :: xs) 0 = a from rfl] at h0
    obtain ⟨N, hN⟩ : ∃ n, (a :: xs).length = n := ⟨_, rfl⟩
    have hn0 : 0 < N := by rw [← hN]; simp
    have hn1 : ((N : Int) == 0) = false := beq_eq_false_iff_ne.2 (by omega)
    have LDA := hid h0
    have HN0 : Hid (0 < (N : Int)) := hid (by omega)
    cases ys with
    | nil =>
      have HLM : Hid (leastM (a :: xs) [] = (a, 1)) := hid rfl
      have LD := hid (load_mark h0.1 h0.2)
      obtain ⟨W', s1, s2, s3⟩ := FIN.out W a h0.1 (Kp.refl _ _)
      have S1 := hid s1
      have S2 := hid s2
      have S3 := hid s3
      have OM := hid h0.1
      rw [HLM.out, hN]
      clear ha hb ha' hb' hca h0 hN s1 s2 s3 hne
      go_enter Try.func74, Try.ntmps74
      go_wp2_with (first
        | (refine wpList_val (by rfl) _ _ (exec_allocM rfl AL.out) ?_)
        | (refine wpList_val (by rfl) _ _ (exec_loadM (a := ⟨ga, oa, none⟩) rfl (by rfl) LD.out) ?_)
        | (refine wpList_storeM rfl 24 (.tmp 4) (.tmp 12) rfl (p := ⟨M, 0, none⟩) (by rfl) (v := markV a) (by rfl) S1.out ?_))
      exact bodyPost_ret (results_ct rfl _ M (by rfl) _ _ (by rfl) (mark_loadVar OM.out S2.out)) rfl ⟨rfl, S3.out⟩
    | cons b ys =>
      obtain ⟨gb, ob, cb, eb, _, _, hcb⟩ := mk_shape hb' (by simp)
      cases eb
      have h1 := hcb 0 (by simp)
      simp only [Nat.zero_mul, Nat.add_zero] at h1
      rw [show markAt (b :: ys) 0 = b from rfl] at h1
      obtain ⟨L, hL⟩ : ∃ n, (b :: ys).length = n := ⟨_, rfl⟩
      have hl0 : 0 < L := by rw [← hL]; simp
      have hl1 : ((L : Int) == 0) = false := beq_eq_false_iff_ne.2 (by omega)
      have HLA := hid h0
      have HLB := hid h1
      have HL0 : Hid (0 < (L : Int)) := hid (by omega)
      obtain ⟨r, hr⟩ : ∃ r, cmpM a b = r := ⟨_, rfl⟩
      have CC : Hid (∀ w, Calls Try.prog 9 #[markV a, markV b] w fun e w' => e = .returned (.int .i64 r) ∧ Kp Nb w w') := hid (fun w => by rw [← hr]; exact cmpg_kp a b w h0.1 h1.1)
      have HR := hid hr
      have HLM : Hid (leastM (a :: xs) (b :: ys) = if lexI a b then (a, 1) else if lexI b a then (b, 2) else (a, 3)) := hid rfl
      obtain ⟨lm, hlm⟩ : ∃ q, leastM (a :: xs) (b :: ys) = q := ⟨_, rfl⟩
      rw [hlm] at HLM ⊢
      rw [hN, hL]
      clear ha hb ha' hb' hca hcb h0 h1 hN hL hr hne hlm
      go_enter Try.func74, Try.ntmps74
      go_wp2_with (refine wpList_val (by rfl) _ _ (exec_allocM rfl AL.out) ?_)
      refine region_vals2 [none, none, none, none, none, none, none, none, none, none, none, none, none, none, none, none, none, none, none, none, some 0, some 1, some 2, some 3, some 4, some 5, some 6, none, none, none, none, none, none, none, none, none, none, none, none, none] [[(0, none)], [(20, some 0)], [(21, some 1)], [(1, none)], [(23, some 3)], [(24, some 4)], [(22, some 2), (25, some 5)]] [some 20, some 21, some 22, some 23, some 24, some 25, some 26] [.slice (some ⟨ga, oa, none⟩) N da, .pointer (some ⟨ga, oa, none⟩), markV a, .slice (some ⟨gb, ob, none⟩) L db, .pointer (some ⟨gb, ob, none⟩), markV b, .int .i64 r] (fun w' => Hid (Kp Nb W w')) (by kernel_rfl) (by kernel_rfl) (by kernel_rfl) ?hS (VFrom.all (n := 7) (by kernel_rfl) ?hstep) ?hend
      case hstep =>
        refine VFrom.cons (VStep.val _ rfl _ rfl (.slice (some ⟨ga, oa, none⟩) N da) rfl trivial (fun ev wq hS he hr => ?_)) ?_
        · have r0 : ev (.tmp 0) = .slice (some ⟨ga, oa, none⟩) N da := hr (0, none) (by simp); have hk := he.1; clear hr he
          go_simp
        refine VFrom.cons (VStep.val _ rfl _ rfl (.pointer (some ⟨ga, oa, none⟩)) rfl trivial (fun ev wq hS he hr => ?_)) ?_
        · have r0 : ev (.tmp 20) = .slice (some ⟨ga, oa, none⟩) N da := hr (20, some 0) (by simp); have hk := he.1; clear hr he
          have e1 := HN0.out
          go_simp
        refine VFrom.cons (VStep.val _ rfl _ rfl (markV a) rfl trivial (fun ev wq hS he hr => ?_)) ?_
        · have r0 : ev (.tmp 21) = .pointer (some ⟨ga, oa, none⟩) := hr (21, some 1) (by simp); have hk := he.1; clear hr he
          exact exec_loadM rfl r0 (load_mark HLA.out.1 (range_kept HLA.out.2 hS.out))
        refine VFrom.cons (VStep.val _ rfl _ rfl (.slice (some ⟨gb, ob, none⟩) L db) rfl trivial (fun ev wq hS he hr => ?_)) ?_
        · have r0 : ev (.tmp 1) = .slice (some ⟨gb, ob, none⟩) L db := hr (1, none) (by simp); have hk := he.1; clear hr he
          go_simp
        refine VFrom.cons (VStep.val _ rfl _ rfl (.pointer (some ⟨gb, ob, none⟩)) rfl trivial (fun ev wq hS he hr => ?_)) ?_
        · have r0 : ev (.tmp 23) = .slice (some ⟨gb, ob, none⟩) L db := hr (23, some 3) (by simp); have hk := he.1; clear hr he
          have e1 := HL0.out
          go_simp
        refine VFrom.cons (VStep.val _ rfl _ rfl (markV b) rfl trivial (fun ev wq hS he hr => ?_)) ?_
        · have r0 : ev (.tmp 24) = .pointer (some ⟨gb, ob, none⟩) := hr (24, some 4) (by simp); have hk := he.1; clear hr he
          exact exec_loadM rfl r0 (load_mark HLB.out.1 (range_kept HLB.out.2 hS.out))
        refine VFrom.cons (VStep.call _ rfl _ rfl (.int .i64 r) rfl trivial 9 #[markV a, markV b] (fun ev wq hS he hr => ?_) (fun wq hS => ?_)) ?_
        · have r0 : ev (.tmp 22) = markV a := hr (22, some 2) (by simp); have r1 : ev (.tmp 25) = markV b := hr (25, some 5) (by simp); have hk := he.1; have hf := he.2; clear hr he
          go_simp
        · exact (CC.out wq).mono fun e w' ⟨h1, h2⟩ => ⟨h1, hid (hS.out.trans h2 (fun _ _ h => h))⟩
        exact VFrom.nil
      case hS => exact hid (Kp.refl Nb W).drew
      case hend =>
        intro wy hy
        have KY := hid hy.out
        clear hy
        simp only [putAll, List.zip_cons_cons, List.zip_nil_right, List.foldl_cons, List.foldl_nil, Act.put, List.setIfInBounds_toArray, List.set_cons_zero, List.set_cons_succ]
        cases h1 : lexI a b with
        | true =>
          have h2 : r = -1 := by rw [← HR.out]; unfold cmpM; rw [h1]; rfl
          subst h2
          have HL2 : Hid (lm = (a, 1)) := hid (by rw [HLM.out, h1]; rfl)
          have LD := hid (load_mark HLA.out.1 (range_kept HLA.out.2 KY.out))
          obtain ⟨W', s1, s2, s3⟩ := FIN.out wy a HLA.out.1 KY.out
          have S1 := hid s1
          have S2 := hid s2
          have S3 := hid s3
          have OM := hid HLA.out.1
          clear s1 s2 s3 h1
          go_wp2_with (first
            | (refine wpList_val (by rfl) _ _ (exec_loadM (a := ⟨ga, oa, none⟩) rfl (by rfl) LD.out) ?_)
            | (refine wpList_storeM rfl 24 (.tmp 4) (.tmp 31) rfl (p := ⟨M, 0, none⟩) (by rfl) (v := markV a) (by rfl) S1.out ?_))
          exact bodyPost_ret (results_ct rfl _ M (by rfl) _ _ (by rfl) (mark_loadVar OM.out S2.out)) rfl ⟨by rw [HL2.out]; rfl, S3.out⟩
        | false =>
          cases h2 : lexI b a with
          | true =>
            have h3 : r = 1 := by rw [← HR.out]; unfold cmpM; rw [h1, h2]; rfl
            subst h3
            have HL2 : Hid (lm = (b, 2)) := hid (by rw [HLM.out, h1, h2]; rfl)
            have LD := hid (load_mark HLB.out.1 (range_kept HLB.out.2 KY.out))
            obtain ⟨W', s1, s2, s3⟩ := FIN.out wy b HLB.out.1 KY.out
            have S1 := hid s1
            have S2 := hid s2
            have S3 := hid s3
            have OM := hid HLB.out.1
            clear s1 s2 s3 h1 h2
            go_wp2_with (first
              | (refine wpList_val (by rfl) _ _ (exec_loadM (a := ⟨gb, ob, none⟩) rfl (by rfl) LD.out) ?_)
              | (refine wpList_storeM rfl 24 (.tmp 4) (.tmp 36) rfl (p := ⟨M, 0, none⟩) (by rfl) (v := markV b) (by rfl) S1.out ?_))
            exact bodyPost_ret (results_ct rfl _ M (by rfl) _ _ (by rfl) (mark_loadVar OM.out S2.out)) rfl ⟨by rw [HL2.out]; rfl, S3.out⟩
          | false =>
            have h3 : r = 0 := by rw [← HR.out]; unfold cmpM; rw [h1, h2]; rfl
            subst h3
            have HL2 : Hid (lm = (a, 3)) := hid (by rw [HLM.out, h1, h2]; rfl)
            have LD := hid (load_mark HLA.out.1 (range_kept HLA.out.2 KY.out))
            obtain ⟨W', s1, s2, s3⟩ := FIN.out wy a HLA.out.1 KY.out
            have S1 := hid s1
            have S2 := hid s2
            have S3 := hid s3
            have OM := hid HLA.out.1
            clear s1 s2 s3 h1 h2
            go_wp2_with (first
              | (refine wpList_val (by rfl) _ _ (exec_loadM (a := ⟨ga, oa, none⟩) rfl (by rfl) LD.out) ?_)
              | (refine wpList_storeM rfl 24 (.tmp 4) (.tmp 39) rfl (p := ⟨M, 0, none⟩) (by rfl) (v := markV a) (by rfl) S1.out ?_))
            exact bodyPost_ret (results_ct rfl _ M (by rfl) _ _ (by rfl) (mark_loadVar OM.out S2.out)) rfl ⟨by rw [HL2.out]; rfl, S3.out⟩

end Go.Proofs.Ytijlmfmpfjjlpaa
