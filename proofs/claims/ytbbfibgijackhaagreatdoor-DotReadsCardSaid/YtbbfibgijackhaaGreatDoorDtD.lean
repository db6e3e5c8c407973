/-
  Layer 3: Of, Top. Conditions: what these types hold; at most 2^20 runs.
-/
import Derived.Test.YtbbfibgijackhaaGreatDoorDtC
namespace Go.Proofs.YtbbfibgijackhaaGreatDoor
open Go.RowKit

theorem exec_buildSliceD {P : Program} {ev : Operand → Value} {o : Oper} {T : TypeId} {n : Nat} {ps : Array (Nat × Operand)} {qs : Array (Nat × Value)} {v : Value} {w w' : World} (ho : o.op = .buildSlice T n ps) (hq : (ps.map fun (i, x) => (i, ev x)) = qs) (hl : (Instr.buildSlice T n qs).run P w = .ok v w') : (execOp ev o).run P w = .ok (.value v) w' := by
  unfold execOp
  simp only [ho, hq, Sem.run_bind, Sem.run_pure, Result.andThen_ok, hl]
theorem make_run1 (w : World) (n f t : Int) : (Instr.buildSlice 23 1 #[(0, .agg #[.int .i64 n, .int .i64 f, .int .i64 t])]).run Tryz.prog w = .ok (.slice (some ⟨w.heap.size, 0, none⟩) 1 1) (w.alloc (.cells #[.int .i64 n, .int .i64 f, .int .i64 t] 61 (0, 0))) := by kernel_rfl
theorem rows_oneR {W : World} {B : Nat} {q : RunQ} (h : Blk W B 61 (runL q)) : RowsSl runL (0, 0, 0) 3 W (.slice (some ⟨B, 0, none⟩) 1 1) [q] := by
  refine .inr ⟨B, 0, 1, rfl, Nat.le_refl _, by unfold maxLen; omega, fun i hi => ?_⟩
  have e : i = 0 := by simp at hi; omega
  subst e
  exact h.range 0 _ (fun j _ => by rw [Nat.zero_add]; rfl)
theorem run_infoF : (Tryz.prog.info? 61).map (fun i => (i.zero, i.size, i.bytes)) = some (some (.agg #[.int .i64 0, .int .i64 0, .int .i64 0]), 3, 24) := by kernel_rfl
theorem run_info3 : ∃ i z, Tryz.prog.info? 61 = some i ∧ i.zero = some z ∧ i.size = 3 ∧ i.bytes = 24 ∧ z.cells.size = 3 := by
  obtain ⟨i, h1, h2, h3, h4⟩ := info_parts run_infoF
  exact ⟨i, _, h1, h2, h3, h4, rfl⟩
theorem under_clock : Tryz.prog.underlying 23 = some (.slice 61) := Tryz.underlying23
theorem cl_owned {w : World} {base : Nat} {v : Value} {c : List RunQ} (h : w.ownsRow base 61 3 v c.length (flatR runL c)) (hok : ∀ q ∈ c, RunOk q) : ClSl w v c := ⟨runAt_ok hok, rows_owned h (fun _ _ => rfl)⟩
theorem ownsRow_kpD {w w' : World} {base e size k : Nat} {v : Value} {xs : List Value} (h : w.ownsRow base e size v k xs) (hk : Kp Nb w w') : w'.ownsRow base e size v k xs :=
  ownsRow_same h (fun g hg => by obtain ⟨-, o, ho, -⟩ := row_cells h hg; exact hk.heap (Array.getElem?_eq_some_iff.1 ho).1 (fun h => h))
def OwnV (w : World) (v : Value) (w' : World) : Prop := ∀ g, v.ownBlock = some g → w.heap.size ≤ g ∧ g < w'.heap.size
theorem own_of {w w' : World} {e size k : Nat} {v : Value} {xs : List Value} (h : w'.ownsRow w.heap.size e size v k xs) : OwnV w v w' := fun g hg => by obtain ⟨h1, o, ho, -⟩ := row_cells h hg; exact ⟨h1, (Array.getElem?_eq_some_iff.1 ho).1⟩
theorem cl_nil (w : World) : ClSl w (.slice none 0 0) [] := ⟨runAt_ok (by simp), .inl ⟨⟨_, _, rfl⟩, rfl⟩⟩
theorem take_snocR (c : List RunQ) (k : Nat) (hk : k < c.length) : c.take (k + 1) = c.take k ++ [runAt c k] := by
  unfold runAt
  rw [List.take_succ_eq_append_getElem hk, List.getElem?_eq_getElem hk]
  rfl
def ofF (c : List RunQ) (n : Int) : List RunQ := c.filter fun r => decide (r.1 = n)
def ofC (c : List RunQ) (n : Int) : List RunQ := if rightC c then ofF c n else []
theorem ofF_snoc (c : List RunQ) (n : Int) (k : Nat) (hk : k < c.length) : ofF (c.take (k + 1)) n = ofF (c.take k) n ++ (if (runAt c k).1 = n then [runAt c k] else []) := by
  rw [take_snocR c k hk]
  unfold ofF
  rw [List.filter_append]
  congr 1
  by_cases h : (runAt c k).1 = n
  · simp [h]
  · simp [h]
theorem ofF_le (c : List RunQ) (n : Int) (k : Nat) : (ofF (c.take k) n).length ≤ k := Nat.le_trans (List.length_filter_le _ _) (by rw [List.length_take]; exact Nat.min_le_left _ _)
theorem ofF_mem {c : List RunQ} {n : Int} {k : Nat} {q : RunQ} (h : q ∈ ofF (c.take k) n) : q ∈ c := List.mem_of_mem_take (List.mem_filter.1 h).1
def OfR (w1 : World) (c : List RunQ) (n : Int) (u i : Value) (wr : World) : Prop := ∃ k : Nat, k ≤ c.length ∧ i = .int .i64 k ∧ Hid (wr.ownsRow w1.heap.size 61 3 u (ofF (c.take k) n).length (flatR runL (ofF (c.take k) n))) ∧ Hid (Kp Nb w1 wr)
set_option maxRecDepth 100000 in
set_option maxHeartbeats 4000000 in
theorem of_any (v : Value) (c : List RunQ) (n : Int) (w : World) (hs : ClSl w v c) (hbig : c.length ≤ 1048576) : Calls Tryz.prog 20 #[v, .int .i64 n] w fun e w' => ∃ v', e = .returned v' ∧ ClSl w' v' (ofC c n) ∧ OwnV w v' w' ∧ Kp Nb w w' := by
  obtain ⟨y, d, rfl⟩ := hs.shape
  obtain ⟨L, hL⟩ : ∃ L, c.length = L := ⟨_, rfl⟩
  have HLE := hid hL
  rw [hL] at hs hbig ⊢
  have HS0 := hid hs
  have hb20 : L ≤ 1048576 := hbig
  obtain ⟨rb, hrb⟩ : ∃ b, rightC c = b := ⟨_, rfl⟩
  have HRB := hid hrb
  clear hL hs hrb
  go_enter Tryz.func20, Tryz.ntmps20
  go_wp2_with fail
  refine (dright_any _ c w HS0.out (by have := HLE.out; omega)).mono ?_
  rintro r w1 ⟨rfl, k1⟩
  rw [HRB.out]
  have K1 := hid k1
  have HS := hid (HS0.out.kept k1)
  clear k1
  cases rb with
  | false =>
    have HE : Hid (ofC c n = []) := hid (by unfold ofC; rw [HRB.out]; rfl)
    go_wp2
    go_ret
    exact ⟨_, rfl, by rw [HE.out]; exact cl_nil _, fun g hg => by simp [Value.ownBlock] at hg, K1.out⟩
  | true =>
    have HE : Hid (ofC c n = ofF c n) := hid (by unfold ofC; rw [HRB.out]; rfl)
    go_wp2_with fail
    go_loopw [5, 13] (OfR w1 c n) (fun _ i _ => L - (intOf i).toNat)
    case atStart => exact ⟨0, Nat.zero_le _, rfl, hid (by rw [List.take_zero]; exact ⟨by simp [ofF, flatR], .inl ⟨rfl, rfl⟩⟩), hid (Kp.refl _ _)⟩
    case round =>
      obtain ⟨k, hk, rfl, HO, HK⟩ := hrel
      rw [HLE.out] at hk
      by_cases hlt : k < L
      · obtain ⟨blk, off, cap, e1, hc, hm, hcell⟩ := cl_shape (HS.out.kept HK.out) (by intro h; have := HLE.out; rw [h, List.length_nil] at this; omega)
        rw [HLE.out] at e1 hc hcell
        injection e1 with e1 _ e2
        subst e1 e2
        have HR := hid (hcell k hlt)
        obtain ⟨⟨qn, qf, qt⟩, hq⟩ : ∃ q, runAt c k = q := ⟨_, rfl⟩
        have HOK := HS.out.1 k
        rw [hq] at HR HOK
        have HQ := hid hq
        obtain ⟨M, hM⟩ : ∃ M, wr.heap.size = M := ⟨_, rfl⟩
        obtain ⟨W2, hW2⟩ : ∃ W, W = (wr.alloc (.cells (runL (0, 0, 0)).toArray 61)).setCells M 0 (runL (qn, qf, qt)) := ⟨_, rfl⟩
        have hz := Blk.new wr 61 (runL (0, 0, 0))
        rw [hM] at hz
        have KW : Hid (Kp Nb wr W2) := hid (by rw [hW2]; exact Kp.setCells (fun h => absurd h (by omega)) _ 0 _ ((Kp.refl Nb wr).alloc _))
        have HMW : Hid (wr.heap.size = M) := hid hM
        have TH := hid (run_there (q := (qn, qf, qt)) hz)
        have HZ : Hid (Blk W2 M 61 (runL (qn, qf, qt))) := hid (by rw [hW2]; exact row_set hz rfl)
        have HK2 := hid (HK.out.trans KW.out (fun _ _ h => h))
        unfold maxLen at hm
        obtain ⟨fs, hfs⟩ := under_run
        clear hz hcell hq
        go_upto_region 7 with (first
          | (refine wpList_load_mid (by rfl) 61 (.tmp 15) (by rfl) blk (off + k * 3) (by rfl) (runL (qn, qf, qt)) _ HR.out hfs rfl (run_infoL (qn, qf, qt)) ?_)
          | (refine wpList_store_mid (by rfl) 61 (.tmp 7) (.tmp 16) (by rfl) M 0 (runL (qn, qf, qt)).toArray (by rfl) (by rfl) TH.out (run_infoA (qn, qf, qt)) (run_one (qn, qf, qt)) ?_))
        rw [show (wr.alloc (.cells #[.int .i64 0, .int .i64 0, .int .i64 0] 61)).setCells M 0 (runL (qn, qf, qt)) = W2 from hW2.symm]
        clear hW2 TH hM
        have c0 : W2.cell? ⟨M, 0, none⟩ = some (.int .i64 qn) := HZ.out.cell 0
        have c1 : W2.cell? ⟨M, 1, none⟩ = some (.int .i64 qf) := HZ.out.cell 1
        have c2 : W2.cell? ⟨M, 2, none⟩ = some (.int .i64 qt) := HZ.out.cell 2
        have hsn := ofF_snoc c n k (by rw [HLE.out]; exact hlt)
        have hle := ofF_le c n k
        rw [HQ.out] at hsn
        dsimp only at hsn
        obtain ⟨P, hP⟩ : ∃ P, ofF (c.take k) n = P := ⟨_, rfl⟩
        rw [hP] at hsn hle HO
        have HSN := hid hsn
        have HLP := hid hle
        have HO2 := hid (ownsRow_kpD HO.out KW.out)
        obtain ⟨a5, c5, rfl⟩ := own_shape HO.out
        clear hP hsn hle HO
        by_cases h1 : qn = n
        · subst h1
          have HSN := hid (HSN.out.trans (by rw [if_pos rfl]))
          have MK := hid (make_run1 W2 qn qf qt)
          obtain ⟨i0, zz, hi, hz0, hz1, hz2, hz3⟩ := run_info3
          have B2 : Hid (P.length + [(qn, qf, qt)].length ≤ maxLen ∧ (P.length + [(qn, qf, qt)].length) * 24 ≤ 140737488355328 ∧ w1.heap.size ≤ (W2.alloc (.cells #[.int .i64 qn, .int .i64 qf, .int .i64 qt] 61 (0, 0))).heap.size) := hid (by
            have h1 := HK2.out.size
            have h2 := ((Kp.refl Nb W2).alloc (.cells #[.int .i64 qn, .int .i64 qf, .int .i64 qt] 61 (0, 0))).size
            refine ⟨?_, ?_, Nat.le_trans h1 h2⟩ <;> rw [List.length_singleton]
            · unfold maxLen; have := HLP.out; omega
            · have := HLP.out; omega)
          go_wp2_with (first
            | (refine wpList_val (by rfl) _ _ (exec_buildSliceD rfl (qs := #[(0, .agg #[.int .i64 qn, .int .i64 qf, .int .i64 qt])]) (by simp [Act.eval, Act.put]) MK.out) ?_)
            | (at_builtin; refine wpList_append_rows (f := runL) (z := (0, 0, 0)) (c := 3) rfl _ _ 23 rfl w1.heap.size 61 i0 zz 24 under_clock hi hz0 hz1 hz2 hz3 (by decide) _ _ _ rfl (ownsRow_kpD HO2.out ((Kp.refl Nb _).alloc _)) _ [(qn, qf, qt)] rfl (rows_oneR (Blk.new _ _ _)) (fun x hx => rfl) (fun x _ => run_one' x) B2.out.1 B2.out.2.1 B2.out.2.2 ?_))
          intro v10 w10 hown hgrow
          have KX : Hid (Kp Nb w1 w10) := hid ((HK2.out.trans ((Kp.refl Nb W2).alloc (.cells #[.int .i64 qn, .int .i64 qf, .int .i64 qt] 61 (0, 0))) (fun _ _ h => h)).grown hgrow (fun g hg h => by have := (row_cells HO2.out hg).1; omega))
          have HO10 : Hid (w10.ownsRow w1.heap.size 61 3 v10 (ofF (c.take (k + 1)) qn).length (flatR runL (ofF (c.take (k + 1)) qn))) := hid (by rw [HSN.out, List.length_append, flatR_append]; exact hown)
          obtain ⟨a10, c10, rfl⟩ := own_shape hown
          clear hown hgrow
          go_wp2
          go_roundw
          case rel => exact ⟨k + 1, by rw [HLE.out]; omega, by go_num, HO10, KX⟩
          case measure => simp [intOf]; omega
        · have HO3 : Hid (W2.ownsRow w1.heap.size 61 3 (.slice a5 P.length c5) (ofF (c.take (k + 1)) n).length (flatR runL (ofF (c.take (k + 1)) n))) := hid (by rw [HSN.out, if_neg h1, List.append_nil]; exact HO2.out)
          go_wp2
          go_roundw
          case rel => exact ⟨k + 1, by rw [HLE.out]; omega, by go_num, HO3, HK2⟩
          case measure => simp [intOf]; omega
      · obtain rfl : k = L := by omega
        have ht : c.take k = c := List.take_of_length_le (by rw [HLE.out]; exact Nat.le_refl _)
        rw [ht] at HO
        obtain ⟨a5, c5, rfl⟩ := own_shape HO.out
        have HOW := hid (ownsRow_le (base' := w.heap.size) HO.out K1.out.size)
        have HOK := hid HS.out.ok
        go_wp2
        go_ret
        exact ⟨_, rfl, by rw [HE.out]; exact cl_owned HO.out (fun q hq => HOK.out q (List.mem_filter.1 hq).1), own_of HOW.out, K1.out.trans HK.out (fun _ _ h => h)⟩

end Go.Proofs.YtbbfibgijackhaaGreatDoor
