/-
  Layer 11: the walk of the reference's Places. Conditions: a mark has sixteen bytes; a size that may be. (Printed by gen_ib.py.)
-/
import Derived.Test.YteedceepoindeaaIbC
namespace Go.Proofs.Yteedceepoindeaa
open Go.RowKit

def qd (q : Int) : Nat → Int
  | 0 => q
  | k + 1 => qd q k / 2097152
theorem qd_eq (q : Int) (k : Nat) : qd q k = q / 2097152 ^ k := by
  induction k with
  | zero => simp [qd]
  | succ k ih => rw [qd, ih, Int.ediv_ediv_of_nonneg (Int.pow_nonneg (by decide)), Int.pow_succ]
def RplR (w5 : World) (B : Nat) (t : Nat) (m : List Int) (q : Int) (u i : Value) (wr : World) : Prop := ∃ k : Nat, k ≤ 3 ∧ u = .int .u64 (qd q k) ∧ i = .int .i64 k ∧ Hid (Blk wr B 31 (plcL t m k)) ∧ Hid (Kp (Jb B) w5 wr)
set_option maxRecDepth 100000 in
set_option maxHeartbeats 4000000 in
theorem rplaces_any (t : Nat) (m : List Int) (w : World) (hm : MarkOk m) (h0 : 0 < t) (h1 : t ≤ 512) :
    Calls Try.prog 16 #[.int .i64 ((3 * t : Nat) : Int), markV m] w fun e w' => e = .returned (plcV t m) ∧ Kp Nb w w' := by
  obtain ⟨s, hs⟩ : ∃ s : Int, ((3 * t : Nat) : Int) = s := ⟨_, rfl⟩
  rw [hs]
  obtain ⟨sa, hsa⟩ : ∃ s, seedA 4 = s := ⟨_, rfl⟩
  obtain ⟨sb, hsb⟩ : ∃ s, seedB 4 = s := ⟨_, rfl⟩
  obtain ⟨q, hq⟩ : ∃ q, hs4 m = q := ⟨_, rfl⟩
  have CS : Hid (∀ w, Calls Try.prog 41 #[.int .i64 4] w fun e w' => e = .returned (.agg #[.int .u64 sa, .int .u64 sb]) ∧ Kp Nb w w') := hid (fun w => by rw [← hsa, ← hsb]; exact ref_seed 4 w)
  have CH : Hid (∀ w, Calls Try.prog 40 #[.agg #[.int .u64 sa, .int .u64 sb], .string (st m)] w fun e w' => e = .returned (.int .u64 q) ∧ Kp Nb w w') := hid (fun w => by
    have h := ref_hash (seedA 4) (seedB 4) m w hm.bytes (by rw [hm.len]; decide)
    have hq' : hash (seedA 4) (seedB 4) m = q := hq
    rw [hq', hsa, hsb] at h
    exact h)
  have HQ := hid hq
  have QR := hid (hs4_range m)
  rw [hq] at QR
  obtain ⟨W, hW⟩ : ∃ W, W = (w.alloc (.cells (markL m).toArray 23)).alloc (.cells #[.int .i64 0, .int .i64 0, .int .i64 0] 31) := ⟨_, rfl⟩
  obtain ⟨N, hN⟩ : ∃ N, N = w.heap.size := ⟨_, rfl⟩
  have H3 : Hid (Blk W N 23 (markL m)) := hid (by rw [hW, hN]; exact (Blk.new w _ _).alloc _)
  have H4 : Hid (Blk W (N + 1) 31 [.int .i64 0, .int .i64 0, .int .i64 0]) := hid (by
    have h := Blk.new (w.alloc (.cells (markL m).toArray 23)) 31 [.int .i64 0, .int .i64 0, .int .i64 0]
    simp only [World.size_alloc] at h
    rw [hW, hN]
    exact h)
  have KW : Hid (Kp Nb w W) := hid (by rw [hW]; exact ((Kp.refl Nb w).alloc _).alloc _)
  have HY : Hid (BySl Nb W (.slice (some ⟨N, 0, none⟩) 16 16) m) := hid (by_mark H3.out hm)
  have LN : Hid (w.heap.size ≤ N) := hid (by rw [hN]; exact Nat.le_refl _)
  have HM := hid hm
  have HS := hid hs
  have HT : Hid (0 < t ∧ t ≤ 512) := hid ⟨h0, h1⟩
  have T1 : s.tdiv 3 = (t : Int) := by rw [Int.tdiv_eq_ediv_of_nonneg (by omega)]; omega
  have T2 : s / 3 = (t : Int) := by omega
  have T3 : (0 : Int) ≤ s := by omega
  have T4 : (t : Int) ≤ 512 := by omega
  have T5 : (0 : Int) ≤ (t : Int) := by omega
  have T6 : ¬ t = 0 := by omega
  clear hsa hsb hq hs h0 h1 hm
  go_enter Try.func16, Try.ntmps16
  go_upto_region 1 with fail
  rw [show (w.alloc (.cells (markL m).toArray 23)).alloc (.cells #[.int .i64 0, .int .i64 0, .int .i64 0] 31) = W from hW.symm, ← hN]
  clear hW hN
  refine region_vals2 [none, none, none, none, none, some 4, none, none, some 0, some 1, some 2, some 3, none, none, none, none, none, none, none, none, none, none, none, none, none, none, none, none, none, none, none, none] [[], [(3, none)], [(9, some 1)], [(8, some 0), (10, some 2)], [(11, some 3)]] [some 8, some 9, some 10, some 11, some 5] [.agg #[.int .u64 sa, .int .u64 sb], .slice (some ⟨N, 0, none⟩) 16 16, .string (st m), .int .u64 q, .int .u64 q] (fun w' => Hid (Kp Nb W w')) (by kernel_rfl) (by kernel_rfl) (by kernel_rfl) ?hS (VFrom.all (n := 5) (by kernel_rfl) ?hstep) ?hend
  case hstep =>
    refine VFrom.cons (VStep.call _ rfl _ rfl (.agg #[.int .u64 sa, .int .u64 sb]) rfl trivial 41 #[.int .i64 4] (fun ev wq hS he hr => ?_) (fun wq hS => ?_)) ?_
    · have hk := he.1; have hf := he.2; clear hr he
      go_simp
    · exact (CS.out wq).mono fun e w' ⟨h1, h2⟩ => ⟨h1, hS.out.trans h2 (fun _ _ h => h)⟩
    refine VFrom.cons (VStep.val _ rfl _ rfl (.slice (some ⟨N, 0, none⟩) 16 16) rfl trivial (fun ev wq hS he hr => ?_)) ?_
    · have r0 : ev (.tmp 3) = .pointer (some ⟨N, 0, none⟩) := hr (3, none) (by simp); have hk := he.1; clear hr he
      go_simp
    refine VFrom.cons (VStep.val _ rfl _ rfl (.string (st m)) rfl trivial (fun ev wq hS he hr => ?_)) ?_
    · have r0 : ev (.tmp 9) = .slice (some ⟨N, 0, none⟩) 16 16 := hr (9, some 1) (by simp); have hk := he.1; clear hr he
      have e1 := conv_any (HY.out.kept hS.out (fun _ h => h))
      go_simp
    refine VFrom.cons (VStep.call _ rfl _ rfl (.int .u64 q) rfl trivial 40 #[.agg #[.int .u64 sa, .int .u64 sb], .string (st m)] (fun ev wq hS he hr => ?_) (fun wq hS => ?_)) ?_
    · have r0 : ev (.tmp 8) = .agg #[.int .u64 sa, .int .u64 sb] := hr (8, some 0) (by simp); have r1 : ev (.tmp 10) = .string (st m) := hr (10, some 2) (by simp); have hk := he.1; have hf := he.2; clear hr he
      go_simp
    · exact (CH.out wq).mono fun e w' ⟨h1, h2⟩ => ⟨h1, hS.out.trans h2 (fun _ _ h => h)⟩
    refine VFrom.cons (VStep.val _ rfl _ rfl (.int .u64 q) rfl trivial (fun ev wq hS he hr => ?_)) ?_
    · have r0 : ev (.tmp 11) = .int .u64 q := hr (11, some 3) (by simp); have hk := he.1; clear hr he
      go_simp
    exact VFrom.nil
  case hS => exact hid ((Kp.refl Nb W).drew)
  case hend =>
    intro w5 h5
    have k5 := h5.out
    have Q4 := hid (H4.out.kept k5 (fun h => h))
    have K5 := hid (KW.out.trans k5 (fun _ _ h => h))
    have LN5 : Hid (N + 1 < w5.heap.size) := hid Q4.out.lt
    have Q5 : Hid (Blk (w5.alloc (.cells #[.int .i64 0, .int .i64 0, .int .i64 0] 31)) w5.heap.size 31 (plcL t m 0)) := hid (by rw [plcL_zero]; exact Blk.new w5 31 [.int .i64 0, .int .i64 0, .int .i64 0])
    have Q6 := hid (Q4.out.alloc (.cells #[.int .i64 0, .int .i64 0, .int .i64 0] 31))
    have K6 := hid (K5.out.alloc (.cells #[.int .i64 0, .int .i64 0, .int .i64 0] 31))
    clear h5 k5 H3 H4 KW CS CH HY Q4 K5
    simp only [putAll, List.zip_cons_cons, List.zip_nil_right, List.foldl_cons, List.foldl_nil, Act.put, List.setIfInBounds_toArray, List.set_cons_zero, List.set_cons_succ]
    go_wp2
    generalize hA : w5.heap.size = A at *
    have LA : Hid (w.heap.size ≤ A) := hid (by have := LN.out; have := LN5.out; omega)
    obtain ⟨w6, h6⟩ : ∃ W, W = w5.alloc (.cells #[.int .i64 0, .int .i64 0, .int .i64 0] 31) := ⟨_, rfl⟩
    rw [← h6] at Q5 Q6 K6 ⊢
    have Q4 := Q6
    have K5 := K6
    clear h6 hA Q6 K6
    go_loopw [5, 7] (RplR w6 A t m q) (fun _ i _ => 3 - (intOf i).toNat)
    case atStart => exact ⟨0, by omega, rfl, rfl, Q5, Kp.refl _ _⟩
    case round =>
      clear Q5
      obtain ⟨k, hk, rfl, rfl, HA, HK⟩ := hrel
      rcases k with _ | _ | _ | k
      · have c0 := HA.out.cell 0
        have f0 := HA.out.frozen 0
        simp only [plcL, List.getElem?_cons_zero] at c0
        obtain ⟨u, hu⟩ : ∃ u, qd q 0 = u := ⟨_, rfl⟩
        have UR : 0 ≤ u ∧ u < 18446744073709551616 := by
          rw [← hu, qd_eq]
          have := QR.out
          exact ⟨Int.ediv_nonneg this.1 (Int.pow_nonneg (by decide)), Int.lt_of_le_of_lt (Int.ediv_le_self _ this.1) this.2⟩
        have PV : Hid (wrap64 (0 + (wrap64 (u.tmod 2097152)).tmod (t : Int)) = ((plc t m 0 : Nat) : Int)) := hid (by
          rw [plc_val (0) u t UR.1 HT.out.1 HT.out.2 (by omega) (by omega), ← hu, qd_eq]
          unfold plc
          rw [HQ.out]
          simp)
        have HW : Hid (IntKind.u64.wrap (u / 2097152) = qd q 1) := hid (by
          have e : qd q 1 = u / 2097152 := by rw [← hu]; rfl
          rw [e, IntKind.wrap_u64]
          have := UR.2
          have := UR.1
          omega)
        rw [show qd q (0) = u from hu]
        have U1 : u.tdiv 2097152 = u / 2097152 := Int.tdiv_eq_ediv_of_nonneg UR.1
        clear hu UR
        go_wp2
        have HA3 : Hid (Blk (wr.setCell ⟨A, 0, none⟩ (.int .i64 ((plc t m 0 : Nat) : Int))) A 31 (plcL t m 1)) := by rw [← plcL_0]; exact HA.out.set 0 _
        have HK3 := hid (HK.out.set 0 (.int .i64 ((plc t m 0 : Nat) : Int)))
        have pv := PV.out
        rw [Int.zero_add] at pv
        rw [pv, HW.out]
        exact ⟨⟨1, by omega, rfl, rfl, HA3, HK3⟩, by simp [intOf]⟩
      · have c0 := HA.out.cell 1
        have f0 := HA.out.frozen 1
        simp only [plcL, List.getElem?_cons_zero, List.getElem?_cons_succ] at c0
        obtain ⟨u, hu⟩ : ∃ u, qd q 1 = u := ⟨_, rfl⟩
        have UR : 0 ≤ u ∧ u < 18446744073709551616 := by
          rw [← hu, qd_eq]
          have := QR.out
          exact ⟨Int.ediv_nonneg this.1 (Int.pow_nonneg (by decide)), Int.lt_of_le_of_lt (Int.ediv_le_self _ this.1) this.2⟩
        have PV : Hid (wrap64 ((t : Int) + (wrap64 (u.tmod 2097152)).tmod (t : Int)) = ((plc t m 1 : Nat) : Int)) := hid (by
          rw [plc_val ((t : Int)) u t UR.1 HT.out.1 HT.out.2 (by omega) (by omega), ← hu, qd_eq]
          unfold plc
          rw [HQ.out]
          simp)
        have HW : Hid (IntKind.u64.wrap (u / 2097152) = qd q 2) := hid (by
          have e : qd q 2 = u / 2097152 := by rw [← hu]; rfl
          rw [e, IntKind.wrap_u64]
          have := UR.2
          have := UR.1
          omega)
        rw [show qd q (0 + 1) = u from hu]
        have U1 : u.tdiv 2097152 = u / 2097152 := Int.tdiv_eq_ediv_of_nonneg UR.1
        clear hu UR
        go_wp2
        have HA3 : Hid (Blk (wr.setCell ⟨A, 1, none⟩ (.int .i64 ((plc t m 1 : Nat) : Int))) A 31 (plcL t m 2)) := by rw [← plcL_1]; exact HA.out.set 1 _
        have HK3 := hid (HK.out.set 1 (.int .i64 ((plc t m 1 : Nat) : Int)))
        have pv := PV.out
        skip
        rw [pv, HW.out]
        exact ⟨⟨2, by omega, rfl, rfl, HA3, HK3⟩, by simp [intOf]⟩
      · have c0 := HA.out.cell 2
        have f0 := HA.out.frozen 2
        simp only [plcL, List.getElem?_cons_zero, List.getElem?_cons_succ] at c0
        obtain ⟨u, hu⟩ : ∃ u, qd q 2 = u := ⟨_, rfl⟩
        have UR : 0 ≤ u ∧ u < 18446744073709551616 := by
          rw [← hu, qd_eq]
          have := QR.out
          exact ⟨Int.ediv_nonneg this.1 (Int.pow_nonneg (by decide)), Int.lt_of_le_of_lt (Int.ediv_le_self _ this.1) this.2⟩
        have PV : Hid (wrap64 (2 * (t : Int) + (wrap64 (u.tmod 2097152)).tmod (t : Int)) = ((plc t m 2 : Nat) : Int)) := hid (by
          rw [plc_val (2 * (t : Int)) u t UR.1 HT.out.1 HT.out.2 (by omega) (by omega), ← hu, qd_eq]
          unfold plc
          rw [HQ.out]
          simp)
        have HW : Hid (IntKind.u64.wrap (u / 2097152) = qd q 3) := hid (by
          have e : qd q 3 = u / 2097152 := by rw [← hu]; rfl
          rw [e, IntKind.wrap_u64]
          have := UR.2
          have := UR.1
          omega)
        rw [show qd q (0 + 1 + 1) = u from hu]
        have U1 : u.tdiv 2097152 = u / 2097152 := Int.tdiv_eq_ediv_of_nonneg UR.1
        clear hu UR
        go_wp2
        have HA3 : Hid (Blk (wr.setCell ⟨A, 2, none⟩ (.int .i64 ((plc t m 2 : Nat) : Int))) A 31 (plcL t m 3)) := by rw [← plcL_2]; exact HA.out.set 2 _
        have HK3 := hid (HK.out.set 2 (.int .i64 ((plc t m 2 : Nat) : Int)))
        have pv := PV.out
        skip
        rw [pv, HW.out]
        exact ⟨⟨3, by omega, rfl, rfl, HA3, HK3⟩, by simp [intOf]⟩
      · have hk3 : k = 0 := by omega
        subst hk3
        have HP := hid (show Blk wr A 31 (plcL t m 3) from HA.out)
        have Q6 := hid (Q4.out.kept HK.out (fun h => by have h' : N + 1 = A := h; have := LN5.out; omega))
        have K6 := hid (K5.out.trans HK.out (fun i hi h => by have h' : i = A := h; have := LA.out; omega))
        have TH : Hid (wr.there (N + 1) 0 (plcL t m 3).toArray.size) := hid (by rw [List.size_toArray, plcL_len]; exact Q6.out.there 0 3 (Nat.le_refl _))
        have SI : Hid ((Try.prog.info? 31).map (·.size) = some (plcL t m 3).toArray.size) := hid (by rw [List.size_toArray, plcL_len]; exact arr3_info)
        have SL : Hid ((Try.prog.info? 31).map (·.size) = some (plcL t m 3).length) := hid (by rw [plcL_len]; exact arr3_info)
        have ON : Hid ((plcL t m 3).toArray.all (·.oneCell') = true) := hid (by simp [plcL, Value.oneCell'])
        have HF : Hid (Blk (wr.setCells (N + 1) 0 (plcL t m 3)) (N + 1) 31 (plcL t m 3)) := hid (row_set Q6.out (plcL_len t m 3))
        have K9 : Hid (Kp Nb w (wr.setCells (N + 1) 0 (plcL t m 3))) := hid (Kp.setCells (fun h => by have := LN.out; omega) _ 0 _ K6.out)
        obtain ⟨P, hP⟩ : ∃ P, P = plcL t m 3 := ⟨_, rfl⟩
        rw [← hP] at HP TH SI SL ON HF K9
        have HPE := hid hP
        clear hP HA hk K6 Q6 T1 T2 T3 T4 T5 T6
        go_wp2_with (first
          | (refine wpList_load_mid (by rfl) 31 (.tmp 6) (by rfl) A 0 (by rfl) P _ (range_of HP.out) Try.underlying31 rfl SL.out ?_)
          | (refine wpList_store_mid (by rfl) 31 (.tmp 4) (.tmp 31) (by rfl) (N + 1) 0 P.toArray (by rfl) (by rfl) TH.out SI.out ON.out ?_))
        have hl := row_loadVar (P := Try.prog) Try.underlying31 rfl SL.out HF.out 0 (fun j _ => by rw [Nat.zero_add])
        refine bodyPost_ret (v := .agg P.toArray) (results_cell rfl _ (N + 1) (by rfl) _ hl) ?_ ?_
        · rfl
        · have hv : (.agg P.toArray : Value) = plcV t m := by rw [HPE.out]
          exact ⟨congrArg Ending.returned hv, K9.out⟩


end Go.Proofs.Yteedceepoindeaa
