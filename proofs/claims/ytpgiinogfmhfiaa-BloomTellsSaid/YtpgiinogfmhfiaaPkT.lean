/-
  Layer 15: the walks of the reference's Fits and Places. Conditions: a mark has sixteen bytes; so many bits as may be.
  Layer 15: a filter's bits as a list of bools; the walks of the reference's Set and May. Conditions: marks have sixteen bytes; so many bits as may be; at most 100,000 marks.
  Layer 15: the walk of the reference's Bytes. Condition: a slice of bools that holds a filter's bits.
  Layer 15: the walks of Get and of the reference's Get. Conditions: an eye over fewer than 2^47 bytes.
  Layer 15: the walk of the reference's Get. Conditions: an eye over fewer than 100,000 bytes.
  Layer 15: what a nil filter answers; bits that may not be. No condition.
  Layer 15: plain: a union is all marks added; how many bits are set, bit by bit; what is lacking, one by one. Conditions: bytes.
  Layer 15: kit for BloomTells: equality of places and of marks, a union with none, two references' sets in one region. Conditions: as each says.
  Layer 15: the law BloomTells where there may not be so many bits. Condition: a case as its kind holds it.
-/
import Derived.Test.YtpgiinogfmhfiaaPkX
import Derived.Test.YtpgiinogfmhfiaaRefB
import Derived.Test.YtpgiinogfmhfiaaRefH
import Derived.Test.YtpgiinogfmhfiaaPkH
import Derived.Test.YtpgiinogfmhfiaaRowApp
namespace Go.Proofs.Ytpgiinogfmhfiaa
open Go.RowKit

theorem rfits15_any (n : Int) (w : World) (h0 : -9223372036854775808 ≤ n) (h1 : n < 9223372036854775808) : Calls Try.prog 9 #[.int .i64 n] w fun e w' => e = .returned (.bool (fitL n)) ∧ w = w' := by
  obtain ⟨r, hr⟩ : ∃ r, n.tmod 8 = r := ⟨_, rfl⟩
  have HE0 : Hid (fitL n = decide (64 ≤ n ∧ n ≤ 8192 ∧ r = 0)) := hid (by
    unfold fitL
    rw [hr]
    refine decide_eq_decide.2 ⟨fun h => ?_, fun h => ?_⟩
    · have := Int.mul_tdiv_add_tmod n 8
      omega
    · have := Int.mul_tdiv_add_tmod n 8
      omega)
  go_enter Try.func9, Try.ntmps9
  by_cases c1 : 64 ≤ n
  · by_cases c2 : n ≤ 8192
    · have d1 : decide (n ≥ 64) = true := decide_eq_true c1
      have d2 : decide (n ≤ 8192) = true := decide_eq_true c2
      by_cases c3 : r = 0
      · subst c3
        have HE : Hid (fitL n = true) := hid (by rw [HE0.out]; exact decide_eq_true ⟨c1, c2, rfl⟩)
        go_wp2
        go_ret
        exact ⟨by rw [HE.out]; rfl, rfl⟩
      · have HE : Hid (fitL n = false) := hid (by rw [HE0.out]; exact decide_eq_false (fun h => c3 h.2.2))
        have d3 : (r == 0) = false := by simpa using c3
        go_wp2
        go_ret
        exact ⟨by rw [HE.out]; rfl, rfl⟩
    · have d1 : decide (n ≥ 64) = true := decide_eq_true c1
      have d2 : decide (n ≤ 8192) = false := decide_eq_false c2
      have HE : Hid (fitL n = false) := hid (by rw [HE0.out]; exact decide_eq_false (fun h => c2 h.2.1))
      go_wp2
      go_ret
      exact ⟨by rw [HE.out]; rfl, rfl⟩
  · have d1 : decide (n ≥ 64) = false := decide_eq_false c1
    have HE : Hid (fitL n = false) := hid (by rw [HE0.out]; exact decide_eq_false (fun h => c1 h.1))
    go_wp2
    go_ret
    exact ⟨by rw [HE.out]; rfl, rfl⟩
def qb (q : Int) : Nat → Int
  | 0 => q
  | k + 1 => qb q k / 65536
theorem qb_eq (q : Int) (k : Nat) : qb q k = q / 65536 ^ k := by
  induction k with
  | zero => simp [qb]
  | succ k ih => rw [qb, ih, Int.ediv_ediv_of_nonneg (Int.pow_nonneg (by decide)), Int.pow_succ]
def RpbR (w5 : World) (B : Nat) (s : Int) (m : List Int) (q : Int) (u i : Value) (wr : World) : Prop := ∃ k : Nat, k ≤ 4 ∧ u = .int .u64 (qb q k) ∧ i = .int .i64 k ∧ Hid (Blk wr B 39 (plbL s m k)) ∧ Hid (Kp (Jb B) w5 wr)
set_option maxRecDepth 100000 in
set_option maxHeartbeats 4000000 in
theorem rplb_any (s : Int) (m : List Int) (w : World) (hm : MarkOk m) (hs0 : 64 ≤ s) (hs1 : s ≤ 8192) :
    Calls Try.prog 20 #[.int .i64 s, markV m] w fun e w' => e = .returned (plbV s m) ∧ Kp Nb w w' := by
  obtain ⟨sa, hsa⟩ : ∃ s, seedA 8 = s := ⟨_, rfl⟩
  obtain ⟨sb, hsb⟩ : ∃ s, seedB 8 = s := ⟨_, rfl⟩
  obtain ⟨q, hq⟩ : ∃ q, hs8 m = q := ⟨_, rfl⟩
  have CS : Hid (∀ w, Calls Try.prog 37 #[.int .i64 8] w fun e w' => e = .returned (.agg #[.int .u64 sa, .int .u64 sb]) ∧ Kp Nb w w') := hid (fun w => by rw [← hsa, ← hsb]; exact ref_seed 8 w)
  have CH : Hid (∀ w, Calls Try.prog 36 #[.agg #[.int .u64 sa, .int .u64 sb], .string (st m)] w fun e w' => e = .returned (.int .u64 q) ∧ Kp Nb w w') := hid (fun w => by
    have h := ref_hash (seedA 8) (seedB 8) m w hm.bytes (by rw [hm.len]; decide)
    have hq' : hash (seedA 8) (seedB 8) m = q := hq
    rw [hq', hsa, hsb] at h
    exact h)
  have HQ := hid hq
  have QR := hid (hs8_range m)
  rw [hq] at QR
  obtain ⟨W, hW⟩ : ∃ W, W = (w.alloc (.cells (markL m).toArray 24)).alloc (.cells #[.int .i64 0, .int .i64 0, .int .i64 0, .int .i64 0] 39) := ⟨_, rfl⟩
  obtain ⟨N, hN⟩ : ∃ N, N = w.heap.size := ⟨_, rfl⟩
  have H3 : Hid (Blk W N 24 (markL m)) := hid (by rw [hW, hN]; exact (Blk.new w _ _).alloc _)
  have H4 : Hid (Blk W (N + 1) 39 [.int .i64 0, .int .i64 0, .int .i64 0, .int .i64 0]) := hid (by
    have h := Blk.new (w.alloc (.cells (markL m).toArray 24)) 39 [.int .i64 0, .int .i64 0, .int .i64 0, .int .i64 0]
    simp only [World.size_alloc] at h
    rw [hW, hN]
    exact h)
  have KW : Hid (Kp Nb w W) := hid (by rw [hW]; exact ((Kp.refl Nb w).alloc _).alloc _)
  have HY : Hid (BySl Nb W (.slice (some ⟨N, 0, none⟩) 16 16) m) := hid (by_mark H3.out hm)
  have LN : Hid (w.heap.size ≤ N) := hid (by rw [hN]; exact Nat.le_refl _)
  have HM := hid hm
  have T6 : ¬ s = 0 := by omega
  clear hsa hsb hq hm
  go_enter Try.func20, Try.ntmps20
  go_upto_region 1 with fail
  rw [show (w.alloc (.cells (markL m).toArray 24)).alloc (.cells #[.int .i64 0, .int .i64 0, .int .i64 0, .int .i64 0] 39) = W from hW.symm, ← hN]
  clear hW hN
  refine region_vals2 [none, none, none, none, none, some 4, none, none, some 0, some 1, some 2, some 3, none, none, none, none, none, none, none, none, none, none, none, none, none, none] [[], [(3, none)], [(9, some 1)], [(8, some 0), (10, some 2)], [(11, some 3)]] [some 8, some 9, some 10, some 11, some 5] [.agg #[.int .u64 sa, .int .u64 sb], .slice (some ⟨N, 0, none⟩) 16 16, .string (st m), .int .u64 q, .int .u64 q] (fun w' => Hid (Kp Nb W w')) (by kernel_rfl) (by kernel_rfl) (by kernel_rfl) ?hS (VFrom.all (n := 5) (by kernel_rfl) ?hstep) ?hend
  case hstep =>
    refine VFrom.cons (VStep.call _ rfl _ rfl (.agg #[.int .u64 sa, .int .u64 sb]) rfl trivial 37 #[.int .i64 8] (fun ev wq hS he hr => ?_) (fun wq hS => ?_)) ?_
    · have hk := he.1; have hf := he.2; clear hr he
      go_simp
    · exact (CS.out wq).mono fun e w' ⟨h1, h2⟩ => ⟨h1, hS.out.trans h2 (fun _ _ h => h)⟩
    refine VFrom.cons (VStep.val _ rfl _ rfl (.slice (some ⟨N, 0, none⟩) 16 16) rfl trivial (fun ev wq hS he hr => ?_)) ?_
    · have r0 : ev (.tmp 3) = .pointer (some ⟨N, 0, none⟩) := hr (3, none) (by simp); have hk := he.1; clear hr he
      go_simp
    refine VFrom.cons (VStep.val _ rfl _ rfl (.string (st m)) rfl trivial (fun ev wq hS he hr => ?_)) ?_
    · have r0 : ev (.tmp 9) = .slice (some ⟨N, 0, none⟩) 16 16 := hr (9, some 1) (by simp); have hk := he.1; clear hr he
      have e1 := conv_any (HY.out.kept hS.out (fun _ h => h))
      go_simp
    refine VFrom.cons (VStep.call _ rfl _ rfl (.int .u64 q) rfl trivial 36 #[.agg #[.int .u64 sa, .int .u64 sb], .string (st m)] (fun ev wq hS he hr => ?_) (fun wq hS => ?_)) ?_
    · have r0 : ev (.tmp 8) = .agg #[.int .u64 sa, .int .u64 sb] := hr (8, some 0) (by simp); have r1 : ev (.tmp 10) = .string (st m) := hr (10, some 2) (by simp); have hk := he.1; have hf := he.2; clear hr he
      go_simp
    · exact (CH.out wq).mono fun e w' ⟨h1, h2⟩ => ⟨h1, hS.out.trans h2 (fun _ _ h => h)⟩
    refine VFrom.cons (VStep.val _ rfl _ rfl (.int .u64 q) rfl trivial (fun ev wq hS he hr => ?_)) ?_
    · have r0 : ev (.tmp 11) = .int .u64 q := hr (11, some 3) (by simp); have hk := he.1; clear hr he
      go_simp
    exact VFrom.nil
  case hS => exact hid ((Kp.refl Nb W).drew)
  case hend =>
    intro w5 h5
    have k5 := h5.out
    have Q4 := hid (H4.out.kept k5 (fun h => h))
    have K5 := hid (KW.out.trans k5 (fun _ _ h => h))
    have LN5 : Hid (N + 1 < w5.heap.size) := hid Q4.out.lt
    have Q5 : Hid (Blk (w5.alloc (.cells #[.int .i64 0, .int .i64 0, .int .i64 0, .int .i64 0] 39)) w5.heap.size 39 (plbL s m 0)) := hid (by rw [plbL_zero]; exact Blk.new w5 39 [.int .i64 0, .int .i64 0, .int .i64 0, .int .i64 0])
    have Q6 := hid (Q4.out.alloc (.cells #[.int .i64 0, .int .i64 0, .int .i64 0, .int .i64 0] 39))
    have K6 := hid (K5.out.alloc (.cells #[.int .i64 0, .int .i64 0, .int .i64 0, .int .i64 0] 39))
    clear h5 k5 H3 H4 KW CS CH HY Q4 K5
    simp only [putAll, List.zip_cons_cons, List.zip_nil_right, List.foldl_cons, List.foldl_nil, Act.put, List.setIfInBounds_toArray, List.set_cons_zero, List.set_cons_succ]
    go_wp2
    generalize hA : w5.heap.size = A at *
    have LA : Hid (w.heap.size ≤ A) := hid (by have := LN.out; have := LN5.out; omega)
    obtain ⟨w6, h6⟩ : ∃ W, W = w5.alloc (.cells #[.int .i64 0, .int .i64 0, .int .i64 0, .int .i64 0] 39) := ⟨_, rfl⟩
    rw [← h6] at Q5 Q6 K6 ⊢
    have Q4 := Q6
    have K5 := K6
    clear h6 hA Q6 K6
    go_loopw [5, 7] (RpbR w6 A s m q) (fun _ i _ => 4 - (intOf i).toNat)
    case atStart => exact ⟨0, by omega, rfl, rfl, Q5, Kp.refl _ _⟩
    case round =>
      clear Q5
      obtain ⟨k, hk, rfl, rfl, HA, HK⟩ := hrel
      rcases k with _ | _ | _ | _ | k
      · have c0 := HA.out.cell 0
        have f0 := HA.out.frozen 0
        simp only [plbL, List.getElem?_cons_zero] at c0
        obtain ⟨u, hu⟩ : ∃ u, qb q 0 = u := ⟨_, rfl⟩
        have UR : 0 ≤ u ∧ u < 18446744073709551616 := by
          rw [← hu, qb_eq]
          have := QR.out
          exact ⟨Int.ediv_nonneg this.1 (Int.pow_nonneg (by decide)), Int.lt_of_le_of_lt (Int.ediv_le_self _ this.1) this.2⟩
        have PV : Hid ((wrap64 (u.tmod 65536)).tmod s = ((plb s m 0 : Nat) : Int)) := hid (by
          rw [plb_val u s UR.1 (by omega), ← hu, qb_eq]
          unfold plb
          rw [HQ.out])
        have HW : Hid (IntKind.u64.wrap (u / 65536) = qb q 1) := hid (by
          have e : qb q 1 = u / 65536 := by rw [← hu]; rfl
          rw [e, IntKind.wrap_u64]
          have := UR.2
          have := UR.1
          omega)
        rw [show qb q (0) = u from hu]
        have U1 : u.tdiv 65536 = u / 65536 := Int.tdiv_eq_ediv_of_nonneg UR.1
        clear hu UR
        go_wp2
        have HA3 : Hid (Blk (wr.setCell ⟨A, 0, none⟩ (.int .i64 ((plb s m 0 : Nat) : Int))) A 39 (plbL s m 1)) := HA.out.set 0 _
        have HK3 := hid (HK.out.set 0 (.int .i64 ((plb s m 0 : Nat) : Int)))
        have pv := PV.out
        rw [pv, HW.out]
        exact ⟨⟨1, by omega, rfl, rfl, HA3, HK3⟩, by simp [intOf]⟩
      · have c0 := HA.out.cell 1
        have f0 := HA.out.frozen 1
        simp only [plbL, List.getElem?_cons_zero, List.getElem?_cons_succ] at c0
        obtain ⟨u, hu⟩ : ∃ u, qb q 1 = u := ⟨_, rfl⟩
        have UR : 0 ≤ u ∧ u < 18446744073709551616 := by
          rw [← hu, qb_eq]
          have := QR.out
          exact ⟨Int.ediv_nonneg this.1 (Int.pow_nonneg (by decide)), Int.lt_of_le_of_lt (Int.ediv_le_self _ this.1) this.2⟩
        have PV : Hid ((wrap64 (u.tmod 65536)).tmod s = ((plb s m 1 : Nat) : Int)) := hid (by
          rw [plb_val u s UR.1 (by omega), ← hu, qb_eq]
          unfold plb
          rw [HQ.out])
        have HW : Hid (IntKind.u64.wrap (u / 65536) = qb q 2) := hid (by
          have e : qb q 2 = u / 65536 := by rw [← hu]; rfl
          rw [e, IntKind.wrap_u64]
          have := UR.2
          have := UR.1
          omega)
        rw [show qb q (1) = u from hu]
        have U1 : u.tdiv 65536 = u / 65536 := Int.tdiv_eq_ediv_of_nonneg UR.1
        clear hu UR
        go_wp2
        have HA3 : Hid (Blk (wr.setCell ⟨A, 1, none⟩ (.int .i64 ((plb s m 1 : Nat) : Int))) A 39 (plbL s m 2)) := HA.out.set 1 _
        have HK3 := hid (HK.out.set 1 (.int .i64 ((plb s m 1 : Nat) : Int)))
        have pv := PV.out
        rw [pv, HW.out]
        exact ⟨⟨2, by omega, rfl, rfl, HA3, HK3⟩, by simp [intOf]⟩
      · have c0 := HA.out.cell 2
        have f0 := HA.out.frozen 2
        simp only [plbL, List.getElem?_cons_zero, List.getElem?_cons_succ] at c0
        obtain ⟨u, hu⟩ : ∃ u, qb q 2 = u := ⟨_, rfl⟩
        have UR : 0 ≤ u ∧ u < 18446744073709551616 := by
          rw [← hu, qb_eq]
          have := QR.out
          exact ⟨Int.ediv_nonneg this.1 (Int.pow_nonneg (by decide)), Int.lt_of_le_of_lt (Int.ediv_le_self _ this.1) this.2⟩
        have PV : Hid ((wrap64 (u.tmod 65536)).tmod s = ((plb s m 2 : Nat) : Int)) := hid (by
          rw [plb_val u s UR.1 (by omega), ← hu, qb_eq]
          unfold plb
          rw [HQ.out])
        have HW : Hid (IntKind.u64.wrap (u / 65536) = qb q 3) := hid (by
          have e : qb q 3 = u / 65536 := by rw [← hu]; rfl
          rw [e, IntKind.wrap_u64]
          have := UR.2
          have := UR.1
          omega)
        rw [show qb q (2) = u from hu]
        have U1 : u.tdiv 65536 = u / 65536 := Int.tdiv_eq_ediv_of_nonneg UR.1
        clear hu UR
        go_wp2
        have HA3 : Hid (Blk (wr.setCell ⟨A, 2, none⟩ (.int .i64 ((plb s m 2 : Nat) : Int))) A 39 (plbL s m 3)) := HA.out.set 2 _
        have HK3 := hid (HK.out.set 2 (.int .i64 ((plb s m 2 : Nat) : Int)))
        have pv := PV.out
        rw [pv, HW.out]
        exact ⟨⟨3, by omega, rfl, rfl, HA3, HK3⟩, by simp [intOf]⟩
      · have c0 := HA.out.cell 3
        have f0 := HA.out.frozen 3
        simp only [plbL, List.getElem?_cons_zero, List.getElem?_cons_succ] at c0
        obtain ⟨u, hu⟩ : ∃ u, qb q 3 = u := ⟨_, rfl⟩
        have UR : 0 ≤ u ∧ u < 18446744073709551616 := by
          rw [← hu, qb_eq]
          have := QR.out
          exact ⟨Int.ediv_nonneg this.1 (Int.pow_nonneg (by decide)), Int.lt_of_le_of_lt (Int.ediv_le_self _ this.1) this.2⟩
        have PV : Hid ((wrap64 (u.tmod 65536)).tmod s = ((plb s m 3 : Nat) : Int)) := hid (by
          rw [plb_val u s UR.1 (by omega), ← hu, qb_eq]
          unfold plb
          rw [HQ.out])
        have HW : Hid (IntKind.u64.wrap (u / 65536) = qb q 4) := hid (by
          have e : qb q 4 = u / 65536 := by rw [← hu]; rfl
          rw [e, IntKind.wrap_u64]
          have := UR.2
          have := UR.1
          omega)
        rw [show qb q (3) = u from hu]
        have U1 : u.tdiv 65536 = u / 65536 := Int.tdiv_eq_ediv_of_nonneg UR.1
        clear hu UR
        go_wp2
        have HA3 : Hid (Blk (wr.setCell ⟨A, 3, none⟩ (.int .i64 ((plb s m 3 : Nat) : Int))) A 39 (plbL s m 4)) := HA.out.set 3 _
        have HK3 := hid (HK.out.set 3 (.int .i64 ((plb s m 3 : Nat) : Int)))
        have pv := PV.out
        rw [pv, HW.out]
        exact ⟨⟨4, by omega, rfl, rfl, HA3, HK3⟩, by simp [intOf]⟩
      · have hk4 : k = 0 := by omega
        subst hk4
        have HP := hid (show Blk wr A 39 (plbL s m 4) from HA.out)
        have Q6 := hid (Q4.out.kept HK.out (fun h => by have h' : N + 1 = A := h; have := LN5.out; omega))
        have K6 := hid (K5.out.trans HK.out (fun i hi h => by have h' : i = A := h; have := LA.out; omega))
        have TH : Hid (wr.there (N + 1) 0 (plbL s m 4).toArray.size) := hid (by rw [List.size_toArray, plbL_len]; exact Q6.out.there 0 4 (Nat.le_refl _))
        have SI : Hid ((Try.prog.info? 39).map (·.size) = some (plbL s m 4).toArray.size) := hid (by rw [List.size_toArray, plbL_len]; exact arr4_info)
        have SL : Hid ((Try.prog.info? 39).map (·.size) = some (plbL s m 4).length) := hid (by rw [plbL_len]; exact arr4_info)
        have ON : Hid ((plbL s m 4).toArray.all (·.oneCell') = true) := hid (by simp [plbL, Value.oneCell'])
        have HF : Hid (Blk (wr.setCells (N + 1) 0 (plbL s m 4)) (N + 1) 39 (plbL s m 4)) := hid (row_set Q6.out (plbL_len s m 4))
        have K9 : Hid (Kp Nb w (wr.setCells (N + 1) 0 (plbL s m 4))) := hid (Kp.setCells (fun h => by have := LN.out; omega) _ 0 _ K6.out)
        obtain ⟨P, hP⟩ : ∃ P, P = plbL s m 4 := ⟨_, rfl⟩
        rw [← hP] at HP TH SI SL ON HF K9
        have HPE := hid hP
        clear hP HA hk K6 Q6 T6
        go_wp2_with (first
          | (refine wpList_load_mid (by rfl) 39 (.tmp 6) (by rfl) A 0 (by rfl) P _ (range_of HP.out) Try.underlying39 rfl SL.out ?_)
          | (refine wpList_store_mid (by rfl) 39 (.tmp 4) (.tmp 25) (by rfl) (N + 1) 0 P.toArray (by rfl) (by rfl) TH.out SI.out ON.out ?_))
        have hl := row_loadVar (P := Try.prog) Try.underlying39 rfl SL.out HF.out 0 (fun j _ => by rw [Nat.zero_add])
        refine bodyPost_ret (v := .agg P.toArray) (results_cell rfl _ (N + 1) (by rfl) _ hl) ?_ ?_
        · rfl
        · have hv : (.agg P.toArray : Value) = plbV s m := by rw [HPE.out]
          exact ⟨congrArg Ending.returned hv, K9.out⟩

end Go.Proofs.Ytpgiinogfmhfiaa

namespace Go.Proofs.Ytpgiinogfmhfiaa
open Go.RowKit

/-- A filter's bits, one by one. -/
def bitsL (zs : List Int) : List Bool := (List.range (8 * zs.length)).map (hasB zs)
abbrev bvL (bs : List Bool) : List Value := bs.map Value.bool
theorem bitsL_len (zs : List Int) : (bitsL zs).length = 8 * zs.length := by unfold bitsL; rw [List.length_map, List.length_range]
theorem bitsL_get (zs : List Int) (p : Nat) (hp : p < 8 * zs.length) : (bitsL zs)[p]? = some (hasB zs p) := by
  unfold bitsL
  rw [List.getElem?_map, List.getElem?_eq_getElem (by rw [List.length_range]; exact hp), List.getElem_range]
  rfl
theorem bits_set {zs : List Int} (hz : IsBytes zs) (p : Nat) (hp : p < 8 * zs.length) : bitsL (setB zs p) = (bitsL zs).set p true := by
  apply List.ext_getElem?
  intro q
  by_cases hq : q < 8 * zs.length
  · rw [bitsL_get _ q (by rw [setB_length]; exact hq), has_set hz p q hp]
    by_cases e : p = q
    · subst e
      rw [List.getElem?_set_self (by rw [bitsL_len]; exact hp)]
      simp
    · rw [List.getElem?_set_ne e, bitsL_get _ q hq]
      have : (q == p) = false := by simpa using (fun h : q = p => e h.symm)
      rw [this, Bool.or_false]
  · rw [List.getElem?_eq_none (by rw [bitsL_len, setB_length]; omega), List.getElem?_eq_none (by rw [List.length_set, bitsL_len]; omega)]
theorem bits_zero (t : Nat) : bitsL (zerosL t) = List.replicate (8 * t) false := by
  have hl : (zerosL t).length = t := List.length_replicate
  apply List.ext_getElem?
  intro q
  by_cases hq : q < 8 * t
  · rw [bitsL_get _ q (by rw [hl]; exact hq), has_zero, List.getElem?_replicate, if_pos hq]
  · rw [List.getElem?_eq_none (by rw [bitsL_len, hl]; omega), List.getElem?_replicate, if_neg hq]
/-- A slice of bools that holds a filter's bits. -/
def BoSl (w : World) (v : Value) (zs : List Int) : Prop := IsBytes zs ∧ (8 ≤ zs.length ∧ zs.length ≤ 1024) ∧ ∃ C cap rest, v = .slice (some ⟨C, 0, none⟩) (8 * zs.length) cap ∧ Blk w C 4 (bvL (bitsL zs) ++ rest) ∧ 8 * zs.length ≤ cap ∧ cap ≤ maxLen
theorem BoSl.kept {w w' : World} {v : Value} {zs : List Int} (h : BoSl w v zs) (k : Kp Nb w w') : BoSl w' v zs := by
  obtain ⟨h1, h2, C, cap, rest, rfl, hb, hc, hm⟩ := h
  exact ⟨h1, h2, C, cap, rest, rfl, hb.kept k (fun h => h), hc, hm⟩
theorem bo_cell {w : World} {C : Nat} {zs : List Int} {rest : List Value} (h : Blk w C 4 (bvL (bitsL zs) ++ rest)) (p : Nat) (hp : p < 8 * zs.length) : w.cell? ⟨C, p, none⟩ = some (.bool (hasB zs p)) := by
  rw [h.cell p, List.getElem?_append_left (by rw [List.length_map, bitsL_len]; exact hp), List.getElem?_map, bitsL_get zs p hp]
  rfl
theorem bool_zc : ∃ i z, Try.prog.info? 4 = some i ∧ i.zero = some z ∧ i.size = 1 ∧ i.bytes = 1 ∧ z.cells = #[.bool false] := by
  have h : ((Try.prog.info? 4).map fun i => (i.zero.map fun z => z.cells, i.size, i.bytes)) = some (some #[.bool false], 1, 1) := by kernel_rfl
  obtain ⟨i, hi, h2⟩ := Option.map_eq_some_iff.1 h
  simp only [Prod.mk.injEq] at h2
  obtain ⟨z, hz, hz2⟩ := Option.map_eq_some_iff.1 h2.1
  exact ⟨i, z, hi, hz, h2.2.1, h2.2.2, hz2⟩
theorem made_bools (n : Nat) : (madeCells #[Value.bool false] (n * 1)).toList = List.replicate n (Value.bool false) := by
  apply List.ext_getElem?
  intro j
  rcases Nat.lt_or_ge j n with h | h
  · rw [List.getElem?_replicate, if_pos h, Array.getElem?_toList]
    unfold madeCells
    rw [Array.getElem?_map, Array.getElem?_range, if_pos (by omega), Option.map_some]
    simp [Nat.mod_one]
  · rw [List.getElem?_eq_none (by rw [Array.length_toList, size_madeCells]; omega), List.getElem?_eq_none (by rw [List.length_replicate]; exact h)]
theorem make_bools (w : World) (n : Nat) (hn : n ≤ 100000) : (Instr.makeSlice 44 (.int .i64 (n : Int)) (.int .i64 (n : Int))).run Try.prog w = .ok (.slice (some ⟨w.heap.size, 0, none⟩) n n) (w.alloc (.cells (List.replicate n (Value.bool false)).toArray 4 (0, 0))) := by
  obtain ⟨i, z, h1, h2, h3, h4, h5⟩ := bool_zc
  have h := run_make (P := Try.prog) w _ _ i z Try.underlying44 h1 h2 .i64 .i64 n n (by omega) (Int.le_refl _) (by rw [h4]; omega) (by omega)
  rw [Int.toNat_natCast, h3, h5, ← Array.toArray_toList (xs := madeCells _ _), made_bools] at h
  exact h

def StR (w1 : World) (C : Nat) (zs : List Int) (ms : List (List Int)) (i : Value) (wr : World) : Prop := ∃ k : Nat, k ≤ ms.length ∧ i = .int .i64 k ∧ Hid (Blk wr C 4 (bvL (bitsL (addsL zs (ms.take k))))) ∧ Hid (Kp (Jb C) w1 wr)
def StI (w1 : World) (C : Nat) (X m : List Int) (s : Int) (i : Value) (wr : World) : Prop := ∃ k : Nat, k ≤ 4 ∧ i = .int .i64 k ∧ Hid (Blk wr C 4 (bvL (bitsL (addK X m s k)))) ∧ Hid (Kp (Jb C) w1 wr)
set_option maxRecDepth 100000 in
set_option maxHeartbeats 4000000 in
theorem rset15_any (t : Nat) (v : Value) (ms : List (List Int)) (w : World) (hs : MkSl w v ms) (hbig : ms.length ≤ 100000) (h0 : 8 ≤ t) (h1 : t ≤ 1024) :
    Calls Try.prog 19 #[.int .i64 ((8 * t : Nat) : Int), v] w fun e w' => ∃ C, e = .returned (.slice (some ⟨C, 0, none⟩) (8 * t) (8 * t)) ∧ Blk w' C 4 (bvL (bitsL (addsL (zerosL t) ms))) ∧ w.heap.size ≤ C ∧ Kp Nb w w' := by
  obtain ⟨s, hs'⟩ : ∃ s : Nat, 8 * t = s := ⟨_, rfl⟩
  have HSM := hid hs
  obtain ⟨y, d, rfl⟩ := hs.shape
  obtain ⟨n, hn⟩ : ∃ n, ms.length = n := ⟨_, rfl⟩
  rw [hn] at HSM hbig ⊢
  have HN := hid hn
  have HT : Hid (8 ≤ t ∧ t ≤ 1024 ∧ 8 * t = s) := hid ⟨h0, h1, hs'⟩
  obtain ⟨zs, hzs⟩ : ∃ z, zerosL t = z := ⟨_, rfl⟩
  have HZB : Hid (IsBytes zs) := hid (by rw [← hzs]; exact zerosL_bytes t)
  have HZL : Hid (zs.length = t) := hid (by rw [← hzs]; exact List.length_replicate)
  have HBZ : Hid (bitsL zs = List.replicate s false) := hid (by rw [← hzs, bits_zero, hs'])
  have MK := make_bools w s (by omega)
  have CP : Hid (∀ m w, MarkOk m → Calls Try.prog 20 #[.int .i64 (s : Int), markV m] w fun e w' => e = .returned (plbV (s : Int) m) ∧ Kp Nb w w') := hid (fun m w hm => rplb_any (s : Int) m w hm (by omega) (by omega))
  rw [hs', hzs]
  have hs9 : s ≤ 8192 := by omega
  obtain ⟨N, hN⟩ : ∃ N, w.heap.size = N := ⟨_, rfl⟩
  rw [hN] at MK
  obtain ⟨W, hW⟩ : ∃ W, w.alloc (.cells (List.replicate s (Value.bool false)).toArray 4 (0, 0)) = W := ⟨_, rfl⟩
  rw [hW] at MK
  have HC : Hid (Blk W N 4 (bvL (bitsL (addsL zs (ms.take 0))))) := hid (by
    have h := Blk.new w 4 (List.replicate s (Value.bool false))
    rw [← hW, ← hN, List.take_zero]
    have e : bvL (bitsL (addsL zs [])) = List.replicate s (Value.bool false) := by
      have e1 : addsL zs [] = zs := rfl
      rw [e1, HBZ.out]
      unfold bvL
      rw [List.map_replicate]
    rw [e]
    exact h)
  have KW : Hid (Kp Nb w W) := hid (by rw [← hW]; exact (Kp.refl Nb w).alloc _)
  have LN : Hid (w.heap.size = N) := hid hN
  have S0 : Hid (Kp (Jb N) W W) := hid (Kp.refl _ _)
  clear hs hn h0 h1 hzs hW hN hs'
  go_enter Try.func19, Try.ntmps19
  go_wp2_with (refine wpList_val (by rfl) _ _ (exec_mksliceL rfl rfl rfl MK) ?_)
  go_loopw [14] (StR W N zs ms) (fun i _ => n - (intOf i).toNat)
  case atStart => exact ⟨0, Nat.zero_le _, rfl, HC, S0⟩
  case round =>
    clear HC S0 MK
    obtain ⟨k, hk, rfl, HO, KO⟩ := hrel
    rw [HN.out] at hk
    have KWr : Hid (Kp Nb w wr) := hid (KW.out.trans KO.out (fun i hi h => by have h' : i = N := h; have := LN.out; omega))
    by_cases hlt : k < n
    · have HA1 := hid (HSM.out.kept KWr.out)
      rcases HA1.out.2 with ⟨_, e0⟩ | ⟨blk, off, cap, e1, hc, hm, hcell⟩
      · have := HN.out; rw [e0] at this; simp at this; omega
      injection e1 with e1 e7 e2
      subst e1 e2
      clear e7
      rw [HN.out] at hc
      unfold maxLen at hm
      have R1r := hid (hcell k (by rw [HN.out]; exact hlt))
      have OX := hid (HA1.out.1 k)
      obtain ⟨X, hX⟩ : ∃ X, addsL zs (ms.take k) = X := ⟨_, rfl⟩
      have HXB : Hid (IsBytes X) := hid (by rw [← hX]; exact addsL_bytes HZB.out _)
      have HXL : Hid (X.length = t) := hid (by rw [← hX, addsL_len]; exact HZL.out)
      have HX1 : Hid (addsL zs (ms.take (k + 1)) = addL X (markAt ms k)) := hid (by
        have hkl : k < ms.length := by rw [HN.out]; exact hlt
        rw [List.take_succ_eq_append_getElem hkl, addsL_snoc, hX]
        unfold markAt
        rw [List.getElem?_eq_getElem hkl]
        rfl)
      rw [hX] at HO
      generalize markAt ms k = x at R1r OX HX1
      have MX := hid (mark_infoL x OX.out.len)
      obtain ⟨M5, hM5⟩ : ∃ N, wr.heap.size = N := ⟨_, rfl⟩
      obtain ⟨W5, hW5⟩ : ∃ W, W = (wr.alloc (.cells #[.int .u8 0, .int .u8 0, .int .u8 0, .int .u8 0, .int .u8 0, .int .u8 0, .int .u8 0, .int .u8 0, .int .u8 0, .int .u8 0, .int .u8 0, .int .u8 0, .int .u8 0, .int .u8 0, .int .u8 0, .int .u8 0] 24)).setCells M5 0 (markL x) := ⟨_, rfl⟩
      obtain ⟨d5, k5, th⟩ := fresh_mark x OX.out.len hM5 hW5
      have D5 := hid d5
      have TH := hid th
      have SI : Hid ((Try.prog.info? 24).map (·.size) = some (markL x).toArray.size) := hid (by rw [List.size_toArray]; exact mark_infoL x OX.out.len)
      have ON : Hid ((markL x).toArray.all (·.oneCell') = true) := hid (all_oneCell_toArray (markL_one' x))
      have F5 := hid (HO.out.kept k5 (fun h => h))
      have K5 : Hid (Kp (Jb N) W W5) := hid (KO.out.trans k5 (fun _ _ h => h.elim))
      have HLT := hid hlt
      clear hcell k5 HO d5 th hX KO
      go_upto_region 5 with (first
          | (refine wpList_load_mid (by rfl) 24 (.tmp 16) (by rfl) blk (off + k * 16) (by rfl) (markL x) _ R1r.out under_mark rfl MX.out ?_)
          | (refine wpList_store_mid (by rfl) 24 (.tmp 7) (.tmp 17) (by rfl) M5 0 (markL x).toArray (by rfl) (by rfl) TH.out SI.out ON.out ?_))
      rw [show (wr.alloc (.cells #[.int .u8 0, .int .u8 0, .int .u8 0, .int .u8 0, .int .u8 0, .int .u8 0, .int .u8 0, .int .u8 0, .int .u8 0, .int .u8 0, .int .u8 0, .int .u8 0, .int .u8 0, .int .u8 0, .int .u8 0, .int .u8 0] 24)).setCells M5 0 (markL x) = W5 from hW5.symm]
      clear hW5 hM5
      have D5r := hid (range_of D5.out)
      go_wp2_with (refine wpList_load_mid (by rfl) 24 (.tmp 7) (by rfl) M5 0 (by rfl) (markL x) _ D5r.out under_mark rfl MX.out ?_)
      refine (CP.out x _ OX.out).mono ?_
      rintro e w6 ⟨rfl, k6⟩
      have F6 := hid (F5.out.kept k6 (fun h => h))
      have K6 : Hid (Kp (Jb N) W w6) := hid (K5.out.trans k6 (fun _ _ h => h.elim))
      have S6 : Hid (Blk w6 N 4 (bvL (bitsL (addK X x (s : Int) 0)))) := F6
      have T6 : Hid (Kp (Jb N) w6 w6) := hid (Kp.refl _ _)
      clear k6 F5 K5 D5 D5r F6
      obtain ⟨p0, hp0⟩ : ∃ p, plb (s : Int) x 0 = p := ⟨_, rfl⟩
      obtain ⟨p1, hp1⟩ : ∃ p, plb (s : Int) x 1 = p := ⟨_, rfl⟩
      obtain ⟨p2, hp2⟩ : ∃ p, plb (s : Int) x 2 = p := ⟨_, rfl⟩
      obtain ⟨p3, hp3⟩ : ∃ p, plb (s : Int) x 3 = p := ⟨_, rfl⟩
      have HP : Hid (plb (s : Int) x 0 = p0 ∧ plb (s : Int) x 1 = p1 ∧ plb (s : Int) x 2 = p2 ∧ plb (s : Int) x 3 = p3) := hid ⟨hp0, hp1, hp2, hp3⟩
      have HPB : Hid (p0 < s ∧ p1 < s ∧ p2 < s ∧ p3 < s) := hid (by
        have := HT.out
        have b0 := plb_lt (s : Int) x 0 (by omega)
        have b1 := plb_lt (s : Int) x 1 (by omega)
        have b2 := plb_lt (s : Int) x 2 (by omega)
        have b3 := plb_lt (s : Int) x 3 (by omega)
        omega)
      have e : plbV (s : Int) x = .agg #[.int .i64 (p0 : Int), .int .i64 (p1 : Int), .int .i64 (p2 : Int), .int .i64 (p3 : Int)] := by unfold plbV plbL; simp [hp0, hp1, hp2, hp3]
      rw [e]
      have HAK : Hid (∀ j, j < 4 → bitsL (addK X x (s : Int) (j + 1)) = (bitsL (addK X x (s : Int) j)).set (plb (s : Int) x j) true) := hid (fun j hj => by
        have := HT.out
        have hb := plb_lt (s : Int) x j (by omega)
        rw [addK_succ, bits_set (addK_bytes HXB.out x _ j) _ (by rw [addK_length, HXL.out]; omega)])
      have HAL : Hid (∀ j, (bitsL (addK X x (s : Int) j)).length = s) := hid (fun j => by rw [bitsL_len, addK_length, HXL.out]; exact HT.out.2.2)
      have HX2 : Hid (addsL zs (ms.take (k + 1)) = addK X x (s : Int) 4) := hid (by rw [HX1.out]; unfold addL; rw [HXL.out, HT.out.2.2])
      clear e hp0 hp1 hp2 hp3 HX1
      go_wp2
      go_loopw [21] (StI w6 N X x (s : Int)) (fun i _ => 4 - (intOf i).toNat)
      case atStart => exact ⟨0, by omega, rfl, S6, T6⟩
      case round =>
        clear S6 T6
        obtain ⟨j, hj, rfl, HO, KO⟩ := hrel
        rcases j with _ | _ | _ | _ | j
        · have hix := idx_arr4_0 p0 p1 p2 p3
          have hpb := HPB.out
          have c1 := HO.out.cell p0
          have f1 := HO.out.frozen p0
          obtain ⟨b, hbb⟩ : ∃ b, (bvL (bitsL (addK X x (s : Int) 0)))[p0]? = some (.bool b) := by
            have hl : p0 < (bitsL (addK X x (s : Int) 0)).length := by rw [HAL.out]; omega
            exact ⟨_, by unfold bvL; rw [List.getElem?_map, List.getElem?_eq_getElem hl, Option.map_some]⟩
          rw [hbb] at c1
          have RE : Hid (StI w6 N X x (s : Int) (.int .i64 ((0 + 1 : Nat) : Int)) (wr.setCell ⟨N, p0, none⟩ (.bool true))) := hid ⟨0 + 1, by omega, rfl, hid (by
            rw [HAK.out 0 (by omega), HP.out.1]
            unfold bvL
            rw [List.map_set]
            exact HO.out.set p0 (.bool true)), hid (KO.out.set p0 (.bool true))⟩
          clear hbb
          go_wp2
          exact ⟨RE.out, by simp [intOf]⟩
        · have hix := idx_arr4_1 p0 p1 p2 p3
          have hpb := HPB.out
          have c1 := HO.out.cell p1
          have f1 := HO.out.frozen p1
          obtain ⟨b, hbb⟩ : ∃ b, (bvL (bitsL (addK X x (s : Int) 1)))[p1]? = some (.bool b) := by
            have hl : p1 < (bitsL (addK X x (s : Int) 1)).length := by rw [HAL.out]; omega
            exact ⟨_, by unfold bvL; rw [List.getElem?_map, List.getElem?_eq_getElem hl, Option.map_some]⟩
          rw [hbb] at c1
          have RE : Hid (StI w6 N X x (s : Int) (.int .i64 ((1 + 1 : Nat) : Int)) (wr.setCell ⟨N, p1, none⟩ (.bool true))) := hid ⟨1 + 1, by omega, rfl, hid (by
            rw [HAK.out 1 (by omega), HP.out.2.1]
            unfold bvL
            rw [List.map_set]
            exact HO.out.set p1 (.bool true)), hid (KO.out.set p1 (.bool true))⟩
          clear hbb
          go_wp2
          exact ⟨RE.out, by simp [intOf]⟩
        · have hix := idx_arr4_2 p0 p1 p2 p3
          have hpb := HPB.out
          have c1 := HO.out.cell p2
          have f1 := HO.out.frozen p2
          obtain ⟨b, hbb⟩ : ∃ b, (bvL (bitsL (addK X x (s : Int) 2)))[p2]? = some (.bool b) := by
            have hl : p2 < (bitsL (addK X x (s : Int) 2)).length := by rw [HAL.out]; omega
            exact ⟨_, by unfold bvL; rw [List.getElem?_map, List.getElem?_eq_getElem hl, Option.map_some]⟩
          rw [hbb] at c1
          have RE : Hid (StI w6 N X x (s : Int) (.int .i64 ((2 + 1 : Nat) : Int)) (wr.setCell ⟨N, p2, none⟩ (.bool true))) := hid ⟨2 + 1, by omega, rfl, hid (by
            rw [HAK.out 2 (by omega), HP.out.2.2.1]
            unfold bvL
            rw [List.map_set]
            exact HO.out.set p2 (.bool true)), hid (KO.out.set p2 (.bool true))⟩
          clear hbb
          go_wp2
          exact ⟨RE.out, by simp [intOf]⟩
        · have hix := idx_arr4_3 p0 p1 p2 p3
          have hpb := HPB.out
          have c1 := HO.out.cell p3
          have f1 := HO.out.frozen p3
          obtain ⟨b, hbb⟩ : ∃ b, (bvL (bitsL (addK X x (s : Int) 3)))[p3]? = some (.bool b) := by
            have hl : p3 < (bitsL (addK X x (s : Int) 3)).length := by rw [HAL.out]; omega
            exact ⟨_, by unfold bvL; rw [List.getElem?_map, List.getElem?_eq_getElem hl, Option.map_some]⟩
          rw [hbb] at c1
          have RE : Hid (StI w6 N X x (s : Int) (.int .i64 ((3 + 1 : Nat) : Int)) (wr.setCell ⟨N, p3, none⟩ (.bool true))) := hid ⟨3 + 1, by omega, rfl, hid (by
            rw [HAK.out 3 (by omega), HP.out.2.2.2]
            unfold bvL
            rw [List.map_set]
            exact HO.out.set p3 (.bool true)), hid (KO.out.set p3 (.bool true))⟩
          clear hbb
          go_wp2
          exact ⟨RE.out, by simp [intOf]⟩
        · obtain rfl : j = 0 := by omega
          have RE : Hid (StR W N zs ms (.int .i64 ((k + 1 : Nat) : Int)) wr) := hid ⟨k + 1, by rw [HN.out]; exact HLT.out, rfl, hid (by rw [HX2.out]; exact HO.out), hid (K6.out.trans KO.out (fun _ _ h => h))⟩
          clear HO KO
          go_wp2
          go_roundw
          case rel => exact RE.out
          case measure => have := HLT.out; simp [intOf]; omega
    · obtain rfl : k = n := by omega
      have htk : ms.take k = ms := List.take_of_length_le (by rw [HN.out]; exact Nat.le_refl _)
      have HR := HO.out
      rw [htk] at HR
      have HRR := hid HR
      clear HO KO htk HR
      go_wp2
      go_ret
      exact ⟨N, rfl, HRR.out, Nat.le_of_eq LN.out, KWr.out⟩

def MyR (zs m : List Int) (s : Int) (w1 : World) (i : Value) (wr : World) : Prop := ∃ k : Nat, k ≤ 4 ∧ i = .int .i64 k ∧ Hid (Kp Nb w1 wr) ∧ Hid (∀ i, i < k → hasB zs (plb s m i) = true)
set_option maxRecDepth 100000 in
set_option maxHeartbeats 4000000 in
theorem rmay15_any (v : Value) (zs m : List Int) (w : World) (h : BoSl w v zs) (hm : MarkOk m) :
    Calls Try.prog 21 #[v, markV m] w fun e w' => e = .returned (.bool (mayB zs m)) ∧ Kp Nb w w' := by
  obtain ⟨hz, hsz, C, cap, rest, rfl, hb, hc, hmx⟩ := h
  obtain ⟨s, hs⟩ : ∃ s : Nat, 8 * zs.length = s := ⟨_, rfl⟩
  have HM := hid hm
  have MX := hid (mark_infoL m hm.len)
  obtain ⟨N, hN⟩ : ∃ N, w.heap.size = N := ⟨_, rfl⟩
  obtain ⟨W, hW⟩ : ∃ W, W = w.alloc (.cells (markL m).toArray 24) := ⟨_, rfl⟩
  have H3 : Hid (Blk W N 24 (markL m)) := hid (by rw [hW, ← hN]; exact Blk.new w _ _)
  have kW : Kp Nb w W := by rw [hW]; exact (Kp.refl Nb w).alloc _
  have KW := hid kW
  have HBB := hid hb
  have CP : Hid (∀ w, Calls Try.prog 20 #[.int .i64 (s : Int), markV m] w fun e w' => e = .returned (plbV (s : Int) m) ∧ Kp Nb w w') := hid (fun w => rplb_any (s : Int) m w hm (by omega) (by omega))
  have HMY : Hid (mayB zs m = true ↔ ∀ i, i < 4 → hasB zs (plb (s : Int) m i) = true) := hid (by rw [← hs]; exact mayB_iff hz m)
  have HSS : Hid (8 * zs.length = s ∧ 64 ≤ s ∧ s ≤ 8192) := hid (by omega)
  rw [hs] at hc
  rw [hs]
  have hs9 : s ≤ 8192 := by omega
  unfold maxLen at hmx
  have D5r := hid (range_of H3.out)
  clear kW hb hs hm hz hsz
  go_enter Try.func21, Try.ntmps21
  go_upto_region 1 with fail
  rw [show w.alloc (.cells (markL m).toArray 24) = W from hW.symm]
  clear hW hN
  go_wp2_with (refine wpList_load_mid (by rfl) 24 (.tmp 3) (by rfl) N 0 (by rfl) (markL m) _ D5r.out under_mark rfl MX.out ?_)
  refine (CP.out _).mono ?_
  rintro e w6 ⟨rfl, k6⟩
  have K6 := hid (KW.out.trans k6 (fun _ _ h => h))
  have T6 : Hid (Kp Nb w6 w6) := hid (Kp.refl _ _)
  obtain ⟨p0, hp0⟩ : ∃ p, plb (s : Int) m 0 = p := ⟨_, rfl⟩
  obtain ⟨p1, hp1⟩ : ∃ p, plb (s : Int) m 1 = p := ⟨_, rfl⟩
  obtain ⟨p2, hp2⟩ : ∃ p, plb (s : Int) m 2 = p := ⟨_, rfl⟩
  obtain ⟨p3, hp3⟩ : ∃ p, plb (s : Int) m 3 = p := ⟨_, rfl⟩
  have HP : Hid (plb (s : Int) m 0 = p0 ∧ plb (s : Int) m 1 = p1 ∧ plb (s : Int) m 2 = p2 ∧ plb (s : Int) m 3 = p3) := hid ⟨hp0, hp1, hp2, hp3⟩
  have HPB : Hid (p0 < s ∧ p1 < s ∧ p2 < s ∧ p3 < s) := hid (by
    have := HSS.out
    have b0 := plb_lt (s : Int) m 0 (by omega)
    have b1 := plb_lt (s : Int) m 1 (by omega)
    have b2 := plb_lt (s : Int) m 2 (by omega)
    have b3 := plb_lt (s : Int) m 3 (by omega)
    omega)
  have e : plbV (s : Int) m = .agg #[.int .i64 (p0 : Int), .int .i64 (p1 : Int), .int .i64 (p2 : Int), .int .i64 (p3 : Int)] := by unfold plbV plbL; simp [hp0, hp1, hp2, hp3]
  rw [e]
  clear e hp0 hp1 hp2 hp3 k6
  go_wp2
  go_loopw [11] (MyR zs m (s : Int) w6) (fun i _ => 4 - (intOf i).toNat)
  case atStart => exact ⟨0, by omega, rfl, T6, hid (fun i hi => absurd hi (Nat.not_lt_zero _))⟩
  case round =>
    clear T6
    obtain ⟨j, hj, rfl, KO, HO⟩ := hrel
    have HB6 := hid (HBB.out.kept (K6.out.trans KO.out (fun _ _ h => h)) (fun h => h))
    rcases j with _ | _ | _ | _ | j
    · have hix := idx_arr4_0 p0 p1 p2 p3
      have hpb := HPB.out
      have c1 := bo_cell HB6.out p0 (by have := HSS.out; omega)
      cases hb : hasB zs p0 with
      | false =>
        rw [hb] at c1
        have HR : Hid (mayB zs m = false) := hid (by
          cases hm : mayB zs m with
          | false => rfl
          | true =>
            have h := HMY.out.1 hm 0 (by omega)
            rw [HP.out.1, hb] at h
            cases h)
        have KR : Hid (Kp Nb w wr) := hid (K6.out.trans KO.out (fun _ _ h => h))
        clear HO KO hb
        go_wp2
        go_ret
        exact ⟨by rw [HR.out]; rfl, KR.out⟩
      | true =>
        rw [hb] at c1
        have RE : Hid (MyR zs m (s : Int) w6 (.int .i64 ((0 + 1 : Nat) : Int)) wr) := hid ⟨0 + 1, by omega, rfl, KO, hid (fun i hi => by
          rcases Nat.lt_or_ge i 0 with h | h
          · exact HO.out i h
          · obtain rfl : i = 0 := by omega
            rw [HP.out.1]
            exact hb)⟩
        clear HO KO hb
        go_wp2
        exact ⟨RE.out, by simp [intOf]⟩
    · have hix := idx_arr4_1 p0 p1 p2 p3
      have hpb := HPB.out
      have c1 := bo_cell HB6.out p1 (by have := HSS.out; omega)
      cases hb : hasB zs p1 with
      | false =>
        rw [hb] at c1
        have HR : Hid (mayB zs m = false) := hid (by
          cases hm : mayB zs m with
          | false => rfl
          | true =>
            have h := HMY.out.1 hm 1 (by omega)
            rw [HP.out.2.1, hb] at h
            cases h)
        have KR : Hid (Kp Nb w wr) := hid (K6.out.trans KO.out (fun _ _ h => h))
        clear HO KO hb
        go_wp2
        go_ret
        exact ⟨by rw [HR.out]; rfl, KR.out⟩
      | true =>
        rw [hb] at c1
        have RE : Hid (MyR zs m (s : Int) w6 (.int .i64 ((1 + 1 : Nat) : Int)) wr) := hid ⟨1 + 1, by omega, rfl, KO, hid (fun i hi => by
          rcases Nat.lt_or_ge i 1 with h | h
          · exact HO.out i h
          · obtain rfl : i = 1 := by omega
            rw [HP.out.2.1]
            exact hb)⟩
        clear HO KO hb
        go_wp2
        exact ⟨RE.out, by simp [intOf]⟩
    · have hix := idx_arr4_2 p0 p1 p2 p3
      have hpb := HPB.out
      have c1 := bo_cell HB6.out p2 (by have := HSS.out; omega)
      cases hb : hasB zs p2 with
      | false =>
        rw [hb] at c1
        have HR : Hid (mayB zs m = false) := hid (by
          cases hm : mayB zs m with
          | false => rfl
          | true =>
            have h := HMY.out.1 hm 2 (by omega)
            rw [HP.out.2.2.1, hb] at h
            cases h)
        have KR : Hid (Kp Nb w wr) := hid (K6.out.trans KO.out (fun _ _ h => h))
        clear HO KO hb
        go_wp2
        go_ret
        exact ⟨by rw [HR.out]; rfl, KR.out⟩
      | true =>
        rw [hb] at c1
        have RE : Hid (MyR zs m (s : Int) w6 (.int .i64 ((2 + 1 : Nat) : Int)) wr) := hid ⟨2 + 1, by omega, rfl, KO, hid (fun i hi => by
          rcases Nat.lt_or_ge i 2 with h | h
          · exact HO.out i h
          · obtain rfl : i = 2 := by omega
            rw [HP.out.2.2.1]
            exact hb)⟩
        clear HO KO hb
        go_wp2
        exact ⟨RE.out, by simp [intOf]⟩
    · have hix := idx_arr4_3 p0 p1 p2 p3
      have hpb := HPB.out
      have c1 := bo_cell HB6.out p3 (by have := HSS.out; omega)
      cases hb : hasB zs p3 with
      | false =>
        rw [hb] at c1
        have HR : Hid (mayB zs m = false) := hid (by
          cases hm : mayB zs m with
          | false => rfl
          | true =>
            have h := HMY.out.1 hm 3 (by omega)
            rw [HP.out.2.2.2, hb] at h
            cases h)
        have KR : Hid (Kp Nb w wr) := hid (K6.out.trans KO.out (fun _ _ h => h))
        clear HO KO hb
        go_wp2
        go_ret
        exact ⟨by rw [HR.out]; rfl, KR.out⟩
      | true =>
        rw [hb] at c1
        have RE : Hid (MyR zs m (s : Int) w6 (.int .i64 ((3 + 1 : Nat) : Int)) wr) := hid ⟨3 + 1, by omega, rfl, KO, hid (fun i hi => by
          rcases Nat.lt_or_ge i 3 with h | h
          · exact HO.out i h
          · obtain rfl : i = 3 := by omega
            rw [HP.out.2.2.2]
            exact hb)⟩
        clear HO KO hb
        go_wp2
        exact ⟨RE.out, by simp [intOf]⟩
    · obtain rfl : j = 0 := by omega
      have HR : Hid (mayB zs m = true) := hid (HMY.out.2 (fun i hi => HO.out i (by omega)))
      have KR : Hid (Kp Nb w wr) := hid (K6.out.trans KO.out (fun _ _ h => h))
      clear HO KO
      go_wp2
      go_ret
      exact ⟨by rw [HR.out]; rfl, KR.out⟩

end Go.Proofs.Ytpgiinogfmhfiaa

namespace Go.Proofs.Ytpgiinogfmhfiaa
open Go.RowKit

theorem bit_down (z j : Nat) (hj : j < 8) : z / 2 ^ (8 - (j + 1)) = 2 * (z / 2 ^ (8 - j)) + (z.testBit (7 - j)).toNat := by
  have e : 8 - (j + 1) = 7 - j := by omega
  have e2 : 8 - j = (7 - j) + 1 := by omega
  rw [e, e2, Nat.pow_succ, ← Nat.div_div_eq_div_mul, Nat.testBit_eq_decide_div_mod_eq]
  have := Nat.mod_lt (z / 2 ^ (7 - j)) (show 0 < 2 by decide)
  by_cases h : z / 2 ^ (7 - j) % 2 = 1
  · simp [h]; omega
  · simp [h]; omega
def ByR (w1 : World) (zs : List Int) (s i : Value) (wr : World) : Prop := ∃ k : Nat, k ≤ zs.length ∧ s = .string (st (numBytes zs.length ++ zs.take k)) ∧ i = .int .i64 ((8 * k : Nat) : Int) ∧ Hid (Kp Nb w1 wr)
def ByI (w1 : World) (z : Nat) (x i : Value) (wr : World) : Prop := ∃ j : Nat, j ≤ 8 ∧ x = .int .i64 ((z / 2 ^ (8 - j) : Nat) : Int) ∧ i = .int .i64 (7 - (j : Int)) ∧ w1 = wr
set_option maxRecDepth 100000 in
set_option maxHeartbeats 4000000 in
theorem rbytes15_any (v : Value) (zs : List Int) (w : World) (h : BoSl w v zs) :
    Calls Try.prog 22 #[v] w fun e w' => e = .returned (.string (st (numBytes zs.length ++ zs))) ∧ Kp Nb w w' := by
  obtain ⟨hz, hsz, C, cap, rest, rfl, hb, hc, hmx⟩ := h
  obtain ⟨n, hn⟩ : ∃ n, zs.length = n := ⟨_, rfl⟩
  have HN := hid hn
  have HZ := hid hz
  have HBB := hid hb
  have CN : Hid (∀ w, Calls Try.prog 38 #[.int .u64 (n : Int)] w fun e w' => e = .returned (.string (st (numBytes zs.length))) ∧ Kp Nb w w') := hid (fun w => by
    have h := refn_number (n : Int) w (by omega) (by omega)
    rw [hn]
    exact h)
  have HNL : Hid ((numBytes (zs.length : Int)).length ≤ 9) := hid numBytes_length (zs.length : Int) (by omega)
  obtain ⟨s, hs⟩ : ∃ s : Nat, 8 * zs.length = s := ⟨_, rfl⟩
  rw [hs] at hc ⊢
  have T1 : (s : Int).tdiv 8 = (n : Int) := by rw [Int.tdiv_eq_ediv_of_nonneg (by omega)]; omega
  have T2 : (s : Int) / 8 = (n : Int) := by omega
  have HS8 : Hid (s = 8 * n) := hid (by omega)
  have hs9 : s ≤ 8192 := by omega
  have hn9 : n ≤ 1024 := by omega
  have HRES : Hid (Ending.returned (.string (st (numBytes zs.length ++ zs))) = Ending.returned (.string (st (numBytes zs.length ++ zs.take n)))) := hid (by rw [List.take_of_length_le (by omega)])
  unfold maxLen at hmx
  clear hb hz hn hs hsz
  go_enter Try.func22, Try.ntmps22
  go_wp2_with fail
  refine (CN.out _).mono ?_
  rintro e w1 ⟨rfl, k1⟩
  have K1 := hid k1
  have T0 : Hid (Kp Nb w1 w1) := hid (Kp.refl _ _)
  clear k1 T1 T2
  go_wp2
  go_loopw [3, 4] (ByR w1 zs) (fun _ i _ => s - (intOf i).toNat)
  case atStart => exact ⟨0, Nat.zero_le _, by rw [List.take_zero, List.append_nil], rfl, T0⟩
  case round =>
    clear T0
    obtain ⟨k, hk, rfl, rfl, KO⟩ := hrel
    rw [HN.out] at hk
    obtain ⟨I, hI⟩ : ∃ I, 8 * k = I := ⟨_, rfl⟩
    rw [hI]
    have HI := hid hI
    by_cases hlt : k < n
    · have d1 : decide ((I : Int) < (s : Int)) = true := decide_eq_true (by have := HS8.out; omega)
      have d1' : I < s := by have := HS8.out; omega
      obtain ⟨z, hz⟩ : ∃ z, (zs[k]?.getD 0).toNat = z := ⟨_, rfl⟩
      have HZK : Hid (zs[k]?.getD 0 = (z : Int) ∧ z < 256) := hid (by have := HZ.out k; omega)
      have HB : Hid (∀ j, j < 8 → hasB zs (I + j) = z.testBit j) := hid (fun j hj => by
        unfold hasB
        rw [show (I + j) / 8 = k from by omega, show (I + j) % 8 = j from by omega, hz])
      obtain ⟨S, hS⟩ : ∃ S, st (numBytes zs.length ++ zs.take k) = S := ⟨_, rfl⟩
      have HSZ : Hid (S.size ≤ 2000) := hid (by rw [← hS, st_size, List.length_append, List.length_take]; have := HNL.out; omega)
      have HSA : Hid (S ++ st [(z : Int)] = st (numBytes zs.length ++ zs.take (k + 1))) := hid (by
        have hkl : k < zs.length := by rw [HN.out]; exact hlt
        rw [← hS, ← st_append, List.take_succ_eq_append_getElem hkl, List.append_assoc]
        have e := HZK.out.1
        rw [List.getElem?_eq_getElem hkl, Option.getD_some] at e
        rw [e])
      rw [hS]
      have HLT := hid hlt
      have HBr := hid (HBB.out.kept (K1.out.trans KO.out (fun _ _ h => h)) (fun h => h))
      have hz0 : z / 256 = 0 := by have := HZK.out.2; omega
      have S0 : ByI wr z (.int .i64 0) (.int .i64 7) wr := ⟨0, by omega, by rw [show z / 2 ^ (8 - 0) = 0 from hz0]; rfl, rfl, rfl⟩
      clear hI hz hS hlt hz0
      go_wp2
      go_loopw [5, 6] (ByI wr z) (fun _ i _ => (intOf i + 1).toNat)
      case atStart => exact S0
      case round =>
        clear S0
        obtain ⟨j, hj, rfl, rfl, rfl⟩ := hrel
        by_cases hj8 : j < 8
        · obtain ⟨q, hq⟩ : ∃ q : Nat, 7 - j = q := ⟨_, rfl⟩
          have hqe : (7 - (j : Int)) = (q : Int) := by omega
          have d2 : decide ((q : Int) ≥ 0) = true := decide_eq_true (by omega)
          obtain ⟨u, hu⟩ : ∃ u, z / 2 ^ (8 - j) = u := ⟨_, rfl⟩
          have hbd := bit_down z j hj8
          rw [hu, hq] at hbd
          have hu9 : u ≤ 256 := by rw [← hu]; have := Nat.div_le_self z (2 ^ (8 - j)); have := HZK.out.2; omega
          obtain ⟨p, hp⟩ : ∃ p, I + q = p := ⟨_, rfl⟩
          have hps : p < s := by have := HS8.out; have := HI.out; have := HLT.out; omega
          have c1 := bo_cell HBr.out p (by have := HS8.out; have := HN.out; omega)
          have hbq : hasB zs p = z.testBit q := by rw [← hp]; exact HB.out q (by omega)
          rw [hbq] at c1
          have hpe : (I : Int) + (q : Int) = (p : Int) := by omega
          have hI9 : I ≤ 8192 := by have := HS8.out; have := HI.out; omega
          have hq7 : q ≤ 7 := by omega
          rw [hqe, hu]
          cases hb : z.testBit q with
          | false =>
            rw [hb] at c1 hbd
            have RE : Hid (ByI wr z (.int .i64 (2 * (u : Int))) (.int .i64 ((q : Int) - 1)) wr) := hid ⟨j + 1, by omega, by rw [hbd]; simp, by congr 1; omega, rfl⟩
            have RM : Hid (((q : Int) - 1 + 1).toNat < ((q : Int) + 1).toNat) := hid (by omega)
            clear hbd hb hbq hu hq hqe hp
            go_wp2
            exact ⟨RE.out, RM.out⟩
          | true =>
            rw [hb] at c1 hbd
            have RE : Hid (ByI wr z (.int .i64 (2 * (u : Int) + 1)) (.int .i64 ((q : Int) - 1)) wr) := hid ⟨j + 1, by omega, by rw [hbd]; simp, by congr 1; omega, rfl⟩
            have RM : Hid (((q : Int) - 1 + 1).toNat < ((q : Int) + 1).toNat) := hid (by omega)
            clear hbd hb hbq hu hq hqe hp
            go_wp2
            exact ⟨RE.out, RM.out⟩
        · obtain rfl : j = 8 := by omega
          have hz1 : z / 2 ^ (8 - 8) = z := by simp
          rw [hz1]
          have hz9 : z < 256 := HZK.out.2
          have hcv := conv_one wr (z : Int) (by omega) (by omega)
          have g2 : ¬ (9223372036854775807 < S.size + (st [(z : Int)]).size) := by rw [st_size]; simp only [List.length_cons, List.length_nil]; have := HSZ.out; omega
          have RE : Hid (ByR w1 zs (.string (S ++ st [(z : Int)])) (.int .i64 ((I : Int) + 8)) (wr.alloc (.cells #[.int .u8 (z : Int)] 5))) := hid ⟨k + 1, by rw [HN.out]; exact HLT.out, by rw [HSA.out], by congr 1; have := HI.out; omega, hid (KO.out.alloc _)⟩
          have hI9 : I ≤ 8192 := by have := HS8.out; have := HI.out; omega
          clear hz1
          go_wp2
          exact ⟨RE.out, by have := HS8.out; simp [intOf]; omega⟩
    · obtain rfl : k = n := by omega
      have d1 : decide ((I : Int) < (s : Int)) = false := decide_eq_false (by have := HS8.out; omega)
      have d1' : ¬ I < s := by have := HS8.out; omega
      have KR : Hid (Kp Nb w wr) := hid (K1.out.trans KO.out (fun _ _ h => h))
      clear KO hI
      obtain ⟨S, hS⟩ : ∃ S, st (numBytes zs.length ++ zs.take k) = S := ⟨_, rfl⟩
      have HSS := hid hS
      rw [hS]
      clear hS
      go_wp2
      go_ret
      exact ⟨by rw [HRES.out, HSS.out]; rfl, KR.out⟩

end Go.Proofs.Ytpgiinogfmhfiaa

namespace Go.Proofs.Ytpgiinogfmhfiaa
open Go.RowKit

theorem BySl.sizeB {S : Nat → Prop} {w : World} {v : Value} {zs : List Int} (h : BySl S w v zs) : ∃ y d, v = .slice y zs.length d := by
  rcases h.2 with ⟨⟨a, c, rfl⟩, rfl⟩ | ⟨blk, off, cap, rfl, _⟩
  · exact ⟨a, c, rfl⟩
  · exact ⟨_, _, rfl⟩
theorem readN_okB (zs : List Int) (e most : Int) (hz : IsBytes zs) : IsBytes (readN zs e most).2.1 := by
  have hn : IsBytes [] := fun i => by simp
  unfold readN
  split
  · exact hz
  · split
    · exact hn
    · split
      · exact hn
      · exact hz.drop _
theorem readN_topB (zs : List Int) (hz : IsBytes zs) : 0 ≤ (readN zs 0 1024).1 ∧ (readN zs 0 1024).1 ≤ 1024 ∧ ((readN zs 0 1024).2.2 ≠ 0 → (readN zs 0 1024).1 = 0) := by
  have hr := readN_range zs 0 1024 hz
  refine ⟨hr.1, ?_, ?_⟩
  · unfold readN
    split
    · show (0 : Int) ≤ 1024; decide
    · split
      · show (0 : Int) ≤ 1024; decide
      · split
        · show (0 : Int) ≤ 1024; decide
        · rename_i h
          show (firstOf zs).1 ≤ 1024
          omega
  · unfold readN
    split
    · intro _; rfl
    · split
      · intro _; rfl
      · split
        · intro _; rfl
        · intro h; exact absurd rfl h
/-- Bytes in a block of their own. -/
def OwB (w : World) (N : Nat) (v : Value) (zs : List Int) : Prop := ∃ g cap rest, v = .slice (some ⟨g, 0, none⟩) zs.length cap ∧ N ≤ g ∧ Blk w g 5 (zs.map (Value.int .u8) ++ rest) ∧ zs.length ≤ cap ∧ cap ≤ maxLen
theorem OwB.kept {S : Nat → Prop} {w w' : World} {N : Nat} {v : Value} {zs : List Int} (h : OwB w N v zs) (k : Kp S w w') (hS : ∀ i, S i → i < N) : OwB w' N v zs := by
  obtain ⟨g, cap, rest, h1, h2, h3, h4⟩ := h
  exact ⟨g, cap, rest, h1, h2, h3.kept k (fun h => by have := hS g h; omega), h4⟩
set_option maxRecDepth 100000 in
set_option maxHeartbeats 400000 in
theorem takeo_on (B : Nat) (zs : List Int) (e : Int) (n : Nat) (w : World) {S : Nat → Prop} (hS : ∀ i, Jb B i → S i) (h : EyeOn S w B zs e) (hn : n ≤ zs.length) (h0 : 0 < n) (hbig : zs.length ≤ 140737488355328) :
    Calls Try.prog 54 #[.pointer (some ⟨B, 0, none⟩), .int .i64 n] w fun r w' => (∃ v', r = .returned v' ∧ OwB w' w.heap.size v' (zs.take n)) ∧ EyeOn S w' B (zs.drop n) e ∧ Kp (Jb B) w w' := by
  have HS := hid hS
  clear hS
  have hlt := h.lt
  obtain ⟨v, hb, hv⟩ := h
  have c0 := hb.cell 0
  simp only [List.getElem?_cons_zero] at c0
  obtain ⟨x1, d1, t1, b1⟩ := hv.cutH n hn
  obtain ⟨x2, d2, t2, b2⟩ := hv.cutL n hn
  have HB := hid hb
  have H1 := hid b1
  have H2 := hid b2
  have hl : (zs.take n).length ≤ 140737488355328 := by rw [List.length_take]; omega
  have HL := hid hl
  have HLT := hid hlt
  have HTL : Hid ((zs.take n).length = n ∧ 0 < n) := hid ⟨by rw [List.length_take]; omega, h0⟩
  clear hb hv b1 b2 hl hbig hlt hn h0
  go_enter Try.func54, Try.ntmps54
  go_wp2_with fail
  refine (clone_any _ (zs.take n) _ H1.out HL.out).mono ?_
  rintro r w1 ⟨v', rfl, ho, k1⟩
  obtain ⟨g, cp, rest', rfl, hg, hbg, hn1, hx1⟩ := own_blk ho (by rw [HTL.out.1]; exact HTL.out.2)
  have ho1 : OwB w1 w.heap.size (.slice (some ⟨g, 0, none⟩) (zs.take n).length cp) (zs.take n) := ⟨g, cp, rest', rfl, hg, hbg, hn1, hx1⟩
  rw [List.length_take] at ho1
  have HO := hid ho1
  clear ho1
  have hb1 := HB.out.kept k1 (fun h => h)
  have c1 := hb1.cell 0
  simp only [List.getElem?_cons_zero] at c1
  have f1 := hb1.frozen 0
  have HB1 := hid hb1
  have HV2 := hid (H2.out.kept (S' := Nb) k1 (fun _ h => absurd h (fun h => h)))
  have K1 := hid (k1.mono (S' := Jb B) (fun _ _ h => absurd h (fun h => h)))
  clear ho k1 hb1 c0 hg hbg hn1 hx1
  go_wp2
  go_ret
  refine ⟨⟨_, rfl, ?_⟩, ⟨_, HB1.out.set 0 _, ?_⟩, K1.out.set 0 _⟩
  · exact HO.out.kept ((Kp.refl (Jb B) _).set 0 _) (fun i h => by have h' : i = B := h; have := HLT.out; omega)
  · exact HV2.out.kept ((Kp.refl (Jb B) _).set 0 _) HS.out
set_option maxRecDepth 100000 in
set_option maxHeartbeats 400000 in
theorem fixedo_on (B : Nat) (zs : List Int) (m : Nat) (w : World) {S : Nat → Prop} (hS : ∀ i, Jb B i → S i) (h : EyeOn S w B zs 0) (hm : m ≤ zs.length) (h0 : 0 < m) (hbig : zs.length ≤ 140737488355328) :
    Calls Try.prog 41 #[.pointer (some ⟨B, 0, none⟩), .int .i64 m] w fun r w' => (∃ v', r = .returned v' ∧ OwB w' w.heap.size v' (zs.take m)) ∧ EyeOn S w' B (zs.drop m) 0 ∧ Kp (Jb B) w w' := by
  have HS := hid hS
  clear hS
  have H := hid h
  obtain ⟨v, hb, hv⟩ := h
  have c0 := hb.cell 0
  simp only [List.getElem?_cons_zero] at c0
  obtain ⟨x, c, rfl⟩ := hv.sizeB
  clear hb hv
  have HBIG := hid hbig
  have H0 := hid h0
  have HM := hid hm
  clear hbig
  go_enter Try.func41, Try.ntmps41
  go_wp2_with fail
  refine (err_on B zs 0 _ HS.out H.out).mono ?_
  rintro r w1 ⟨rfl, rfl⟩
  go_wp2_with fail
  refine (takeo_on B zs 0 m _ HS.out H.out HM.out H0.out HBIG.out).mono ?_
  rintro r w2 ⟨⟨v', rfl, h3⟩, h2, k2⟩
  have H2 := hid h2
  have H3 := hid h3
  have K2 := hid k2
  clear h2 k2 h3
  go_wp2
  go_ret
  exact ⟨⟨_, rfl, H3.out⟩, H2.out, K2.out⟩

/-- What both sides read: the bytes, what is left, the error. -/
def gF (zs : List Int) : List Int × List Int × Int :=
  fixN (if (readN zs 0 1024).1 < 8 then failS (readN zs 0 1024).2.1 (readN zs 0 1024).2.2 11 else (readN zs 0 1024).2.1) (if (readN zs 0 1024).1 < 8 then failE (readN zs 0 1024).2.2 11 else (readN zs 0 1024).2.2) (readN zs 0 1024).1
theorem gF_ok {zs : List Int} (hz : IsBytes zs) (h : (gF zs).2.2 = 0) : IsBytes (gF zs).1 ∧ 8 ≤ (gF zs).1.length ∧ (gF zs).1.length ≤ 1024 := by
  have ht := readN_topB zs hz
  have hb := readN_okB zs 0 1024 hz
  unfold gF at h ⊢
  generalize readN zs 0 1024 = r at h ht hb ⊢
  obtain ⟨u, z1, e1⟩ := r
  dsimp only at h ht hb ⊢
  by_cases hu : u < 8
  · rw [if_pos hu, if_pos hu] at h
    unfold fixN at h
    by_cases he : failE e1 11 = 0
    · exfalso
      unfold failE at he
      split at he
      · cases he
      · rename_i h2; exact h2 ⟨he, by decide⟩
    · rw [if_pos he] at h; exact absurd h he
  · rw [if_neg hu, if_neg hu] at h ⊢
    unfold fixN at h ⊢
    by_cases he : e1 = 0
    · rw [if_neg (fun h => h he)] at h ⊢
      rw [if_neg (show ¬ u < 0 by omega)] at h ⊢
      by_cases hl : (z1.length : Int) < u
      · rw [if_pos hl] at h; cases h
      · rw [if_neg hl] at h ⊢
        refine ⟨hb.take _, ?_, ?_⟩ <;> (dsimp only; rw [List.length_take]; omega)
    · exfalso
      have := ht.2.2 he
      omega
theorem gF_no {zs : List Int} (h : (gF zs).2.2 ≠ 0) : (gF zs).1 = [] := by
  unfold gF at h ⊢
  generalize (if (readN zs 0 1024).1 < 8 then failS (readN zs 0 1024).2.1 (readN zs 0 1024).2.2 11 else (readN zs 0 1024).2.1) = z at h ⊢
  generalize (if (readN zs 0 1024).1 < 8 then failE (readN zs 0 1024).2.2 11 else (readN zs 0 1024).2.2) = e at h ⊢
  unfold fixN at h ⊢
  split
  · rfl
  · split
    · rfl
    · split
      · rfl
      · rename_i h1 h2 h3
        rw [if_neg h1, if_neg h2, if_neg h3] at h
        exact absurd rfl h
/-- What Get answers. -/
def LgR (R : List Int × List Int × Int) (N : Nat) (r : Ending) (w' : World) : Prop := (R.2.2 ≠ 0 ∧ r = .returned (.pointer none)) ∨ (R.2.2 = 0 ∧ ∃ B C, r = .returned (.pointer (some ⟨B, 0, none⟩)) ∧ FlAt w' B C R.1 ∧ N ≤ B ∧ N ≤ C)
set_option maxRecDepth 100000 in
set_option maxHeartbeats 2000000 in
theorem lget_any (E : Nat) (zs : List Int) (w : World) {S : Nat → Prop} (hS : ∀ i, Jb E i → S i) (h : EyeOn S w E zs 0) (hz : IsBytes zs) (hbig : zs.length ≤ 100000) :
    Calls Try.prog 24 #[.pointer (some ⟨E, 0, none⟩)] w fun r w' => EyeOn S w' E (gF zs).2.1 (gF zs).2.2 ∧ Kp (Jb E) w w' ∧ LgR (gF zs) w.heap.size r w' := by
  have HS := hid hS
  have H := hid h
  obtain ⟨R, hR⟩ : ∃ R, R = gF zs := ⟨_, rfl⟩
  have HOK := hid (fun h => gF_ok hz h)
  rw [← hR] at HOK ⊢
  unfold gF at hR
  have ht := readN_topB zs hz
  have hle := readN_left zs 0 1024
  have hbN := readN_okB zs 0 1024 hz
  have CN : Hid (Calls Try.prog 39 #[.pointer (some ⟨E, 0, none⟩), .int .u64 1024] w fun r w' => r = .returned (.int .u64 (readN zs 0 1024).1) ∧ EyeOn S w' E (readN zs 0 1024).2.1 (readN zs 0 1024).2.2 ∧ Kp (Jb E) w w') := hid (number_on E zs 0 1024 w hS h)
  generalize readN zs 0 1024 = r at hR ht hle CN hbN
  obtain ⟨u, z1, e1⟩ := r
  dsimp only at hR ht hle CN hbN
  have HT := hid ht
  have HLE : Hid (z1.length ≤ 100000) := hid (by omega)
  have HLT : Hid (E < w.heap.size) := hid h.lt
  have u0 : 0 ≤ u := ht.1
  have u1 : u ≤ 1024 := ht.2.1
  clear h hS hz hle hbig ht hbN
  go_enter Try.func24, Try.ntmps24
  go_wp2_with fail
  refine CN.out.mono ?_
  rintro r w1 ⟨rfl, e1', k1⟩
  have E1 := hid e1'
  have K1 := hid k1
  clear e1' k1 CN H
  by_cases hu : u < 8
  · rw [if_pos hu, if_pos hu] at hR
    have he2 : failE e1 11 ≠ 0 := by
      unfold failE
      split
      · decide
      · rename_i h2; exact fun h => h2 ⟨h, by decide⟩
    obtain ⟨e2, hee⟩ : ∃ e, failE e1 11 = e := ⟨_, rfl⟩
    obtain ⟨z2, hzz⟩ : ∃ z, failS z1 e1 11 = z := ⟨_, rfl⟩
    have HL2 : Hid (z2.length ≤ 100000) := hid (by rw [← hzz]; unfold failS; split; · simp
                                                   · exact HLE.out)
    rw [hee, hzz] at hR
    rw [hee] at he2
    have hfx : fixN z2 e2 u = ([], z2, e2) := by unfold fixN; rw [if_pos he2]
    rw [hfx] at hR
    subst hR
    have HE2 := hid he2
    have CF : Hid (∀ w, EyeOn S w E z1 e1 → Calls Try.prog 40 #[.pointer (some ⟨E, 0, none⟩), .int .i64 11] w fun r w' => r = .returned (.tuple #[]) ∧ EyeOn S w' E z2 e2 ∧ Kp (Jb E) w w') := hid (fun w h => by have h := fail_on E z1 e1 11 w HS.out h; rw [hzz, hee] at h; exact h)
    have CX : Hid (∀ w, EyeOn S w E z2 e2 → Calls Try.prog 41 #[.pointer (some ⟨E, 0, none⟩), .int .i64 u] w fun r w' => (∃ v', r = .returned v' ∧ BySl (fun i => i < w.heap.size) w' v' []) ∧ EyeOn S w' E z2 e2 ∧ Kp (Jb E) w w') := hid (fun w h => by have h := fixed_on E z2 e2 u w HS.out h (by have := HL2.out; omega); rw [hfx] at h; exact h)
    clear hee hzz hfx
    go_wp2_with fail
    refine (CF.out _ E1.out).mono ?_
    rintro r w2 ⟨rfl, e2', k2⟩
    have E2 := hid e2'
    have K2 := hid (K1.out.trans k2 (fun _ _ h => h))
    clear e2' k2 E1 K1
    go_wp2_with fail
    refine (CX.out _ E2.out).mono ?_
    rintro r w3 ⟨⟨v', rfl, hv⟩, e3', k3⟩
    obtain ⟨y, d, rfl⟩ := hv.sizeB
    have E3 := hid e3'
    have K3 := hid (K2.out.trans k3 (fun _ _ h => h))
    clear e3' k3 E2 K2 hv he2
    go_wp2_with fail
    refine (err_on E z2 e2 _ HS.out (E3.out.kept ((Kp.refl Nb w3).alloc _) (fun h => h) (fun _ h => h.elim))).mono ?_
    rintro r w4 ⟨rfl, rfl⟩
    have dd : (e2 == 0) = false := by have := HE2.out; simpa using this
    have dd' : (e2 != 0) = true := by have := HE2.out; simpa using this
    have dd2 : ¬ e2 = 0 := HE2.out
    go_wp2
    go_ret
    exact ⟨E3.out.kept ((Kp.refl Nb w3).alloc _) (fun h => h) (fun _ h => h.elim), K3.out.alloc _, Or.inl ⟨HE2.out, rfl⟩⟩
  · rw [if_neg hu, if_neg hu] at hR
    have he : e1 = 0 := by
      by_cases he : e1 = 0
      · exact he
      · have := HT.out.2.2 he; omega
    subst he
    obtain ⟨m, rfl⟩ := Int.eq_ofNat_of_zero_le u0
    have hm8 : 8 ≤ m := by omega
    have hm9 : m ≤ 1024 := by omega
    unfold fixN at hR
    rw [if_neg (fun h => h rfl), if_neg (show ¬ ((m : Nat) : Int) < 0 by omega)] at hR
    clear u0 u1 hu
    have d8 : decide ((m : Int) < 8) = false := decide_eq_false (by omega)
    by_cases hl : (z1.length : Int) < m
    · have HLL := hid hl
      rw [if_pos hl] at hR
      subst hR
      have CX : Hid (∀ w, EyeOn S w E z1 0 → Calls Try.prog 41 #[.pointer (some ⟨E, 0, none⟩), .int .i64 (m : Int)] w fun r w' => (∃ v', r = .returned v' ∧ BySl (fun i => i < w.heap.size) w' v' []) ∧ EyeOn S w' E [] 10 ∧ Kp (Jb E) w w') := hid (fun w h => by
        have h := fixed_on E z1 0 (m : Int) w HS.out h (by have := HLE.out; omega)
        have e : fixN z1 0 (m : Int) = ([], [], 10) := by unfold fixN; rw [if_neg (fun h => h rfl), if_neg (show ¬ ((m : Nat) : Int) < 0 by omega), if_pos HLL.out]
        rw [e] at h
        exact h)
      clear hl
      go_wp2_with fail
      refine (CX.out _ E1.out).mono ?_
      rintro r w3 ⟨⟨v', rfl, hv⟩, e3', k3⟩
      obtain ⟨y, d, rfl⟩ := hv.sizeB
      have E3 := hid e3'
      have K3 := hid (K1.out.trans k3 (fun _ _ h => h))
      clear e3' k3 hv
      go_wp2_with fail
      refine (err_on E [] 10 _ HS.out (E3.out.kept ((Kp.refl Nb w3).alloc _) (fun h => h) (fun _ h => h.elim))).mono ?_
      rintro r w4 ⟨rfl, rfl⟩
      go_wp2
      go_ret
      exact ⟨E3.out.kept ((Kp.refl Nb w3).alloc _) (fun h => h) (fun _ h => h.elim), K3.out.alloc _, Or.inl ⟨by decide, rfl⟩⟩
    · rw [if_neg hl, Int.toNat_natCast] at hR
      have HLL : Hid (m ≤ z1.length) := hid (by omega)
      have HM : Hid (8 ≤ m) := hid hm8
      have CX : Hid (∀ w, EyeOn S w E z1 0 → Calls Try.prog 41 #[.pointer (some ⟨E, 0, none⟩), .int .i64 (m : Int)] w fun r w' => (∃ v', r = .returned v' ∧ OwB w' w.heap.size v' (z1.take m)) ∧ EyeOn S w' E (z1.drop m) 0 ∧ Kp (Jb E) w w') := hid (fun w h => fixedo_on E z1 m w HS.out h HLL.out (by have := HM.out; omega) (by have := HLE.out; omega))
      have HTL : Hid ((z1.take m).length = m) := hid (by rw [List.length_take]; omega)
      have HRO := HOK.out (by rw [hR])
      rw [hR] at HRO
      have HRK := hid HRO
      have HRE := hid hR
      clear hl hR HRO
      obtain ⟨X, hX⟩ : ∃ X, z1.take m = X := ⟨_, rfl⟩
      rw [hX] at CX HTL HRK HRE
      clear hX
      go_wp2_with fail
      refine (CX.out _ E1.out).mono ?_
      rintro r w3 ⟨⟨v', rfl, ho⟩, e3', k3⟩
      obtain ⟨g, cp, rest, rfl, hg, hbg, hn1, hx1⟩ := ho
      have HG := hid (show w.heap.size ≤ g ∧ X.length ≤ cp ∧ cp ≤ maxLen from ⟨Nat.le_trans K1.out.size hg, hn1, hx1⟩)
      have HBG := hid hbg
      have E3 := hid e3'
      have K3 := hid (K1.out.trans k3 (fun _ _ h => h))
      clear e3' k3 hg hbg hn1 hx1
      obtain ⟨W4, hW4⟩ : ∃ W, W = w3.alloc (.cells #[.slice (some ⟨g, 0, none⟩) X.length cp] 60) := ⟨_, rfl⟩
      have k4 : Kp Nb w3 W4 := by rw [hW4]; exact (Kp.refl Nb w3).alloc _
      have HF : Hid (FlAt W4 w3.heap.size g X) := hid ⟨HRK.out.1, ⟨cp, rest, by rw [hW4]; exact Blk.new w3 _ [.slice (some ⟨g, 0, none⟩) X.length cp], HBG.out.kept k4 (fun h => h), HG.out.2⟩, HRK.out.2, fun e => by have := HBG.out.lt; omega⟩
      have E4 := hid (E3.out.kept k4 (fun h => h) (fun _ h => h.elim))
      have K4 : Hid (Kp (Jb E) w W4) := hid (K3.out.trans k4 (fun _ _ h => h.elim))
      have LB : Hid (w.heap.size ≤ w3.heap.size) := hid K3.out.size
      clear k4
      go_wp2_with fail
      rw [show w3.alloc (.cells #[.slice (some ⟨g, 0, none⟩) X.length cp] 60) = W4 from hW4.symm]
      clear hW4
      refine (err_on E _ 0 _ HS.out E4.out).mono ?_
      rintro r w5 ⟨rfl, rfl⟩
      go_wp2
      go_ret
      rw [HRE.out]
      exact ⟨E4.out, K4.out, Or.inr ⟨rfl, _, g, rfl, HF.out, LB.out, HG.out.1⟩⟩

end Go.Proofs.Ytpgiinogfmhfiaa

namespace Go.Proofs.Ytpgiinogfmhfiaa
open Go.RowKit

def bitsN (zs : List Int) (n : Nat) : List Bool := (List.range n).map (hasB zs)
theorem bitsN_succ (zs : List Int) (n : Nat) : bitsN zs (n + 1) = bitsN zs n ++ [hasB zs n] := by
  unfold bitsN
  rw [List.range_succ, List.map_append]
  rfl
theorem bitsN_all (zs : List Int) : bitsN zs (8 * zs.length) = bitsL zs := rfl
abbrev oF (b : Bool) : List Value := [.bool b]
theorem bool_info3 : ∃ i z, Try.prog.info? 4 = some i ∧ i.zero = some z ∧ i.size = 1 ∧ i.bytes = 1 ∧ z.cells.size = 1 := by
  obtain ⟨i, z, h1, h2, h3, h4, h5⟩ := bool_zc
  exact ⟨i, z, h1, h2, h3, h4, by rw [h5]; rfl⟩
theorem bools_one {W : World} {B : Nat} {b : Bool} (h : Blk W B 4 [.bool b]) : RowsSl oF false 1 W (.slice (some ⟨B, 0, none⟩) 1 1) [b] := by
  refine .inr ⟨B, 0, 1, rfl, Nat.le_refl _, by unfold maxLen; omega, fun i hi => ?_⟩
  have e : i = 0 := by simp at hi; omega
  subst e
  exact h.range 0 _ (fun j _ => by rw [Nat.zero_add]; rfl)
theorem ownsRow_kpb {w w' : World} {base e size k : Nat} {v : Value} {xs : List Value} (h : w.ownsRow base e size v k xs) (hk : Kp Nb w w') : w'.ownsRow base e size v k xs :=
  ownsRow_same h (fun g hg => by obtain ⟨-, o, ho, -⟩ := row_cells h hg; exact hk.heap (Array.getElem?_eq_some_iff.1 ho).1 (fun h => h))
def RgR (w5 : World) (X : List Int) (v i : Value) (wr : World) : Prop := ∃ k : Nat, k ≤ X.length ∧ i = .int .i64 k ∧ Hid (wr.ownsRow w5.heap.size 4 1 v (8 * k) (bvL (bitsN X (8 * k)))) ∧ Hid (Kp Nb w5 wr)
def RgI (w5 : World) (X : List Int) (q z : Nat) (v x i : Value) (wr : World) : Prop := ∃ j : Nat, j ≤ 8 ∧ x = .int .i64 ((z / 2 ^ j : Nat) : Int) ∧ i = .int .i64 j ∧ Hid (wr.ownsRow w5.heap.size 4 1 v (q + j) (bvL (bitsN X (q + j)))) ∧ Hid (Kp Nb w5 wr)
/-- What the reference's Get answers. -/
def RgA (R : List Int × List Int × Int) (r : Ending) (w' : World) : Prop := ∃ v, r = .returned v ∧ ((R.2.2 ≠ 0 ∧ v = .slice none 0 0) ∨ (R.2.2 = 0 ∧ BoSl w' v R.1))
set_option maxRecDepth 100000 in
set_option maxHeartbeats 4000000 in
theorem rget15_any (E : Nat) (zs : List Int) (w : World) (h : RefAt w E zs 0) (hz : IsBytes zs) (hbig : zs.length ≤ 100000) :
    Calls Try.prog 25 #[.pointer (some ⟨E, 0, none⟩)] w fun r w' => RefAt w' E (gF zs).2.1 (gF zs).2.2 ∧ Kp (Jb E) w w' ∧ RgA (gF zs) r w' := by
  obtain ⟨R, hR⟩ : ∃ R, R = gF zs := ⟨_, rfl⟩
  have HOK := hid (fun h => gF_ok hz h)
  rw [← hR] at HOK ⊢
  unfold gF at hR
  have ht := readN_topB zs hz
  have hbN := readN_okB zs 0 1024 hz
  have hle := readN_left zs 0 1024
  have CN : Hid (Calls Try.prog 42 #[.pointer (some ⟨E, 0, none⟩), .int .u64 1024] w fun r w' => r = .returned (.int .u64 (readN zs 0 1024).1) ∧ RefAt w' E (readN zs 0 1024).2.1 (readN zs 0 1024).2.2 ∧ Kp (Jb E) w w') := hid (refi_number E zs 0 1024 w h hz)
  generalize readN zs 0 1024 = r at hR ht hle CN hbN
  obtain ⟨u, z1, e1⟩ := r
  dsimp only at hR ht hle CN hbN
  have HT := hid ht
  have HLE : Hid (z1.length ≤ 100000 ∧ IsBytes z1) := hid ⟨by omega, hbN⟩
  have HLT : Hid (E < w.heap.size) := hid (Blk.lt h)
  have u0 : 0 ≤ u := ht.1
  have u1 : u ≤ 1024 := ht.2.1
  clear h hz hle hbig ht hbN
  go_enter Try.func25, Try.ntmps25
  go_wp2_with fail
  refine CN.out.mono ?_
  rintro r w1 ⟨rfl, e1', k1⟩
  have E1 := hid e1'
  have K1 := hid k1
  clear e1' k1 CN
  have c1 := Blk.cell E1.out 1
  simp only [List.getElem?_cons_zero, List.getElem?_cons_succ] at c1
  by_cases he : e1 = 0
  · subst he
    by_cases hu : u < 8
    · rw [if_pos hu, if_pos hu] at hR
      have hfx : fixN (failS z1 0 11) (failE 0 11) u = ([], [], 11) := rfl
      rw [hfx] at hR
      subst hR
      have d8 : decide (u < 8) = true := decide_eq_true hu
      go_wp2_with fail
      refine (refi_fail E z1 0 11 _ E1.out).mono ?_
      rintro r w2 ⟨rfl, e2', k2⟩
      have E2 : Hid (RefAt w2 E [] 11) := hid e2'
      have K2 := hid (K1.out.trans k2 (fun _ _ h => h))
      clear e2' k2 E1 K1 c1 d8
      have CX : Hid (Calls Try.prog 44 #[.pointer (some ⟨E, 0, none⟩), .int .i64 u] w2 fun r w' => r = .returned (.string (st [])) ∧ RefAt w' E [] 11 ∧ Kp (Jb E) w2 w') := hid (refi_fixed E [] 11 u w2 E2.out)
      go_wp2_with fail
      refine CX.out.mono ?_
      rintro r w5 ⟨rfl, e5, k5⟩
      have E5 := hid e5
      have K5 := hid (K2.out.trans k5 (fun _ _ h => h))
      clear e5 k5 K2 CX
      obtain ⟨s, hs⟩ : ∃ s, st [] = s := ⟨_, rfl⟩
      have hsz : s.size = 0 := by rw [← hs]; rfl
      rw [hs]
      clear hs
      go_wp2
      go_loopw [5, 6] (fun v i wr => v = .slice none 0 0 ∧ i = .int .i64 0 ∧ w5 = wr) (fun _ _ _ => 0)
      case atStart => exact ⟨rfl, rfl, rfl⟩
      case round =>
        obtain ⟨rfl, rfl, rfl⟩ := hrel
        go_wp2
        go_ret
        exact ⟨E5.out, K5.out, _, rfl, Or.inl ⟨by decide, rfl⟩⟩
    · rw [if_neg hu, if_neg hu] at hR
      obtain ⟨m, rfl⟩ := Int.eq_ofNat_of_zero_le u0
      have hm8 : 8 ≤ m := by omega
      have hm9 : m ≤ 1024 := by omega
      unfold fixN at hR
      rw [if_neg (fun h => h rfl), if_neg (show ¬ ((m : Nat) : Int) < 0 by omega)] at hR
      clear u0 u1 hu
      have d8 : decide ((m : Int) < 8) = false := decide_eq_false (by omega)
      by_cases hl : (z1.length : Int) < m
      · have HLL := hid hl
        rw [if_pos hl] at hR
        subst hR
        have CX : Hid (Calls Try.prog 44 #[.pointer (some ⟨E, 0, none⟩), .int .i64 (m : Int)] w1 fun r w' => r = .returned (.string (st [])) ∧ RefAt w' E [] 10 ∧ Kp (Jb E) w1 w') := hid (by
          have h := refi_fixed E z1 0 (m : Int) w1 E1.out
          have e : fixN z1 0 (m : Int) = ([], [], 10) := by unfold fixN; rw [if_neg (fun h => h rfl), if_neg (show ¬ ((m : Nat) : Int) < 0 by omega), if_pos HLL.out]
          rw [e] at h
          exact h)
        have K2 := K1
        clear hl
        go_wp2_with fail
        refine CX.out.mono ?_
        rintro r w5 ⟨rfl, e5, k5⟩
        have E5 := hid e5
        have K5 := hid (K2.out.trans k5 (fun _ _ h => h))
        clear e5 k5 K2 CX
        obtain ⟨s, hs⟩ : ∃ s, st [] = s := ⟨_, rfl⟩
        have hsz : s.size = 0 := by rw [← hs]; rfl
        rw [hs]
        clear hs
        go_wp2
        go_loopw [5, 6] (fun v i wr => v = .slice none 0 0 ∧ i = .int .i64 0 ∧ w5 = wr) (fun _ _ _ => 0)
        case atStart => exact ⟨rfl, rfl, rfl⟩
        case round =>
          obtain ⟨rfl, rfl, rfl⟩ := hrel
          go_wp2
          go_ret
          exact ⟨E5.out, K5.out, _, rfl, Or.inl ⟨by decide, rfl⟩⟩
      · rw [if_neg hl, Int.toNat_natCast] at hR
        have CX : Hid (Calls Try.prog 44 #[.pointer (some ⟨E, 0, none⟩), .int .i64 (m : Int)] w1 fun r w' => r = .returned (.string (st (z1.take m))) ∧ RefAt w' E (z1.drop m) 0 ∧ Kp (Jb E) w1 w') := hid (by
          have h := refi_fixed E z1 0 (m : Int) w1 E1.out
          have e : fixN z1 0 (m : Int) = (z1.take m, z1.drop m, 0) := by unfold fixN; rw [if_neg (fun h => h rfl), if_neg (show ¬ ((m : Nat) : Int) < 0 by omega), if_neg hl, Int.toNat_natCast]
          rw [e] at h
          exact h)
        have HTL : Hid ((z1.take m).length = m) := hid (by rw [List.length_take]; omega)
        have HRO := HOK.out (by rw [hR])
        rw [hR] at HRO
        have HRK := hid HRO
        have HRE := hid hR
        clear hl hR HRO
        obtain ⟨X, hX⟩ : ∃ X, z1.take m = X := ⟨_, rfl⟩
        rw [hX] at CX HTL HRK HRE
        clear hX
        obtain ⟨s, hs⟩ : ∃ s, st X = s := ⟨_, rfl⟩
        have hsz : s.size = m := by rw [← hs, st_size, HTL.out]
        have HI : Hid (∀ (i : Nat), i < m → ∀ w, (Instr.index 9 (.string s) (.int .i64 (i : Int))).run Try.prog w = .ok (.int .u8 (X[i]?.getD 0)) w) := hid (fun i hi w => by rw [← hs]; exact idx_any X w HRK.out.1 i (by rw [HTL.out]; exact hi))
        rw [hs] at CX
        clear hs
        go_wp2_with fail
        refine CX.out.mono ?_
        rintro r w5 ⟨rfl, e5, k5⟩
        have E5 := hid e5
        have K5 := hid (K1.out.trans k5 (fun _ _ h => h))
        have S0 : RgR w5 X (.slice none 0 0) (.int .i64 0) w5 := ⟨0, Nat.zero_le _, rfl, hid ⟨rfl, .inl ⟨rfl, rfl⟩⟩, hid (Kp.refl _ _)⟩
        clear e5 k5 E1 K1 c1 d8 CX
        go_wp2
        go_loopw [5, 6] (RgR w5 X) (fun _ i _ => m - (intOf i).toNat)
        case atStart => exact S0
        case round =>
          clear S0
          obtain ⟨k, hk, rfl, HA, HK⟩ := hrel
          rw [HTL.out] at hk
          obtain ⟨y3, d3, rfl⟩ := own_shape HA.out
          by_cases hlt : k < m
          · have hi := HI.out k hlt
            obtain ⟨z, hz⟩ : ∃ z, (X[k]?.getD 0).toNat = z := ⟨_, rfl⟩
            have HZK : Hid (X[k]?.getD 0 = (z : Int) ∧ z < 256) := hid (by have := HRK.out.1 k; omega)
            have HB : Hid (∀ j, j < 8 → hasB X (8 * k + j) = z.testBit j) := hid (fun j hj => by
              unfold hasB
              rw [show (8 * k + j) / 8 = k from by omega, show (8 * k + j) % 8 = j from by omega, hz])
            rw [HZK.out.1] at hi
            have hz9 : z < 256 := HZK.out.2
            have HLT2 := hid hlt
            have dk : decide (k < m) = true := decide_eq_true hlt
            have dk' : decide ((k : Int) < (m : Int)) = true := decide_eq_true (by omega)
            obtain ⟨q, hq⟩ : ∃ q, 8 * k = q := ⟨_, rfl⟩
            rw [hq] at HA HB
            have HQ := hid hq
            have S0 : RgI w5 X q z (.slice y3 q d3) (.int .i64 (z : Int)) (.int .i64 0) wr := ⟨0, by omega, by simp, rfl, HA, HK⟩
            rw [hq]
            clear hz hlt HA hq
            go_wp2
            go_loopw [5, 7, 8] (RgI w5 X q z) (fun _ _ i _ => 8 - (intOf i).toNat)
            case atStart => exact S0
            case round =>
              clear S0 HK
              obtain ⟨j, hj, rfl, rfl, HA, HK⟩ := hrel
              obtain ⟨y4, d4, rfl⟩ := own_shape HA.out
              by_cases hj8 : j < 8
              · obtain ⟨x, hx⟩ : ∃ x, z / 2 ^ j = x := ⟨_, rfl⟩
                obtain ⟨x2, hx2⟩ : ∃ y, x / 2 = y := ⟨_, rfl⟩
                have hxn : z / 2 ^ (j + 1) = x2 := by rw [Nat.pow_succ, ← Nat.div_div_eq_div_mul, hx, hx2]
                have hxb : z.testBit j = decide (x % 2 = 1) := by rw [Nat.testBit_eq_decide_div_mod_eq, hx]
                have hx9 : x < 256 := by rw [← hx]; have := Nat.div_le_self z (2 ^ j); omega
                have HBJ := HB.out j hj8
                rw [hxb] at HBJ
                obtain ⟨i0, z0, hi0, hz0, hz1, hz2, hz3⟩ := bool_info3
                have T3 : (x : Int).tdiv 2 = (x2 : Int) := by rw [Int.tdiv_eq_ediv_of_nonneg (by omega)]; omega
                have T4 : (x : Int) / 2 = (x2 : Int) := by omega
                have HXN := hid hxn
                rw [hx]
                have hq9 : q ≤ 8192 := by have := HQ.out; have := HLT2.out; omega
                clear hx hx2 hxn hxb
                by_cases hb : x % 2 = 1
                · have T1 : (x : Int).tmod 2 = 1 := by rw [Int.tmod_eq_emod_of_nonneg (by omega)]; omega
                  have T2 : (x : Int) % 2 = 1 := by omega
                  rw [decide_eq_true hb] at HBJ
                  have LL : Hid (w5.heap.size ≤ (wr.alloc (.cells #[.bool true] 4 (0, 0))).heap.size ∧ (q + j) + [true].length ≤ maxLen ∧ ((q + j) + [true].length) * 1 ≤ 140737488355328) := hid (by
                    have h1 := HK.out.size
                    have h2 := ((Kp.refl Nb wr).alloc (.cells #[.bool true] 4 (0, 0))).size
                    refine ⟨Nat.le_trans h1 h2, ?_, ?_⟩ <;> rw [List.length_singleton]
                    · unfold maxLen; omega
                    · omega)
                  go_wp2_with (at_builtin; refine wpList_append_rows (f := oF) (z := false) (c := 1) rfl _ _ 44 rfl w5.heap.size 4 i0 z0 1 Try.underlying44 hi0 hz0 hz1 hz2 hz3 (by decide) _ _ _ rfl (ownsRow_kpb HA.out ((Kp.refl Nb _).alloc _)) _ [true] rfl (bools_one (Blk.new _ _ _)) (fun q _ => rfl) (fun q _ u hu => by rw [List.mem_singleton.1 hu]; rfl) LL.out.2.1 LL.out.2.2 LL.out.1 ?_)
                  intro v10 w10 hown hgrow
                  have RE : Hid (RgI w5 X q z v10 (.int .i64 (x2 : Int)) (.int .i64 ((j : Int) + 1)) w10) := hid (by
                    refine ⟨j + 1, by omega, by rw [HXN.out], by go_num, hid ?_, hid ((HK.out.alloc _).grown hgrow (fun q hq hlt => by have := (row_cells HA.out hq).1; omega))⟩
                    have e : bvL (bitsN X (q + (j + 1))) = bvL (bitsN X (q + j)) ++ flatR oF [true] := by rw [← Nat.add_assoc, bitsN_succ, HBJ]; unfold bvL; rw [List.map_append]; rfl
                    rw [e]
                    simpa only [List.length_singleton, List.length_cons, List.length_nil, Nat.zero_add, Nat.add_assoc] using hown)
                  obtain ⟨a10, c10, rfl⟩ := own_shape hown
                  clear hown hgrow
                  go_wp2
                  go_roundw
                  case rel => exact RE.out
                  case measure => simp [intOf]; omega
                · have T1 : (x : Int).tmod 2 = 0 := by rw [Int.tmod_eq_emod_of_nonneg (by omega)]; omega
                  have T2 : (x : Int) % 2 = 0 := by omega
                  rw [decide_eq_false hb] at HBJ
                  have LL : Hid (w5.heap.size ≤ (wr.alloc (.cells #[.bool false] 4 (0, 0))).heap.size ∧ (q + j) + [false].length ≤ maxLen ∧ ((q + j) + [false].length) * 1 ≤ 140737488355328) := hid (by
                    have h1 := HK.out.size
                    have h2 := ((Kp.refl Nb wr).alloc (.cells #[.bool false] 4 (0, 0))).size
                    refine ⟨Nat.le_trans h1 h2, ?_, ?_⟩ <;> rw [List.length_singleton]
                    · unfold maxLen; omega
                    · omega)
                  go_wp2_with (at_builtin; refine wpList_append_rows (f := oF) (z := false) (c := 1) rfl _ _ 44 rfl w5.heap.size 4 i0 z0 1 Try.underlying44 hi0 hz0 hz1 hz2 hz3 (by decide) _ _ _ rfl (ownsRow_kpb HA.out ((Kp.refl Nb _).alloc _)) _ [false] rfl (bools_one (Blk.new _ _ _)) (fun q _ => rfl) (fun q _ u hu => by rw [List.mem_singleton.1 hu]; rfl) LL.out.2.1 LL.out.2.2 LL.out.1 ?_)
                  intro v10 w10 hown hgrow
                  have RE : Hid (RgI w5 X q z v10 (.int .i64 (x2 : Int)) (.int .i64 ((j : Int) + 1)) w10) := hid (by
                    refine ⟨j + 1, by omega, by rw [HXN.out], by go_num, hid ?_, hid ((HK.out.alloc _).grown hgrow (fun q hq hlt => by have := (row_cells HA.out hq).1; omega))⟩
                    have e : bvL (bitsN X (q + (j + 1))) = bvL (bitsN X (q + j)) ++ flatR oF [false] := by rw [← Nat.add_assoc, bitsN_succ, HBJ]; unfold bvL; rw [List.map_append]; rfl
                    rw [e]
                    simpa only [List.length_singleton, List.length_cons, List.length_nil, Nat.zero_add, Nat.add_assoc] using hown)
                  obtain ⟨a10, c10, rfl⟩ := own_shape hown
                  clear hown hgrow
                  go_wp2
                  go_roundw
                  case rel => exact RE.out
                  case measure => simp [intOf]; omega
              · obtain rfl : j = 8 := by omega
                have RE : Hid (RgR w5 X (.slice y4 (q + 8) d4) (.int .i64 ((k : Int) + 1)) wr) := hid ⟨k + 1, by rw [HTL.out]; exact HLT2.out, by go_num, by
                  have e : 8 * (k + 1) = q + 8 := by have := HQ.out; omega
                  rw [e]
                  exact HA, HK⟩
                have hk9 : k < m := HLT2.out
                clear HA HK
                go_wp2
                exact ⟨RE.out, by have := HLT2.out; simp [intOf]; omega⟩
          · obtain rfl : k = m := by omega
            have HBO : Hid (BoSl wr (.slice y3 (8 * k) d3) X) := hid (by
              obtain ⟨g, cap, rest, e, hg, hb, h1, h2⟩ := own_blk HA.out (by omega)
              refine ⟨HRK.out.1, HRK.out.2, g, cap, rest, ?_, ?_, ?_, h2⟩
              · rw [HTL.out]; exact e
              · rw [← bitsN_all, HTL.out]; exact hb
              · rw [HTL.out]; exact h1)
            have HE9 := hid (E5.out.kept HK.out (fun h => h))
            have HK9 := hid (K5.out.trans HK.out (fun _ _ h => h.elim))
            clear HA HK
            go_wp2
            go_ret
            rw [HRE.out]
            exact ⟨HE9.out, HK9.out, _, rfl, Or.inr ⟨rfl, HBO.out⟩⟩
  · have hu0 : u = 0 := HT.out.2.2 he
    subst hu0
    rw [if_pos (by decide), if_pos (by decide)] at hR
    have e1s : failS z1 e1 11 = z1 := by unfold failS; rw [if_neg (fun h => he h.1)]
    have e1e : failE e1 11 = e1 := by unfold failE; rw [if_neg (fun h => he h.1)]
    rw [e1s, e1e] at hR
    have hfx : fixN z1 e1 0 = ([], z1, e1) := by unfold fixN; rw [if_pos he]
    rw [hfx] at hR
    subst hR
    have HE := hid he
    have dd : (e1 == 0) = false := by simpa using he
    have CX : Hid (Calls Try.prog 44 #[.pointer (some ⟨E, 0, none⟩), .int .i64 0] w1 fun r w' => r = .returned (.string (st [])) ∧ RefAt w' E z1 e1 ∧ Kp (Jb E) w1 w') := hid (by
      have h := refi_fixed E z1 e1 0 w1 E1.out
      rw [hfx] at h
      exact h)
    have K2 := K1
    clear hfx e1s e1e
    go_wp2_with fail
    refine CX.out.mono ?_
    rintro r w5 ⟨rfl, e5, k5⟩
    have E5 := hid e5
    have K5 := hid (K2.out.trans k5 (fun _ _ h => h))
    clear e5 k5 K2 CX
    obtain ⟨s, hs⟩ : ∃ s, st [] = s := ⟨_, rfl⟩
    have hsz : s.size = 0 := by rw [← hs]; rfl
    rw [hs]
    clear hs
    go_wp2
    go_loopw [5, 6] (fun v i wr => v = .slice none 0 0 ∧ i = .int .i64 0 ∧ w5 = wr) (fun _ _ _ => 0)
    case atStart => exact ⟨rfl, rfl, rfl⟩
    case round =>
      obtain ⟨rfl, rfl, rfl⟩ := hrel
      go_wp2
      go_ret
      exact ⟨E5.out, K5.out, _, rfl, Or.inl ⟨HE.out, rfl⟩⟩

end Go.Proofs.Ytpgiinogfmhfiaa

namespace Go.Proofs.Ytpgiinogfmhfiaa
open Go.RowKit Go.Shelf
attribute [local go_sem] Oper.semAt_some

theorem lcount_nil (w : World) : Calls Try.prog 16 #[.pointer none] w fun e w' => e = .returned (.int .i64 0) ∧ w = w' := by
  go_enter Try.func16, Try.ntmps16
  go_wp2
  go_ret
  exact ⟨rfl, rfl⟩
set_option maxRecDepth 100000 in
theorem lmay_nil (m : List Int) (w : World) : Calls Try.prog 17 #[.pointer none, markV m] w fun e w' => e = .returned (.bool false) ∧ Kp Nb w w' := by
  have K0 := hid ((Kp.refl Nb w).alloc (.cells (markL m).toArray 24))
  go_enter Try.func17, Try.ntmps17
  go_wp2
  go_ret
  exact ⟨rfl, K0.out⟩
set_option maxRecDepth 100000 in
theorem ladd_nil (m : List Int) (w : World) : Calls Try.prog 10 #[.pointer none, markV m] w fun e w' => e = .returned (.tuple #[]) ∧ Kp Nb w w' := by
  have K0 := hid ((Kp.refl Nb w).alloc (.cells (markL m).toArray 24))
  go_enter Try.func10, Try.ntmps10
  go_wp2
  exact bodyPost_ret (results_none rfl _ _ _) rfl ⟨rfl, K0.out⟩
theorem lunion_nil (v : Value) (w : World) : Calls Try.prog 11 #[.pointer none, v] w fun e w' => e = .returned (.tuple #[.pointer none, .int .i64 1]) ∧ w = w' := by
  go_enter Try.func11, Try.ntmps11
  go_wp2
  go_ret2
  exact ⟨rfl, rfl⟩
set_option maxRecDepth 100000 in
theorem lput_nil (P : Nat) (w : World) : Calls Try.prog 34 #[.pointer none, .pointer (some ⟨P, 0, none⟩)] w fun e w' => e = .returned (.tuple #[]) ∧ w = w' := by
  go_enter Try.func34, Try.ntmps34
  go_wp2
  go_end0
  exact ⟨rfl, rfl⟩
set_option maxRecDepth 100000 in
set_option maxHeartbeats 2000000 in
theorem lbytes_nil (w : World) : Calls Try.prog 18 #[.pointer none] w fun e w' => e = .returned (.string ⟨#[]⟩) ∧ Kp Nb w w' := by
  obtain ⟨P, hP⟩ : ∃ P, w.heap.size = P := ⟨_, rfl⟩
  obtain ⟨W, hW⟩ : ∃ W, W = w.alloc (.cells #[.slice none 0 0] 73) := ⟨_, rfl⟩
  have P0 : Hid (PenAt W P (.slice none 0 0) []) := hid (by rw [hW, ← hP]; exact pen_new w)
  have K0 : Hid (Kp Nb w W) := hid (by rw [hW]; exact (Kp.refl Nb w).alloc _)
  have CP := hid (lput_nil P W)
  go_enter Try.func18, Try.ntmps18
  go_upto_region 2 with fail
  rw [show w.alloc (.cells #[.slice none 0 0] 73) = W from hW.symm]
  clear hW hP
  go_wp2_with fail
  refine CP.out.mono ?_
  rintro e w1 ⟨rfl, rfl⟩
  clear CP
  go_wp2_with fail
  refine (pen_bytes P _ [] _ P0.out (by decide)).mono ?_
  rintro e w2 ⟨r, rfl, ow, k2⟩
  have BY : Hid (BySl Nb w2 r []) := hid (BySl.ofOwn ow P0.out.bytes (fun _ _ _ h => h))
  have hcv := conv_any BY.out
  have K2 := hid (K0.out.trans k2 (fun _ _ h => h))
  rw [show st [] = ⟨#[]⟩ from rfl] at hcv
  obtain ⟨y, d, rfl⟩ := own_shape ow
  clear ow k2
  go_wp2_with (refine wpList_val (by rfl) _ _ (exec_convertB rfl rfl hcv) ?_)
  go_ret
  exact ⟨rfl, K2.out⟩
set_option maxRecDepth 100000 in
set_option maxHeartbeats 1000000 in
theorem lplaces_no (n : Int) (m : List Int) (w : World) (h0 : -9223372036854775808 ≤ n) (h1 : n < 9223372036854775808) (hf : fitL n = false) :
    Calls Try.prog 14 #[.int .i64 n, markV m] w fun e w' => e = .returned (.agg #[.int .i64 0, .int .i64 0, .int .i64 0, .int .i64 0]) ∧ Kp Nb w w' := by
  have CF : Hid (∀ w, Calls Try.prog 13 #[.int .i64 n] w fun e w' => e = .returned (.bool false) ∧ w = w') := hid (fun w => by rw [← hf]; exact lfits_any n w h0 h1)
  obtain ⟨W, hW⟩ : ∃ W, W = ((w.alloc (.cells (markL m).toArray 24)).alloc (.cells #[.int .i64 0, .int .i64 0, .int .i64 0, .int .i64 0] 39)).alloc (.cells #[.int .i64 0, .int .i64 0, .int .i64 0, .int .i64 0] 39) := ⟨_, rfl⟩
  obtain ⟨N, hN⟩ : ∃ N, N = w.heap.size := ⟨_, rfl⟩
  have H4 : Hid (Blk W (N + 1) 39 [.int .i64 0, .int .i64 0, .int .i64 0, .int .i64 0]) := hid (by
    have h := (Blk.new (w.alloc (.cells (markL m).toArray 24)) 39 [.int .i64 0, .int .i64 0, .int .i64 0, .int .i64 0]).alloc (.cells #[.int .i64 0, .int .i64 0, .int .i64 0, .int .i64 0] 39)
    simp only [World.size_alloc] at h
    rw [hW, hN]
    exact h)
  have H5 : Hid (Blk W (N + 1 + 1) 39 [.int .i64 0, .int .i64 0, .int .i64 0, .int .i64 0]) := hid (by
    have h := Blk.new ((w.alloc (.cells (markL m).toArray 24)).alloc (.cells #[.int .i64 0, .int .i64 0, .int .i64 0, .int .i64 0] 39)) 39 [.int .i64 0, .int .i64 0, .int .i64 0, .int .i64 0]
    simp only [World.size_alloc] at h
    rw [hW, hN]
    exact h)
  have KW : Hid (Kp Nb w W) := hid (by rw [hW]; exact (((Kp.refl Nb w).alloc _).alloc _).alloc _)
  have LN : Hid (w.heap.size ≤ N) := hid (by rw [hN]; exact Nat.le_refl _)
  obtain ⟨P, hP⟩ : ∃ P : List Value, P = [.int .i64 0, .int .i64 0, .int .i64 0, .int .i64 0] := ⟨_, rfl⟩
  rw [← hP] at H4 H5
  have HPE := hid hP
  have TH : Hid (W.there (N + 1) 0 P.toArray.size) := hid (by rw [List.size_toArray]; exact H4.out.there 0 _ (by rw [Nat.zero_add]; exact Nat.le_refl _))
  have SL : Hid ((Try.prog.info? 39).map (·.size) = some P.length) := hid (by rw [hP]; exact arr4_info)
  have SI : Hid ((Try.prog.info? 39).map (·.size) = some P.toArray.size) := hid (by rw [List.size_toArray]; exact SL.out)
  have ON : Hid (P.toArray.all (·.oneCell') = true) := hid (by rw [hP]; simp [Value.oneCell'])
  have HF : Hid (Blk (W.setCells (N + 1) 0 P) (N + 1) 39 P) := hid (row_set H4.out rfl)
  have K9 : Hid (Kp Nb w (W.setCells (N + 1) 0 P)) := hid (Kp.setCells (fun h => by have := LN.out; omega) _ 0 _ KW.out)
  clear hP
  go_enter Try.func14, Try.ntmps14
  go_wp2_with fail
  refine (CF.out _).mono ?_
  rintro e w1 ⟨rfl, rfl⟩
  rw [show ((w.alloc (.cells (markL m).toArray 24)).alloc (.cells #[.int .i64 0, .int .i64 0, .int .i64 0, .int .i64 0] 39)).alloc (.cells #[.int .i64 0, .int .i64 0, .int .i64 0, .int .i64 0] 39) = W from hW.symm, ← hN]
  clear hW hN
  go_wp2_with (first
    | (refine wpList_load_mid (by rfl) 39 (.tmp 5) (by rfl) (N + 1 + 1) 0 (by rfl) P _ (range_of H5.out) Try.underlying39 rfl SL.out ?_)
    | (refine wpList_store_mid (by rfl) 39 (.tmp 4) (.tmp 11) (by rfl) (N + 1) 0 P.toArray (by rfl) (by rfl) TH.out SI.out ON.out ?_))
  have hl := row_loadVar (P := Try.prog) Try.underlying39 rfl SL.out HF.out 0 (fun j _ => by rw [Nat.zero_add])
  refine bodyPost_ret (v := .agg P.toArray) (results_cell rfl _ (N + 1) (by rfl) _ hl) ?_ ?_
  · rfl
  · have hv : (.agg P.toArray : Value) = .agg #[.int .i64 0, .int .i64 0, .int .i64 0, .int .i64 0] := by rw [HPE.out]
    exact ⟨congrArg Ending.returned hv, K9.out⟩
/-- What the iterator holds: boxes of a nil filter and of no list. -/
structure Lk0At (w : World) (Bf Bl : Nat) : Prop where
  bf : Boxed w Bf 29 (.pointer none)
  bl : Boxed w Bl 22 (.slice none 0 0)
theorem llacks_nil (v : Value) (w : World) (hsh : ∃ y n d, v = .slice y n d) : Calls Try.prog 30 #[.pointer none, v] w fun e w' => ∃ (Bf Bl : Nat), e = .returned (.func (.func 46) #[] #[.pointer (some ⟨Bl, 0, none⟩), .pointer (some ⟨Bf, 0, none⟩)]) ∧ Lk0At w' Bf Bl ∧ w.heap.size ≤ Bf ∧ w.heap.size ≤ Bl ∧ Kp Nb w w' := by
  obtain ⟨y, n, d, rfl⟩ := hsh
  obtain ⟨Bf, hBf⟩ : ∃ N, w.heap.size = N := ⟨_, rfl⟩
  obtain ⟨W, hW⟩ : ∃ W, W = (w.alloc (.cells #[.pointer none] 29)).alloc (.cells #[.slice none 0 0] 22) := ⟨_, rfl⟩
  have KW : Hid (Kp Nb w W) := hid (by rw [hW]; exact ((Kp.refl Nb w).alloc _).alloc _)
  have XF : Hid (Boxed W Bf 29 (.pointer none)) := hid (by rw [hW, ← hBf]; exact (Boxed.new w _ _).alloc _)
  have XL : Hid (Boxed W (Bf + 1) 22 (.slice none 0 0)) := hid (by
    have h := Boxed.new (w.alloc (.cells #[.pointer none] 29)) 22 (.slice none 0 0)
    simp only [World.size_alloc] at h
    rw [hW, ← hBf]
    exact h)
  have LB : Hid (w.heap.size = Bf) := hid hBf
  go_enter Try.func30, Try.ntmps30
  go_upto_region 3 with fail
  rw [show (w.alloc (.cells #[.pointer none] 29)).alloc (.cells #[.slice none 0 0] 22) = W from hW.symm]
  clear hW hBf
  go_wp2
  go_ret
  exact ⟨Bf, Bf + 1, rfl, ⟨XF.out, XL.out⟩, Nat.le_of_eq LB.out, by have := LB.out; omega, KW.out⟩
set_option maxRecDepth 100000 in
set_option maxHeartbeats 1000000 in
theorem lacks01_in (m : Nat) (_ : 1 ≤ m) (l Bf Bl : Nat) (J Jx : List Nat → World → Prop) (W : World) (hs : Lk0At W Bf Bl) (h0 : J [] W) :
    CallsIn Fence.wide m Try.prog 46 #[.func (.yield l) #[] #[], .pointer (some ⟨Bl, 0, none⟩), .pointer (some ⟨Bf, 0, none⟩)] W fun r W' => (∃ v, r = .returned v) ∧
      ((∃ xs, xs = ([] : List Nat) ∧ J xs W') ∨ (∃ pre, (∃ k, k ≤ 0 ∧ pre = ([] : List Nat)) ∧ Jx pre W')) := by
  have HJ := hid h0
  have cL := hs.bl.cell
  clear hs h0
  refine callsIn_of_wp Try.func46 rfl trivial ?_ rfl
  simp only [Try.ntmps46, List.size_toArray, List.length_cons, List.length_nil, Nat.reduceAdd, Nat.reduceSub, Array.replicate_succ, Array.replicate_zero, List.push_toArray, List.append_toArray, List.nil_append, List.cons_append]
  gi_wp2
  gi_loopw [8] (fun i wr => i = .int .i64 0 ∧ W = wr) (fun _ _ => 0)
  case atStart => exact ⟨rfl, rfl⟩
  case round =>
    obtain ⟨rfl, rfl⟩ := hrel
    gi_wp2
    go_end0
    exact ⟨⟨_, rfl⟩, .inl ⟨_, rfl, HJ.out⟩⟩
theorem lacks0_seq (n : Nat) (hn : 1 ≤ n) (Bf Bl : Nat) (ms : List (List Int)) (hms : ms = []) (w : World) (hs : Lk0At w Bf Bl) :
    SeqW Fence.wide n Try.prog 46 #[.pointer (some ⟨Bl, 0, none⟩), .pointer (some ⟨Bf, 0, none⟩)] (fun x : Nat => #[Value.int .i64 (x : Int), markV (markAt ms x)]) (KpB (LkS Bf Bl Bf Bf (.slice none 0 0))) (fun xs _ => xs = lackT [] ms ms.length) (fun pre _ => ∃ k, k ≤ ms.length ∧ pre = lackT [] ms k) ms.length w := fun l J Jx W hW hJ _ hY h0 => by
  have k : Kp Nb w W := Kp.of_below hW
  subst hms
  refine (lacks01_in n hn l Bf Bl J Jx W ⟨(k.heap hs.bf.lt (fun h => h)).trans hs.bf, (k.heap hs.bl.lt (fun h => h)).trans hs.bl⟩ h0).mono fun r W' h => ⟨h.1, ?_⟩
  rcases h.2 with ⟨xs, e, hj⟩ | ⟨pre, ⟨k, hk, e⟩, hj⟩
  · exact .inl ⟨xs, e, hj⟩
  · have hk0 : k = 0 := Nat.le_zero.1 hk
    subst hk0
    exact .inr ⟨pre, ⟨0, Nat.le_refl _, e⟩, hj⟩
set_option maxRecDepth 100000 in
set_option maxHeartbeats 4000000 in
theorem llacks0_in (n : Nat) (hn : 3 ≤ n) (v : Value) (ms : List (List Int)) (hms : ms = []) (m : Int) (w : World) (hsh : ∃ y n d, v = .slice y n d) :
    CallsIn Fence.wide n Try.prog 12 #[.pointer none, v, .int .i64 m] w fun e w' => ∃ v1 v2 xs, e = .returned (.tuple #[v1, v2]) ∧ xs = (lackT [] ms ms.length).take m.toNat ∧
      w'.ownsRow w.heap.size 3 1 v1 xs.length (xs.flatMap f1B) ∧ w'.ownsRow w.heap.size 24 16 v2 xs.length (xs.flatMap (f2B ms)) ∧ Below w.heap.size w w' := by
  have h1 : 1 ≤ n := by omega
  have hnil := fun (w : World) (c : Array Value) => fmB_notnil w 46 c
  have MKO : Hid (∀ i, MarkOk (markAt ms i)) := hid (fun i => by rw [hms]; unfold markAt; exact zero_ok)
  have CC : Hid (∀ wx, Kp Nb w wx → Calls Try.prog 30 #[.pointer none, v] wx fun e w' => ∃ (Bf Bl : Nat), e = .returned (.func (.func 46) #[] #[.pointer (some ⟨Bl, 0, none⟩), .pointer (some ⟨Bf, 0, none⟩)]) ∧ Lk0At w' Bf Bl ∧ wx.heap.size ≤ Bf ∧ wx.heap.size ≤ Bl ∧ Kp Nb wx w') :=
    hid fun wx k => llacks_nil v wx hsh
  have HBIG : Hid (ms.length ≤ 100000) := hid (by rw [hms]; decide)
  have HMS := hid hms
  clear hms hsh
  refine callsIn_of_wp_marks Try.func12 rfl trivial ?_ rfl
  simp only [Try.ntmps12, List.size_toArray, List.length_cons, List.length_nil, Nat.reduceAdd, Nat.reduceSub, Array.replicate_succ, Array.replicate_zero, List.push_toArray, List.append_toArray, List.nil_append, List.cons_append]
  gi_wp2_with (refine ⟨trivial, ?_⟩; gi_at_call 30; refine (callsIn_wide.2 (CC.out _ ((((Kp.refl Nb w).alloc _).alloc _).alloc _))).mono ?_; rintro r W0 ⟨Bf, Bl, rfl, c3, l1, l2, k0⟩)
  have b0 := Boxed.new w 3 (.int .i64 m)
  have b1 := Boxed.new (w.alloc (.cells #[.int .i64 m] 3)) 36 (.slice none 0 0)
  have b2 := Boxed.new ((w.alloc (.cells #[.int .i64 m] 3)).alloc (.cells #[.slice none 0 0] 36)) 22 (.slice none 0 0)
  simp only [World.size_alloc] at b1 b2 l1 l2
  have d0 := (b0.alloc (.cells #[.slice none 0 0] 36)).alloc (.cells #[.slice none 0 0] 22)
  have d1 := b1.alloc (.cells #[.slice none 0 0] 22)
  have c0' : Boxed W0 w.heap.size 3 (.int .i64 m) := (k0.heap (by simp; omega) (fun h => h)).trans d0
  have c1' : Boxed W0 (w.heap.size + 1) 36 (.slice none 0 0) := (k0.heap (by simp) (fun h => h)).trans d1
  have c2' : Boxed W0 (w.heap.size + 1 + 1) 22 (.slice none 0 0) := (k0.heap (by simp) (fun h => h)).trans b2
  have hB0 : Below w.heap.size w W0 := (((((Kp.refl Nb w).alloc _).alloc _).alloc _).trans k0 (fun _ _ h => h)).below (Nat.le_refl _) (fun _ _ h => h)
  obtain ⟨Z, hZ0⟩ : ∃ Z, Z = W0.heap.size := ⟨_, rfl⟩
  have HLK : Hid (∀ b, LkS Bf Bl Bf Bf (.slice none 0 0) b → w.heap.size + 1 + 1 + 1 ≤ b ∧ b < Z) := hid (fun b hb => by
    rcases hb with rfl | rfl | rfl | rfl | hb
    · exact ⟨l1, by rw [hZ0]; exact c3.bf.lt⟩
    · exact ⟨l2, by rw [hZ0]; exact c3.bl.lt⟩
    · exact ⟨l1, by rw [hZ0]; exact c3.bf.lt⟩
    · exact ⟨l1, by rw [hZ0]; exact c3.bf.lt⟩
    · cases hb)
  have HL' := hid (show w.heap.size + 1 + 1 + 1 ≤ Z ∧ W0.heap.size = Z from ⟨by have := l1; have := c3.bf.lt; omega, hZ0.symm⟩)
  obtain ⟨q, hq⟩ : ∃ q : CollAt, q = ⟨w.heap.size + 1, 36, 3, 1, w.heap.size + 1 + 1, 22, 24, 16, Z⟩ := ⟨_, rfl⟩
  have HQ := hid hq
  have HB0 := hid hB0
  have HI0 := hid (CollI.start (q := q) f1B (f2B ms) (by rw [hq]; exact c1') (by rw [hq]; exact c2') c0'.cell (by rw [hq]; exact Nat.le_of_eq hZ0) hB0)
  have HC3 := hid c3
  clear hZ0 hB0 b0 b1 b2 d0 d1 c0' c1' c2' k0 c3 l1 l2 hq
  refine wpIn_rangeW rfl h1 (gf := 46) (lb := #[.pointer (some ⟨Bl, 0, none⟩), .pointer (some ⟨Bf, 0, none⟩)]) rfl trivial (enters_of Try.func46 (by kernel_rfl) rfl)
    (lacks0_seq (n - 1) (by omega) Bf Bl ms HMS.out W0 HC3.out) (fun h k => h.trans k) (fun W l o o' hl hW hc => ⟨by simp, fun b hb => World.putObj_heap_other (fun e' => by have := HLK.out b hb; have := HL'.out; omega)⟩)
    (fun xs => static_own _) (fun xs => static_own _) (Below.refl _ _) (fun x => rfl)
    (CollI q f1B (f2B ms) w w.heap.size m) (CollX q f1B (f2B ms) w m) (collI_own _ _ _ _ _ _ HB0.out.size) (fun c => collX_own _ _ _ _ _ c HB0.out.size) HI0.out
    (fun x a' W => AxB q ms (fun N => { tmps := #[.pointer none, v, .int .i64 m, undef, undef, .pointer (some ⟨w.heap.size, 0, none⟩), .slice none 0 0, .slice none 0 0, .pointer (some ⟨w.heap.size + 1, 0, none⟩), .pointer (some ⟨w.heap.size + 1 + 1, 0, none⟩), .func (.func 46) #[] #[.pointer (some ⟨Bl, 0, none⟩), .pointer (some ⟨Bf, 0, none⟩)], .int .i64 (x : Int), .pointer (some ⟨N, 0, none⟩), .pointer none, v, .func (.func 46) #[] #[.pointer (some ⟨Bl, 0, none⟩), .pointer (some ⟨Bf, 0, none⟩)], .func (.func 46) #[] #[.pointer (some ⟨Bl, 0, none⟩), .pointer (some ⟨Bf, 0, none⟩)], .bool false, .func (.func 46) #[] #[.pointer (some ⟨Bl, 0, none⟩), .pointer (some ⟨Bf, 0, none⟩)], .int .i64 (x : Int), markV (markAt ms x), undef, undef, undef, undef, undef, undef, undef, undef, undef, undef, undef, undef, undef, undef], defers := [] }) x a' W)
    (fun x a' => axB_own q ms _ x a') ?assign ?body ?done ?stop
  case assign =>
    intro l pre x W K hI hK
    have HI := hid hI
    obtain ⟨⟨⟨v1, v2, b1, b2, o1, o2, hs⟩, hm, hlen, hbase⟩, hB⟩ := hI
    have HB2 := hid b2
    have HZ := hid hbase
    have HO2 : Hid (∀ g, v2.ownBlock = some g → g < W.heap.size) := hid (fun g hg => by obtain ⟨-, o, ho, -⟩ := row_cells o2 hg; exact (Array.getElem?_eq_some_iff.1 ho).1)
    have HBZ : Hid (Z ≤ W.heap.size) := hid (by rw [HQ.out] at hbase; exact hbase)
    have HK := hid hK
    have MO := hid (MKO.out x)
    clear b1 b2 o1 o2 hs hm hlen hbase hB hK
    obtain ⟨W5, hW5⟩ : ∃ W', W' = (W.alloc (.cells #[.int .u8 0, .int .u8 0, .int .u8 0, .int .u8 0, .int .u8 0, .int .u8 0, .int .u8 0, .int .u8 0, .int .u8 0, .int .u8 0, .int .u8 0, .int .u8 0, .int .u8 0, .int .u8 0, .int .u8 0, .int .u8 0] 24)).setCells W.heap.size 0 (markL (markAt ms x)) := ⟨_, rfl⟩
    have hb0 : Blk (W.alloc (.cells #[.int .u8 0, .int .u8 0, .int .u8 0, .int .u8 0, .int .u8 0, .int .u8 0, .int .u8 0, .int .u8 0, .int .u8 0, .int .u8 0, .int .u8 0, .int .u8 0, .int .u8 0, .int .u8 0, .int .u8 0, .int .u8 0] 24)) W.heap.size 24 (markL z16) := Blk.new W 24 (markL z16)
    have HST : Hid ((Instr.storeAt 24 (.pointer (some ⟨W.heap.size, 0, none⟩)) (markV (markAt ms x))).run Try.prog (W.alloc (.cells #[.int .u8 0, .int .u8 0, .int .u8 0, .int .u8 0, .int .u8 0, .int .u8 0, .int .u8 0, .int .u8 0, .int .u8 0, .int .u8 0, .int .u8 0, .int .u8 0, .int .u8 0, .int .u8 0, .int .u8 0, .int .u8 0] 24)) = .ok () W5) := hid (by
      rw [hW5]
      exact store_mark MO.out (hb0.there 0 _ (by rw [markL_length, MO.out.len]; exact Nat.le_refl 16)))
    have BM5 : Hid (Blk W5 W.heap.size 24 (markL (markAt ms x))) := hid (by
      rw [hW5]
      exact row_set hb0 (by rw [markL_length, MO.out.len]; rfl))
    have K5 : Hid (Kp Nb W W5) := hid (by
      rw [hW5]
      exact Kp.setCells (fun h => absurd h (Nat.lt_irrefl _)) _ _ _ ((Kp.refl Nb W).alloc _))
    clear hW5 hb0
    gi_wp2_with (refine wpListIn_storeL rfl 24 (.tmp 12) (.tmp 20) rfl (p := ⟨W.heap.size, 0, none⟩) (by rfl) (v := markV (markAt ms x)) (by rfl) HST.out ?_)
    refine HK.out _ _ ⟨K5.out.size, fun k o _ hk _ => (K5.out.heap (Array.getElem?_eq_some_iff.1 hk).1 (fun h => h)).trans hk⟩ ⟨K5.out.size, fun b hb => K5.out.heap (by have := HLK.out b hb; have := HBZ.out; omega) (fun h => h)⟩ (HI.out.keptB K5.out) ?_
    exact ⟨W.heap.size, v2, HZ.out, rfl, BM5.out, (K5.out.heap HB2.out.lt (fun h => h)).trans HB2.out, fun e => absurd (HO2.out _ e) (Nat.lt_irrefl _)⟩
  case body =>
    rintro l pre x a' W hI ⟨N, u, hN, rfl, hNB, hNU, hne⟩ hlt
    have HI := hid hI
    obtain ⟨⟨⟨v1, v2, b1, b2, o1, o2, hs⟩, hm, hlen, hbase⟩, hB⟩ := hI
    obtain ⟨p1, q1, rfl⟩ := own_shape o1
    have hu : u = v2 := by
      have e := (show W.heap[q.B2]? = _ from hNU).symm.trans (show W.heap[q.B2]? = _ from b2)
      injection e with e; injection e with e; simpa using e
    subst hu
    have hq := HQ.out
    have c1 : W.cell? ⟨w.heap.size + 1, 0, none⟩ = some (.slice p1 pre.length q1) := by rw [hq] at b1; exact b1.cell
    have HC := hid b1
    have HC2 := hid b2
    have HO1 := hid o1
    have HO2 := hid o2
    have HS := hid hs
    have HL := hid hlen
    have HBS := hid hbase
    have HBW := hid hB
    have HNB := hid hNB
    have HNE := hid hne
    have MO := hid (MKO.out x)
    have hlt' : pre.length ≤ 100000 := by have := HBIG.out; omega
    clear hq b1 b2 o1 o2 hs hlen hbase hB hNB hNU hne hN
    by_cases hge : m ≤ (pre.length : Int)
    · gi_wp2
      exact ⟨KeepsFrom.refl _ _, ⟨Nat.le_refl _, fun _ _ => rfl⟩, ⟨rfl, pre, _, rfl, ⟨_, u, HC.out, HC2.out, HO1.out, HO2.out, HS.out⟩, by have := HL.out; omega⟩, HBW.out⟩
    · gi_wp2
      have hmx : Try.prog.follows .mixedOrders = true := by kernel_rfl
      have b1 := HC.out
      have b2 := HC2.out
      have o1 := HO1.out
      have o2 := HO2.out
      have hbs := HBS.out
      have hne := HNE.out
      have hq := HQ.out
      have hL := HL.out
      rw [hq] at b1 b2 o1 o2 hbs
      dsimp only at hbs
      refine collB_region (q := ⟨w.heap.size + 1, 36, 3, 1, w.heap.size + 1 + 1, 22, 24, 16, Z⟩) (ms := ms) (pre := pre) (x := x) (y1 := .int .i64 (x : Int)) (xa := .pointer (some ⟨N, 0, none⟩)) (x2 := markV (markAt ms x)) (N := 35) (tb1 := 8) (tx1 := 11) (tb2 := 9) (tx2 := 12) (d := 25) (src := fun w' => Blk w' N 24 (markL (markAt ms x))) hmx (by kernel_rfl) rfl b1 b2 o1 o2 HS.out
        (mk_ok (fun w u h => fiB_load w _ u h) (fun w => fiB_make w (x : Int)) (fun w g n c u h hf => fiB_store w _ g n c u h hf) Try.underlying36 fiB_info rfl (by omega) (by unfold maxLen; omega) (by simp) (by simp [f1B, Value.oneCell']) rfl (by simp) rfl ⟨rfl, rfl, rfl⟩ rfl ⟨rfl, rfl, rfl⟩ rfl ⟨rfl, rfl, rfl⟩ rfl ⟨rfl, rfl, rfl⟩ rfl ⟨rfl, rfl, rfl⟩ (by kernel_rfl) (by kernel_rfl) (by kernel_rfl) (by kernel_rfl) (by decide) (by decide) (by decide) (by decide))
        (mkB_ok (Tf := 24) (fun w u h => fmB_load w _ u h) (fun w => fmB_make w (markAt ms x) MO.out.len) (fun w g n c u h hf => fmB_store w _ g n c u h hf) Try.underlying22 fmB_info rfl (by omega) (by unfold maxLen; omega) (by simp) (markL_one' _) (by rw [markL_length]; exact MO.out.len) (by simp) rfl ⟨rfl, rfl, rfl⟩ rfl ⟨rfl, rfl, rfl⟩ (fun w' h => load_mark MO.out (range_of h)) rfl ⟨rfl, rfl, rfl⟩ rfl ⟨rfl, rfl, rfl⟩ rfl ⟨rfl, rfl, rfl⟩ (by kernel_rfl) (by kernel_rfl) (by kernel_rfl) (by kernel_rfl) (by decide) (by decide) (by decide) (by decide))
        (fun w' hm => (hm.same N HNB.out.lt ?ns).trans HNB.out) rfl rfl rfl rfl rfl (by decide) (by decide) (by simp) (by simp) (by simp) hbs ?_
      case ns =>
        rintro (e | e | e | e)
        · have h := (show W.heap[N]? = _ from HNB.out).symm.trans (show W.heap[N]? = _ from e ▸ b1)
          injection h with h; injection h with _ h; cases h
        · have h := (show W.heap[N]? = _ from HNB.out).symm.trans (show W.heap[N]? = _ from e ▸ b2)
          injection h with h; injection h with _ h; cases h
        · obtain ⟨cs', fr', h⟩ := row_tyB o1 e
          have h := (show W.heap[N]? = _ from HNB.out).symm.trans h
          injection h with h; injection h with _ h; cases h
        · exact hne e
      intro a' W' hc hmv
      have kb : KpB (LkS Bf Bl Bf Bf (.slice none 0 0)) W W' := hmv.kpB (H := w.heap.size + 1 + 1 + 1) o1 o2 HLK.out (by dsimp only; omega) (by dsimp only; omega) hbs
      rw [← hq] at hc
      have hmv2 : Moves (CollS q) W W' := hmv.mono (fun b _ h => by rw [hq]; exact S0B.coll o1 o2 b h)
      have hHL := HL'.out
      exact ⟨hmv.keepsFrom _, kb, HI.out.next (by omega) hc hmv2 (by rw [hq]; dsimp only; omega) (by rw [hq]; dsimp only; omega) (by rw [hq]; dsimp only; omega) (by rw [hq]; dsimp only; omega) (by rw [hq]; dsimp only; omega) (by rw [hq]; dsimp only; omega)⟩
  case done =>
    rintro D ys W hD hS ⟨⟨⟨v1, v2, b1, b2, o1, o2, hs⟩, hm, hlen, hbase⟩, hB⟩ hK
    have HLE : Hid (ys = (lackT [] ms ms.length).take m.toNat) := hid (by rw [← hS, List.take_of_length_le hlen])
    have hq := HQ.out
    have hHL := HL'.out
    rw [hq] at b1 b2 o1 o2
    obtain ⟨p1, q1, rfl⟩ := own_shape o1
    obtain ⟨p2, q2, rfl⟩ := own_shape o2
    have c1 := b1.cell
    have c2 := b2.cell
    have HO1 := hid (ownsRow_le (base' := w.heap.size) o1 (by dsimp only; omega))
    have HO2 := hid (ownsRow_le (base' := w.heap.size) o2 (by dsimp only; omega))
    have HBW := hid hB
    have HD := hid hD
    have HK := hid hK
    clear hq b1 b2 o1 o2 hs hB hD hK hlen hHL hS
    gi_wp2
    gi_region
    all_goals
      gi_wp2
      refine ⟨by simp, .inl ⟨_, _, rfl, run_takeDeferred HK.out, ?_⟩⟩
      refine ⟨.tuple #[.slice p1 ys.length q1, .slice p2 ys.length q2], by simp [results, Try.f12, go_sem], _, _, ys, rfl, HLE.out, ?_⟩
      exact ⟨ownsRow_putObj (W := W) HO1.out _ HK.out rfl, ownsRow_putObj (W := W) HO2.out _ HK.out rfl, HBW.out.drew.trans (belowK_b (w := w) (Nat.le_refl _) W.drew D _ _ (by have := HL'.out; have := HD.out; omega) HK.out rfl rfl)⟩
  case stop =>
    rintro D c pre W hD hS ⟨⟨rfl, ys, x, rfl, ⟨v1, v2, b1, b2, o1, o2, hs⟩, hlen⟩, hB⟩ hK
    have HLE : Hid (ys = (lackT [] ms ms.length).take m.toNat) := hid (by
      obtain ⟨k, hk, e⟩ := hS
      rw [← hlen]
      exact lackT_pre e hk)
    have hq := HQ.out
    have hHL := HL'.out
    rw [hq] at b1 b2 o1 o2
    obtain ⟨p1, q1, rfl⟩ := own_shape o1
    obtain ⟨p2, q2, rfl⟩ := own_shape o2
    have c1 := b1.cell
    have c2 := b2.cell
    have HO1 := hid (ownsRow_le (base' := w.heap.size) o1 (by dsimp only; omega))
    have HO2 := hid (ownsRow_le (base' := w.heap.size) o2 (by dsimp only; omega))
    have HBW := hid hB
    have HD := hid hD
    have HK := hid hK
    clear hq b1 b2 o1 o2 hs hB hD hK hlen hHL hS
    gi_wp2
    gi_region
    all_goals
      gi_wp2
      refine ⟨by simp, .inl ⟨_, _, rfl, run_takeDeferred HK.out, ?_⟩⟩
      refine ⟨.tuple #[.slice p1 ys.length q1, .slice p2 ys.length q2], by simp [results, Try.f12, go_sem], _, _, ys, rfl, HLE.out, ?_⟩
      exact ⟨ownsRow_putObj (W := W) HO1.out _ HK.out rfl, ownsRow_putObj (W := W) HO2.out _ HK.out rfl, HBW.out.drew.trans (belowK_b (w := w) (Nat.le_refl _) W.drew D _ _ (by have := HL'.out; have := HD.out; omega) HK.out rfl rfl)⟩

theorem lacks0_rows (v : Value) (m : Int) (w : World) (hsh : ∃ y n d, v = .slice y n d) :
    Calls Try.prog 12 #[.pointer none, v, .int .i64 m] w fun e w' => ∃ y1 d1 y2 d2, e = .returned (.tuple #[.slice y1 0 d1, .slice y2 0 d2]) ∧ Kp Nb w w' := by
  refine (callsIn_wide.1 (llacks0_in 3 (Nat.le_refl _) v [] rfl m w hsh)).mono fun _ _ ⟨v1, v2, xs, he, h1, h3, h4, hB⟩ => ?_
  have hx : xs = [] := by
    rw [h1]
    exact List.take_nil
  subst hx
  obtain ⟨p1, q1, rfl⟩ := own_shape h3
  obtain ⟨p2, q2, rfl⟩ := own_shape h4
  exact ⟨p1, q1, p2, q2, he, Kp.of_below hB⟩
set_option maxRecDepth 100000 in
theorem lunion_no (B C B2 C2 : Nat) (zs ys : List Int) (w : World) (h : FlAt w B C zs) (h' : FlAt w B2 C2 ys) (hl : zs.length ≠ ys.length) :
    Calls Try.prog 11 #[.pointer (some ⟨B, 0, none⟩), .pointer (some ⟨B2, 0, none⟩)] w fun e w' => e = .returned (.tuple #[.pointer none, .int .i64 2]) ∧ Kp Nb w w' := by
  obtain ⟨cap, rest, h1, h2, h3, h4⟩ := h.at'
  obtain ⟨cap2, rest2, g1, g2, g3, g4⟩ := h'.at'
  obtain ⟨n, hn⟩ : ∃ n, zs.length = n := ⟨_, rfl⟩
  obtain ⟨n2, hn2⟩ : ∃ n, ys.length = n := ⟨_, rfl⟩
  rw [hn] at h1 hl
  rw [hn2] at g1 hl
  have H1 := hid h1
  have G1 := hid g1
  have NE1 : Hid (((n : Int) == (n2 : Int)) = false) := hid (by simpa using (fun h : (n : Int) = (n2 : Int) => hl (by omega)))
  have NE2 : Hid (¬ (n : Int) = (n2 : Int)) := hid (fun h => hl (by omega))
  clear h h' h1 h2 h3 h4 g1 g2 g3 g4 hl hn hn2
  go_enter Try.func11, Try.ntmps11
  go_upto_region 3 with fail
  refine region_vals2 [none, none, none, none, none, none, none, none, none, none, none, none, none, none, none, some 0, some 1, some 2, some 3, some 4, some 5, some 6, some 7, some 8, some 9, some 10, none, none, none, none, none, none, none, none, none, none, none, none, none, none, none, none, none, none, none, none, none, none, none, none, none, none, none, none, none] [[(0, none)], [(15, some 0)], [(16, some 1)], [(17, some 2)], [(18, some 3)], [(1, none)], [(20, some 5)], [(21, some 6)], [(22, some 7)], [(23, some 8)], [(19, some 4), (24, some 9)]] [some 15, some 16, some 17, some 18, some 19, some 20, some 21, some 22, some 23, some 24, some 25] [.pointer (some ⟨B, 0, none⟩), .pointer (some ⟨B, 0, none⟩), .pointer (some ⟨B, 0, none⟩), .slice (some ⟨C, 0, none⟩) n cap, .int .i64 (n : Int), .pointer (some ⟨B2, 0, none⟩), .pointer (some ⟨B2, 0, none⟩), .pointer (some ⟨B2, 0, none⟩), .slice (some ⟨C2, 0, none⟩) n2 cap2, .int .i64 (n2 : Int), .bool true] (fun w' => Hid (Kp Nb w w')) (by kernel_rfl) (by kernel_rfl) (by kernel_rfl) ?hS (VFrom.all (n := 11) (by kernel_rfl) ?hstep) ?hend
  case hstep =>
    refine VFrom.cons (VStep.val _ rfl _ rfl (.pointer (some ⟨B, 0, none⟩)) rfl trivial (fun ev wq hS he hr => ?_)) ?_
    · have r0 : ev (.tmp 0) = .pointer (some ⟨B, 0, none⟩) := hr (0, none) (by simp); have hk := he.1; clear hr he
      go_simp
    refine VFrom.cons (VStep.val _ rfl _ rfl (.pointer (some ⟨B, 0, none⟩)) rfl trivial (fun ev wq hS he hr => ?_)) ?_
    · have r0 : ev (.tmp 15) = .pointer (some ⟨B, 0, none⟩) := hr (15, some 0) (by simp); have hk := he.1; clear hr he
      go_simp
    refine VFrom.cons (VStep.val _ rfl _ rfl (.pointer (some ⟨B, 0, none⟩)) rfl trivial (fun ev wq hS he hr => ?_)) ?_
    · have r0 : ev (.tmp 16) = .pointer (some ⟨B, 0, none⟩) := hr (16, some 1) (by simp); have hk := he.1; clear hr he
      go_simp
    refine VFrom.cons (VStep.val _ rfl _ rfl (.slice (some ⟨C, 0, none⟩) n cap) rfl trivial (fun ev wq hS he hr => ?_)) ?_
    · have r0 : ev (.tmp 17) = .pointer (some ⟨B, 0, none⟩) := hr (17, some 2) (by simp); have hk := he.1; clear hr he
      have c0 := ((H1.out.kept hS.out (fun h => h)).cell 0)
      go_simp
    refine VFrom.cons (VStep.val _ rfl _ rfl (.int .i64 (n : Int)) rfl trivial (fun ev wq hS he hr => ?_)) ?_
    · have r0 : ev (.tmp 18) = .slice (some ⟨C, 0, none⟩) n cap := hr (18, some 3) (by simp); have hk := he.1; clear hr he
      go_simp
    refine VFrom.cons (VStep.val _ rfl _ rfl (.pointer (some ⟨B2, 0, none⟩)) rfl trivial (fun ev wq hS he hr => ?_)) ?_
    · have r0 : ev (.tmp 1) = .pointer (some ⟨B2, 0, none⟩) := hr (1, none) (by simp); have hk := he.1; clear hr he
      go_simp
    refine VFrom.cons (VStep.val _ rfl _ rfl (.pointer (some ⟨B2, 0, none⟩)) rfl trivial (fun ev wq hS he hr => ?_)) ?_
    · have r0 : ev (.tmp 20) = .pointer (some ⟨B2, 0, none⟩) := hr (20, some 5) (by simp); have hk := he.1; clear hr he
      go_simp
    refine VFrom.cons (VStep.val _ rfl _ rfl (.pointer (some ⟨B2, 0, none⟩)) rfl trivial (fun ev wq hS he hr => ?_)) ?_
    · have r0 : ev (.tmp 21) = .pointer (some ⟨B2, 0, none⟩) := hr (21, some 6) (by simp); have hk := he.1; clear hr he
      go_simp
    refine VFrom.cons (VStep.val _ rfl _ rfl (.slice (some ⟨C2, 0, none⟩) n2 cap2) rfl trivial (fun ev wq hS he hr => ?_)) ?_
    · have r0 : ev (.tmp 22) = .pointer (some ⟨B2, 0, none⟩) := hr (22, some 7) (by simp); have hk := he.1; clear hr he
      have c0 := ((G1.out.kept hS.out (fun h => h)).cell 0)
      go_simp
    refine VFrom.cons (VStep.val _ rfl _ rfl (.int .i64 (n2 : Int)) rfl trivial (fun ev wq hS he hr => ?_)) ?_
    · have r0 : ev (.tmp 23) = .slice (some ⟨C2, 0, none⟩) n2 cap2 := hr (23, some 8) (by simp); have hk := he.1; clear hr he
      go_simp
    refine VFrom.cons (VStep.val _ rfl _ rfl (.bool true) rfl trivial (fun ev wq hS he hr => ?_)) ?_
    · have r0 : ev (.tmp 19) = .int .i64 (n : Int) := hr (19, some 4) (by simp); have r1 : ev (.tmp 24) = .int .i64 (n2 : Int) := hr (24, some 9) (by simp); have hk := he.1; clear hr he
      have e1 := NE1.out; have e2 := NE2.out
      go_simp
    exact VFrom.nil
  case hS => exact hid (Kp.refl Nb w).drew
  case hend =>
    intro w9 k9
    have K9 := hid k9.out
    clear k9
    simp only [putAll, List.zip_cons_cons, List.zip_nil_right, List.foldl_cons, List.foldl_nil, Act.put, List.setIfInBounds_toArray, List.set_cons_zero, List.set_cons_succ]
    go_wp2
    go_ret2
    exact ⟨rfl, K9.out⟩

end Go.Proofs.Ytpgiinogfmhfiaa

namespace Go.Proofs.Ytpgiinogfmhfiaa
open Go.RowKit

theorem union_all {zs : List Int} (hz : IsBytes zs) (h0 : 0 < zs.length) (a b : List (List Int)) : orL (addsL zs a) (addsL zs b) = addsL zs (a ++ b) := by
  have ha := addsL_bytes hz a
  have hb := addsL_bytes hz b
  have hl : (addsL zs a).length = (addsL zs b).length := by rw [addsL_len, addsL_len]
  refine eq_of_has (orL_bytes hl ha hb) (addsL_bytes hz _) (by rw [orL_len, addsL_len, addsL_len]) (fun q => ?_)
  rw [has_orL hl ha hb, has_adds hz h0, has_adds hz h0, has_adds hz h0, List.any_append]
  cases hasB zs q <;> cases (a.any fun m => plcB ((8 * zs.length : Nat) : Int) m q) <;> cases (b.any fun m => plcB ((8 * zs.length : Nat) : Int) m q) <;> rfl
theorem ones8 : ∀ z : Fin 256, Lib.onesCount z.val = ([z.val.testBit 0, z.val.testBit 1, z.val.testBit 2, z.val.testBit 3, z.val.testBit 4, z.val.testBit 5, z.val.testBit 6, z.val.testBit 7] : List Bool).count true := by decide +kernel
theorem cnt_bits {zs : List Int} (hz : IsBytes zs) : ∀ k, k ≤ zs.length → (bitsN zs (8 * k)).count true = cntB (zs.take k)
  | 0, _ => rfl
  | k + 1, hk => by
    have ih := cnt_bits hz k (by omega)
    have hr := hz k
    have h8 := ones8 ⟨(zs[k]?.getD 0).toNat, by omega⟩
    dsimp only at h8
    have hb : ∀ j, j < 8 → hasB zs (8 * k + j) = (zs[k]?.getD 0).toNat.testBit j := fun j hj => by
      unfold hasB
      rw [show (8 * k + j) / 8 = k from by omega, show (8 * k + j) % 8 = j from by omega]
    have e : bitsN zs (8 * (k + 1)) = bitsN zs (8 * k) ++ [hasB zs (8 * k + 0), hasB zs (8 * k + 1), hasB zs (8 * k + 2), hasB zs (8 * k + 3), hasB zs (8 * k + 4), hasB zs (8 * k + 5), hasB zs (8 * k + 6), hasB zs (8 * k + 7)] := by
      rw [show 8 * (k + 1) = 8 * k + 7 + 1 from by omega, bitsN_succ, show 8 * k + 7 = 8 * k + 6 + 1 from rfl, bitsN_succ, show 8 * k + 6 = 8 * k + 5 + 1 from rfl, bitsN_succ, show 8 * k + 5 = 8 * k + 4 + 1 from rfl, bitsN_succ, show 8 * k + 4 = 8 * k + 3 + 1 from rfl, bitsN_succ, show 8 * k + 3 = 8 * k + 2 + 1 from rfl, bitsN_succ, show 8 * k + 2 = 8 * k + 1 + 1 from rfl, bitsN_succ, show 8 * k + 1 = 8 * k + 0 + 1 from rfl, bitsN_succ]
      simp
    rw [e, List.count_append, ih, cntB_take zs k (by omega), h8, hb 0 (by omega), hb 1 (by omega), hb 2 (by omega), hb 3 (by omega), hb 4 (by omega), hb 5 (by omega), hb 6 (by omega), hb 7 (by omega)]
theorem cnt_all {zs : List Int} (hz : IsBytes zs) : (bitsN zs (8 * zs.length)).count true = cntB zs := by
  rw [cnt_bits hz zs.length (Nat.le_refl _), List.take_length]
theorem cntN_succ (zs : List Int) (k : Nat) : (bitsN zs (k + 1)).count true = (bitsN zs k).count true + (if hasB zs k then 1 else 0) := by
  rw [bitsN_succ, List.count_append]
  cases hasB zs k <;> rfl
theorem cntN_le (zs : List Int) (k : Nat) : (bitsN zs k).count true ≤ k := by
  have h := List.count_le_length (a := true) (l := bitsN zs k)
  unfold bitsN at h ⊢
  rw [List.length_map, List.length_range] at h
  exact h
theorem lackT_le (zs : List Int) (ms : List (List Int)) (k : Nat) : (lackT zs ms k).length ≤ k := by
  unfold lackT
  have h := List.length_filter_le (fun i => !mayB zs (markAt ms i)) (List.range k)
  rw [List.length_range] at h
  exact h
theorem lackT_get (zs : List Int) (ms : List (List Int)) (k N : Nat) (hk : k < N) (h : mayB zs (markAt ms k) = false) : (lackT zs ms N)[(lackT zs ms k).length]? = some k := by
  have e : lackT zs ms N = lackT zs ms (k + 1) ++ ((List.range' (k + 1) (N - (k + 1))).filter fun i => !mayB zs (markAt ms i)) := by
    unfold lackT
    have h9 := @List.range'_append_1 0 (k + 1) (N - (k + 1))
    rw [Nat.zero_add] at h9
    rw [← List.filter_append, List.range_eq_range', List.range_eq_range', h9]
    congr 2
    omega
  rw [e, lackT_yes zs ms k h, List.append_assoc, List.getElem?_append_right (Nat.le_refl _), Nat.sub_self]
  rfl
/-- The number of those found after k, up to K. -/
def atK (zs : List Int) (ms : List (List Int)) (K k : Nat) : Nat := min (lackT zs ms k).length K
theorem atK_zero (zs : List Int) (ms : List (List Int)) (K : Nat) : atK zs ms K 0 = 0 := by
  unfold atK
  show min 0 K = 0
  omega
theorem atK_may (zs : List Int) (ms : List (List Int)) (K k : Nat) (h : mayB zs (markAt ms k) = true) : atK zs ms K (k + 1) = atK zs ms K k := by
  unfold atK
  rw [lackT_no zs ms k h]
theorem atK_full (zs : List Int) (ms : List (List Int)) (K k : Nat) (h : K ≤ atK zs ms K k) : atK zs ms K (k + 1) = atK zs ms K k := by
  cases hm : mayB zs (markAt ms k) with
  | true => exact atK_may zs ms K k hm
  | false =>
    unfold atK at h ⊢
    rw [lackT_yes zs ms k hm, List.length_append]
    simp only [List.length_singleton]
    omega
theorem atK_next (zs : List Int) (ms : List (List Int)) (K k N : Nat) (hk : k < N) (hm : mayB zs (markAt ms k) = false) (h : atK zs ms K k < K) :
    atK zs ms K (k + 1) = atK zs ms K k + 1 ∧ ((lackT zs ms N).take K)[atK zs ms K k]? = some k := by
  have e : atK zs ms K k = (lackT zs ms k).length := by unfold atK at h ⊢; omega
  refine ⟨?_, ?_⟩
  · rw [e]
    unfold atK
    rw [lackT_yes zs ms k hm, List.length_append]
    simp only [List.length_singleton]
    omega
  · rw [e, List.getElem?_take, if_pos (by omega)]
    exact lackT_get zs ms k N hk hm
theorem atK_end (zs : List Int) (ms : List (List Int)) (K N : Nat) : ((lackT zs ms N).take K).length = atK zs ms K N := by
  unfold atK
  rw [List.length_take]
  omega

end Go.Proofs.Ytpgiinogfmhfiaa

namespace Go.Proofs.Ytpgiinogfmhfiaa
open Go.RowKit

theorem plain_intB : Try.prog.plainKey 3 = true := by kernel_rfl
theorem eq_p4 (a b c d : Int) (w : World) : Sem.run Try.prog (Op.equalIn 10000 39 (.agg #[.int .i64 a, .int .i64 b, .int .i64 c, .int .i64 d]) (.agg #[.int .i64 a, .int .i64 b, .int .i64 c, .int .i64 d])) w = .ok true w := by
  obtain ⟨i, hi⟩ : ∃ i, Try.prog.info? 3 = some i := Option.isSome_iff_exists.1 (by kernel_rfl : (Try.prog.info? 3).isSome = true)
  have cI : Try.prog.cellsOf 3 = 1 := by kernel_rfl
  rw [run_equalIn_array w 9999 _ _ Try.underlying39 hi, cI]
  obtain ⟨A, hA⟩ : ∃ A, (#[Value.int .i64 a, .int .i64 b, .int .i64 c, .int .i64 d] : Array Value) = A := ⟨_, rfl⟩
  have h0 : A[0 * 1]? = some (.int .i64 a) := by rw [← hA]; rfl
  have h1 : A[1 * 1]? = some (.int .i64 b) := by rw [← hA]; rfl
  have h2 : A[2 * 1]? = some (.int .i64 c) := by rw [← hA]; rfl
  have h3 : A[3 * 1]? = some (.int .i64 d) := by rw [← hA]; rfl
  have r0 := run_part_plain (P := Try.prog) w plain_intB h0
  have r1 := run_part_plain (P := Try.prog) w plain_intB h1
  have r2 := run_part_plain (P := Try.prog) w plain_intB h2
  have r3 := run_part_plain (P := Try.prog) w plain_intB h3
  have qa := run_equalIn_int (P := Try.prog) w 9998 3 .i64 .i64 a a Try.underlying3
  have qb := run_equalIn_int (P := Try.prog) w 9998 3 .i64 .i64 b b Try.underlying3
  have qc := run_equalIn_int (P := Try.prog) w 9998 3 .i64 .i64 c c Try.underlying3
  have qd := run_equalIn_int (P := Try.prog) w 9998 3 .i64 .i64 d d Try.underlying3
  rw [hA, show List.range 4 = [0, 1, 2, 3] from rfl]
  unfold Op.eqItems
  rw [Sem.run_bind, r0, Result.andThen_ok, Sem.run_bind, r0, Result.andThen_ok, Sem.run_bind, qa, Result.andThen_ok]
  rw [beq_self_eq_true]
  unfold Op.eqItems
  rw [if_neg (by simp), Sem.run_bind, r1, Result.andThen_ok, Sem.run_bind, r1, Result.andThen_ok, Sem.run_bind, qb, Result.andThen_ok]
  rw [beq_self_eq_true]
  unfold Op.eqItems
  rw [if_neg (by simp), Sem.run_bind, r2, Result.andThen_ok, Sem.run_bind, r2, Result.andThen_ok, Sem.run_bind, qc, Result.andThen_ok]
  rw [beq_self_eq_true]
  unfold Op.eqItems
  rw [if_neg (by simp), Sem.run_bind, r3, Result.andThen_ok, Sem.run_bind, r3, Result.andThen_ok, Sem.run_bind, qd, Result.andThen_ok]
  rw [beq_self_eq_true]
  unfold Op.eqItems
  rw [if_neg (by simp)]
  rfl
theorem exec_eqP4 {ev : Operand → Value} {o : Oper} {x y : Operand} {t' : TypeId} {a b c d : Int} {w : World} (ho : o.op = .binOp .eql 39 x y t') (hx : ev x = .agg #[.int .i64 a, .int .i64 b, .int .i64 c, .int .i64 d]) (hy : ev y = .agg #[.int .i64 a, .int .i64 b, .int .i64 c, .int .i64 d]) : (execOp ev o).run Try.prog w = .ok (.value (.bool true)) w := by
  obtain ⟨xs, hxs⟩ : ∃ xs : Array Value, #[.int .i64 a, .int .i64 b, .int .i64 c, .int .i64 d] = xs := ⟨_, rfl⟩
  have h : Sem.run Try.prog (Op.equal 39 (.agg xs) (.agg xs)) w = .ok true w := by rw [← hxs]; exact eq_p4 a b c d w
  rw [hxs] at hx hy
  have h1 : Sem.run Try.prog (eqGuard .eql 39 x y (.agg xs) (.agg xs)) w = .ok () w := by go_simp
  have h2 : Sem.run Try.prog (binOp .eql 39 (.agg xs) (.agg xs)) w = .ok (.bool true) w := by
    show Sem.run Try.prog (do pure (Value.bool (← Op.equal 39 (.agg xs) (.agg xs)))) w = _
    simp only [Sem.run_bind, Sem.run_pure, Result.andThen_ok, h]
  unfold execOp
  simp only [ho, hx, hy, Sem.run_bind, Sem.run_pure, Result.andThen_ok, h1, h2]
theorem exec_neP4 {ev : Operand → Value} {o : Oper} {x y : Operand} {t' : TypeId} {a b c d : Int} {w : World} (ho : o.op = .binOp .neq 39 x y t') (hx : ev x = .agg #[.int .i64 a, .int .i64 b, .int .i64 c, .int .i64 d]) (hy : ev y = .agg #[.int .i64 a, .int .i64 b, .int .i64 c, .int .i64 d]) : (execOp ev o).run Try.prog w = .ok (.value (.bool false)) w := by
  obtain ⟨xs, hxs⟩ : ∃ xs : Array Value, #[.int .i64 a, .int .i64 b, .int .i64 c, .int .i64 d] = xs := ⟨_, rfl⟩
  have h : Sem.run Try.prog (Op.equal 39 (.agg xs) (.agg xs)) w = .ok true w := by rw [← hxs]; exact eq_p4 a b c d w
  rw [hxs] at hx hy
  have h1 : Sem.run Try.prog (eqGuard .neq 39 x y (.agg xs) (.agg xs)) w = .ok () w := by go_simp
  have h2 : Sem.run Try.prog (binOp .neq 39 (.agg xs) (.agg xs)) w = .ok (.bool false) w := by
    show Sem.run Try.prog (do pure (Value.bool (!(← Op.equal 39 (.agg xs) (.agg xs))))) w = _
    simp only [Sem.run_bind, Sem.run_pure, Result.andThen_ok, h]
    rfl
  unfold execOp
  simp only [ho, hx, hy, Sem.run_bind, Sem.run_pure, Result.andThen_ok, h1, h2]
theorem exec_neMark {ev : Operand → Value} {o : Oper} {x y : Operand} {t' : TypeId} {m : List Int} {w : World} (hm : m.length = 16) (ho : o.op = .binOp .neq 24 x y t') (hx : ev x = markV m) (hy : ev y = markV m) : (execOp ev o).run Try.prog w = .ok (.value (.bool false)) w := by
  obtain ⟨xs, hxs⟩ : ∃ xs : Array Value, (markL m).toArray = xs := ⟨_, rfl⟩
  have h : Sem.run Try.prog (Op.equal 24 (.agg xs) (.agg xs)) w = .ok true w := by
    rw [← hxs]
    have e := eq_marks m m hm hm w
    rw [decide_eq_true rfl] at e
    exact e
  rw [show markV m = .agg xs from congrArg Value.agg hxs] at hx hy
  have h1 : Sem.run Try.prog (eqGuard .neq 24 x y (.agg xs) (.agg xs)) w = .ok () w := by go_simp
  have h2 : Sem.run Try.prog (binOp .neq 24 (.agg xs) (.agg xs)) w = .ok (.bool false) w := by
    show Sem.run Try.prog (do pure (Value.bool (!(← Op.equal 24 (.agg xs) (.agg xs))))) w = _
    simp only [Sem.run_bind, Sem.run_pure, Result.andThen_ok, h]
    rfl
  unfold execOp
  simp only [ho, hx, hy, Sem.run_bind, Sem.run_pure, Result.andThen_ok, h1, h2]
theorem lunion_none (B : Nat) (w : World) : Calls Try.prog 11 #[.pointer (some ⟨B, 0, none⟩), .pointer none] w fun e w' => e = .returned (.tuple #[.pointer none, .int .i64 1]) ∧ w = w' := by
  go_enter Try.func11, Try.ntmps11
  go_wp2
  go_ret2
  exact ⟨rfl, rfl⟩
theorem build_p4 (w : World) : (Instr.build 39 #[]).run Try.prog w = .ok (.agg #[.int .i64 0, .int .i64 0, .int .i64 0, .int .i64 0]) w := by kernel_rfl
theorem grown_tyB {w w' : World} {base e size n : Nat} {v : Value} {xs : List Value} (h : w.ownsRow base e size v n xs) (g : w.grownBy w' v.ownBlock) {B t : Nat} {cs : List Value} (hb : Blk w B t cs) (ht : t ≠ e) : Blk w' B t cs := by
  refine (g.block B hb.lt (fun e' => ?_)).trans hb
  obtain ⟨cs', fr', e2⟩ := row_tyB h e'.symm
  have h3 := (show w.heap[B]? = _ from hb).symm.trans e2
  injection h3 with h3
  injection h3 with _ h3
  exact ht h3
theorem kp_grownB {w0 w w' : World} {base e size n : Nat} {v : Value} {xs : List Value} (h : w.ownsRow base e size v n xs) (g : w.grownBy w' v.ownBlock) (hb : base = w0.heap.size) (k : Kp Nb w0 w) : Kp Nb w0 w' :=
  k.grown g (fun b hb' hlt => by have := (row_cells h hb').1; omega)
/-- What stands while the two sets are made. -/
structure TsS (w0 : World) (s : Nat) (X Y : List Int) (ms mt : List (List Int)) (bs : List Bool) (g : Value × Value × Value × Value × Value) (w : World) : Prop where
  kp : Kp Nb w0 w
  s1 : bs[0]?.getD false = true → ∃ C, g.1 = .slice (some ⟨C, 0, none⟩) s s ∧ Blk w C 4 (bvL (bitsL X))
  m0 : bs[1]?.getD false = true → bs[2]?.getD false = false → w.ownsRow w0.heap.size 24 16 g.2.1 0 []
  a1 : bs[2]?.getD false = true → bs[3]?.getD false = false → w.ownsRow w0.heap.size 24 16 g.2.2.1 ms.length (flatR markL ms)
  a2 : bs[3]?.getD false = true → MkSl w g.2.2.2.1 (ms ++ mt)
  s2 : bs[4]?.getD false = true → ∃ C, g.2.2.2.2 = .slice (some ⟨C, 0, none⟩) s s ∧ Blk w C 4 (bvL (bitsL Y))
section
variable {w0 w w' : World} {s : Nat} {X Y : List Int} {ms mt : List (List Int)} {bs : List Bool} {g : Value × Value × Value × Value × Value}
theorem TsS.keptN (h : TsS w0 s X Y ms mt bs g w) (k : Kp Nb w w') : TsS w0 s X Y ms mt bs g w' :=
  ⟨h.kp.trans k (fun _ _ h => h), fun e => by obtain ⟨C, h1, h2⟩ := h.s1 e; exact ⟨C, h1, h2.kept k (fun h => h)⟩, fun e e' => ownsRow_kpb (h.m0 e e') k, fun e e' => ownsRow_kpb (h.a1 e e') k, fun e => (h.a2 e).kept k, fun e => by obtain ⟨C, h1, h2⟩ := h.s2 e; exact ⟨C, h1, h2.kept k (fun h => h)⟩⟩
theorem TsS.set1 {b1 b2 b3 b4 : Bool} (h : TsS w0 s X Y ms mt [false, b1, b2, b3, b4] g w) (k : Kp Nb w w') (C : Nat) (hC : Blk w' C 4 (bvL (bitsL X))) : TsS w0 s X Y ms mt [true, b1, b2, b3, b4] (.slice (some ⟨C, 0, none⟩) s s, g.2) w' := by
  have h' := h.keptN k
  exact ⟨h'.kp, fun _ => ⟨C, rfl, hC⟩, h'.m0, h'.a1, h'.a2, h'.s2⟩
theorem TsS.make {b0 b2 b3 b4 : Bool} (h : TsS w0 s X Y ms mt [b0, false, b2, b3, b4] g w) : TsS w0 s X Y ms mt [b0, true, b2, b3, b4] (g.1, .slice (some ⟨w.heap.size, 0, none⟩) 0 0, g.2.2) (w.alloc (.cells #[] 24 (0, 0))) := by
  have h' := h.keptN ((Kp.refl Nb w).alloc (.cells #[] 24 (0, 0)))
  exact ⟨h'.kp, h'.s1, fun _ _ => World.ownsRow_made w #[] 0 h.kp.size (Nat.zero_le _) rfl, h'.a1, h'.a2, h'.s2⟩
theorem TsS.put1 {b0 b3 b4 : Bool} (h : TsS w0 s X Y ms mt [b0, true, false, b3, b4] g w) {v' : Value} (ho : w'.ownsRow w0.heap.size 24 16 v' ms.length (flatR markL ms)) (hg : w.grownBy w' g.2.1.ownBlock) (hb3 : b3 = false) (hb4 : b4 = false) :
    TsS w0 s X Y ms mt [b0, true, true, b3, b4] (g.1, g.2.1, v', g.2.2.2) w' := by
  have r := h.m0 rfl rfl
  refine ⟨kp_grownB r hg rfl h.kp, fun e => ?_, (fun _ e => by cases e), fun _ _ => ho, (fun e => by rw [hb3] at e; cases e), (fun e => by rw [hb4] at e; cases e)⟩
  obtain ⟨C, h1, h2⟩ := h.s1 e
  exact ⟨C, h1, grown_tyB r hg h2 (by decide)⟩
theorem TsS.put2 {b0 b1 b4 : Bool} (h : TsS w0 s X Y ms mt [b0, b1, true, false, b4] g w) {v' : Value} (ho : MkSl w' v' (ms ++ mt)) (hg : w.grownBy w' g.2.2.1.ownBlock) (hb4 : b4 = false) :
    TsS w0 s X Y ms mt [b0, b1, true, true, b4] (g.1, g.2.1, g.2.2.1, v', g.2.2.2.2) w' := by
  have r := h.a1 rfl rfl
  refine ⟨kp_grownB r hg rfl h.kp, fun e => ?_, (fun _ e => by cases e), (fun _ e => by cases e), fun _ => ho, (fun e => by rw [hb4] at e; cases e)⟩
  obtain ⟨C, h1, h2⟩ := h.s1 e
  exact ⟨C, h1, grown_tyB r hg h2 (by decide)⟩
theorem TsS.set2 {b0 b1 b2 b3 : Bool} (h : TsS w0 s X Y ms mt [b0, b1, b2, b3, false] g w) (k : Kp Nb w w') (C : Nat) (hC : Blk w' C 4 (bvL (bitsL Y))) : TsS w0 s X Y ms mt [b0, b1, b2, b3, true] (g.1, g.2.1, g.2.2.1, g.2.2.2.1, .slice (some ⟨C, 0, none⟩) s s) w' := by
  have h' := h.keptN k
  exact ⟨h'.kp, h'.s1, h'.m0, h'.a1, h'.a2, fun _ => ⟨C, rfl, hC⟩⟩
end
theorem exec_buildSliceB {P : Program} {ev : Operand → Value} {o : Oper} {T : TypeId} {n : Nat} {ps : Array (Nat × Operand)} {qs : Array (Nat × Value)} {v : Value} {w w' : World} (ho : o.op = .buildSlice T n ps) (hq : (ps.map fun (i, x) => (i, ev x)) = qs) (hl : (Instr.buildSlice T n qs).run P w = .ok v w') : (execOp ev o).run P w = .ok (.value v) w' := by
  unfold execOp
  simp only [ho, hq, Sem.run_bind, Sem.run_pure, Result.andThen_ok, hl]
theorem exec_appendB {P : Program} {ev : Operand → Value} {o : Oper} {s x : Operand} {t : TypeId} {v xv v' : Value} {w w' : World} (ho : o.op = .call { callee := .builtin .append, args := #[s, x], argTypes := #[t, t] })
    (hs : ev s = v) (hx : ev x = xv) (hr : (Builtin.append_ #[t, t] o.type #[v, xv]).run P w = .ok v' w') : (execOp ev o).run P w = .ok (.value v') w' := by
  simp [execOp, ho, resolve, invoke, builtin, hs, hx, hr, Result.andThen]
theorem make_none (w : World) : (Instr.buildSlice 22 0 #[]).run Try.prog w = .ok (.slice (some ⟨w.heap.size, 0, none⟩) 0 0) (w.alloc (.cells #[] 24 (0, 0))) := by go_simp
theorem app_marks {w : World} {base ty : Nat} {va vb : Value} {ms mt : List (List Int)} (own : w.ownsRow base 24 16 va ms.length (flatR markL ms)) (hB : MkSl w vb mt) (hn : ms.length + mt.length ≤ 100000) (hb : base ≤ w.heap.size) :
    ∃ v' w', (Builtin.append_ #[22, 22] ty #[va, vb]).run Try.prog w = .ok v' w' ∧ w'.ownsRow base 24 16 v' (ms.length + mt.length) (flatR markL ms ++ flatR markL mt) ∧ w.grownBy w' va.ownBlock := by
  obtain ⟨i0, z, hi, hz0, hz1, hz2, hz3⟩ := mark_info3L
  have hl := mk_len hB.1
  exact run_append_rows (P := Try.prog) (f := markL) (z := List.replicate 16 0) (c := 16) base 22 ty 24 i0 z 16 Try.underlying22 hi hz0 hz1 hz2 hz3 (by decide) va ms.length (flatR markL ms) own vb mt (mk_rows hB) (fun q hq => by rw [markL_length]; exact hl q hq) (fun q _ => markL_one' q) (by unfold maxLen; omega) (by omega) hb
theorem mksl_rowsT {W : World} {v : Value} {ms : List (List Int)} (ho : ∀ q ∈ ms, MarkOk q) (h : RowsSl markL (List.replicate 16 0) 16 W v ms) : MkSl W v ms := by
  refine ⟨fun i => ?_, h⟩
  unfold markAt
  cases hi : ms[i]? with
  | none => exact zero_ok
  | some m => exact ho m (List.mem_of_getElem? hi)
theorem mksl_two {w : World} {base : Nat} {v : Value} {ms mt : List (List Int)} (h1 : ∀ q ∈ ms, MarkOk q) (h2 : ∀ q ∈ mt, MarkOk q) (h : w.ownsRow base 24 16 v (ms.length + mt.length) (flatR markL ms ++ flatR markL mt)) : MkSl w v (ms ++ mt) := by
  have ho : ∀ q ∈ ms ++ mt, MarkOk q := fun q hq => (List.mem_append.1 hq).elim (h1 q) (h2 q)
  refine mksl_rowsT ho (rows_owned (base := base) (e := 24) ?_ (fun q hq => by rw [markL_length]; exact (ho q hq).len))
  have e : flatR markL (ms ++ mt) = flatR markL ms ++ flatR markL mt := by unfold flatR; rw [List.flatMap_append]
  rw [e, List.length_append]
  exact h

end Go.Proofs.Ytpgiinogfmhfiaa

namespace Go.Proofs.Ytpgiinogfmhfiaa
open Go.RowKit

set_option maxRecDepth 100000 in
set_option maxHeartbeats 16000000 in
theorem ltells_no (cs : List Value) (n : Int) (vA vB : Value) (ms mt : List (List Int)) (mm : List Int) (w : World) (hc0 : cs[0]? = some (.int .i64 n)) (hc2 : cs[2]? = some vA) (hc3 : cs[3]? = some vB) (hcm : (cs.drop 4).take 16 = markL mm) (hmm : MarkOk mm) (hA : MkSl w vA ms) (hB : MkSl w vB mt) (hn : -9223372036854775808 ≤ n ∧ n < 9223372036854775808) (hf : fitL n = false) :
    Calls Try.prog 3 #[.agg cs.toArray] w fun e w' => e = .returned (.bool true) ∧ Kp Nb w w' := by
  obtain ⟨yA, dA, rfl⟩ := hA.shape
  obtain ⟨yB, dB, rfl⟩ := hB.shape
  obtain ⟨N, hN⟩ : ∃ N, ms.length = N := ⟨_, rfl⟩
  obtain ⟨Nt, hNt⟩ : ∃ N, mt.length = N := ⟨_, rfl⟩
  rw [hN] at hc2
  rw [hNt] at hc3
  have HNR := hid hn
  have HFN := hid hf
  obtain ⟨D, hD⟩ : ∃ D, w.heap.size = D := ⟨_, rfl⟩
  obtain ⟨W, hW⟩ : ∃ W, W = w.alloc (.cells cs.toArray 27) := ⟨_, rfl⟩
  have H0 : Hid (Blk W D 27 cs) := hid (by rw [hW, ← hD]; exact Blk.new w _ _)
  have K0 : Hid (Kp Nb w W) := hid (by rw [hW]; exact (Kp.refl Nb w).alloc _)
  have HC0 := hid hc0
  have HC2 := hid hc2
  have HC3 := hid hc3
  have HCM := hid hcm
  have MM := hid (mark_infoL mm hmm.len)
  have CN : Hid (∀ w, Calls Try.prog 8 #[.int .i64 n] w fun e w' => e = .returned (.tuple #[.pointer none, .int .i64 2]) ∧ w = w') := hid (fun w => lnew_no n w HNR.out.1 HNR.out.2 HFN.out)
  have CF : Hid (∀ w, Calls Try.prog 9 #[.int .i64 n] w fun e w' => e = .returned (.bool false) ∧ w = w') := hid (fun w => by rw [← HFN.out]; exact rfits15_any n w HNR.out.1 HNR.out.2)
  have CF2 : Hid (∀ w, Calls Try.prog 13 #[.int .i64 n] w fun e w' => e = .returned (.bool false) ∧ w = w') := hid (fun w => by rw [← HFN.out]; exact lfits_any n w HNR.out.1 HNR.out.2)
  clear hA hB hN hNt hn hc0 hc2 hc3 hcm hmm hf
  go_enter Try.func3, Try.ntmps3
  go_upto_region 1 with fail
  rw [show w.alloc (.cells cs.toArray 27) = W from hW.symm]
  clear hW hD
  go_wp2_with fail
  refine (lfirst_any _).mono ?_
  rintro e w1 ⟨rfl, k1⟩
  have H1 := hid (H0.out.kept k1 (fun h => h))
  have K1 := hid (K0.out.trans k1 (fun _ _ h => h))
  have c0 : w1.cell? ⟨D, 0, none⟩ = some (.int .i64 n) := (H1.out.cell 0).trans HC0.out
  have c2 : w1.cell? ⟨D, 2, none⟩ = some (.slice yA N dA) := (H1.out.cell 2).trans HC2.out
  have c3 : w1.cell? ⟨D, 3, none⟩ = some (.slice yB Nt dB) := (H1.out.cell 3).trans HC3.out
  clear k1 H0 K0
  by_cases hl : 60 < N
  · have d1 : decide ((N : Int) > 60) = true := decide_eq_true (by omega)
    go_wp2
    go_ret
    exact ⟨rfl, K1.out⟩
  have d1 : decide ((N : Int) > 60) = false := decide_eq_false (by omega)
  clear hl
  by_cases hl : 60 < Nt
  · have d2 : decide ((Nt : Int) > 60) = true := decide_eq_true (by omega)
    go_wp2
    go_ret
    exact ⟨rfl, K1.out⟩
  have d2 : decide ((Nt : Int) > 60) = false := decide_eq_false (by omega)
  clear hl
  go_wp2_with fail
  refine (CN.out _).mono ?_
  rintro e w2 ⟨rfl, rfl⟩
  go_wp2_with fail
  refine (CF.out _).mono ?_
  rintro e w2 ⟨rfl, rfl⟩
  have RM := hid (mark_at H1.out HCM.out)
  go_wp2_with (refine wpList_load_mid (by rfl) 24 (.tmp 55) (by rfl) D 4 (by rfl) (markL mm) _ RM.out under_mark rfl MM.out ?_)
  refine (ladd_nil mm _).mono ?_
  rintro e w2 ⟨rfl, k2⟩
  have H2 := hid (H1.out.kept k2 (fun h => h))
  have K2 := hid (K1.out.trans k2 (fun _ _ h => h))
  have c2 : w2.cell? ⟨D, 2, none⟩ = some (.slice yA N dA) := (H2.out.cell 2).trans HC2.out
  clear k2 H1 K1 c0 c3 RM
  go_wp2_with fail
  refine (lunion_nil _ _).mono ?_
  rintro e w3 ⟨rfl, rfl⟩
  go_wp2_with fail
  refine (lacks0_rows _ 9 _ ⟨yA, N, dA, rfl⟩).mono ?_
  rintro e w3 ⟨y1, d1', y2, d2', rfl, k3⟩
  have H3 := hid (H2.out.kept k3 (fun h => h))
  have K3 := hid (K2.out.trans k3 (fun _ _ h => h))
  have c0 : w3.cell? ⟨D, 0, none⟩ = some (.int .i64 n) := (H3.out.cell 0).trans HC0.out
  clear k3 H2 K2 c2
  go_wp2_with fail
  refine (CF2.out _).mono ?_
  rintro e w4 ⟨rfl, rfl⟩
  have RM := hid (mark_at H3.out HCM.out)
  go_wp2_with (refine wpList_load_on' (by first | rfl | kernel_rfl) 24 (.tmp 86) (by rfl) D 4 (by rfl) (markL mm) RM.out under_mark rfl MM.out ?_)
  refine (lplaces_no n mm _ HNR.out.1 HNR.out.2 HFN.out).mono ?_
  rintro e w4 ⟨rfl, k4⟩
  have H4 := hid (H3.out.kept k4 (fun h => h))
  have K4 := hid (K3.out.trans k4 (fun _ _ h => h))
  clear k4 H3 K3 c0 RM
  have hb4 := build_p4 w4
  have he4 := eq_p4 0 0 0 0 w4
  go_wp2_with fail
  refine (lbits_nil _).mono ?_
  rintro e w5 ⟨rfl, rfl⟩
  go_wp2_with fail
  refine (lcount_nil _).mono ?_
  rintro e w5 ⟨rfl, rfl⟩
  have RM := hid (mark_at H4.out HCM.out)
  clear hb4 he4
  go_wp2_with (refine wpList_load_on' (by first | rfl | kernel_rfl) 24 (.tmp 102) (by rfl) D 4 (by rfl) (markL mm) RM.out under_mark rfl MM.out ?_)
  refine (lmay_nil mm _).mono ?_
  rintro e w5 ⟨rfl, k5⟩
  have K5 := hid (K4.out.trans k5 (fun _ _ h => h))
  clear k5 H4 K4 RM
  go_wp2_with fail
  refine (lbytes_nil _).mono ?_
  rintro e w6 ⟨rfl, k6⟩
  have K6 := hid (K5.out.trans k6 (fun _ _ h => h))
  clear k6 K5
  go_wp2
  go_ret
  exact ⟨rfl, K6.out⟩

end Go.Proofs.Ytpgiinogfmhfiaa
