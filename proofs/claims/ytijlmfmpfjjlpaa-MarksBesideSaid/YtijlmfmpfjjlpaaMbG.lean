/-
  Layer 9: MarksBeside's law. Conditions: two lists of marks in memory.
-/
import Derived.Test.YtijlmfmpfjjlpaaMbF
namespace Go.Proofs.Ytijlmfmpfjjlpaa
open Go.RowKit Go.Shelf

set_option maxRecDepth 100000 in
set_option maxHeartbeats 8000000 in
theorem mbes_any (va vb : Value) (xs ys : List (List Int)) (n m : Int) (w : World) (ha : MkSl w va xs) (hb : MkSl w vb ys) (hn : -9223372036854775808 ≤ n ∧ n < 9223372036854775808) (hm : -9223372036854775808 ≤ m ∧ m < 9223372036854775808) :
    Calls Try.prog 4 #[.agg #[va, vb, .int .i64 n, .int .i64 m]] w fun e w' => e = .returned (.bool true) ∧ Kp Nb w w' := by
  obtain ⟨pa, da, rfl⟩ := ha.shape
  obtain ⟨pb, db, rfl⟩ := hb.shape
  obtain ⟨nA, hnA⟩ : ∃ n, xs.length = n := ⟨_, rfl⟩
  obtain ⟨nB, hnB⟩ : ∃ n, ys.length = n := ⟨_, rfl⟩
  rw [hnA] at ha
  rw [hnB] at hb
  rw [hnA, hnB]
  obtain ⟨M, hM⟩ : ∃ M, w.heap.size = M := ⟨_, rfl⟩
  obtain ⟨V, hV⟩ : ∃ V, V = w.alloc (.cells #[.slice pa nA da, .slice pb nB db, .int .i64 n, .int .i64 m] 38) := ⟨_, rfl⟩
  have D0 : Hid (Blk V M 38 [.slice pa nA da, .slice pb nB db, .int .i64 n, .int .i64 m]) := hid (by rw [hV, ← hM]; exact Blk.new w _ _)
  have K0 : Hid (Kp Nb w V) := hid (by rw [hV]; exact (Kp.refl Nb w).alloc _)
  have HA := hid (ha.kept K0.out)
  have HB := hid (hb.kept K0.out)
  have HNA := hid hnA
  have HNB := hid hnB
  have HN := hid hn
  have HMM := hid hm
  clear ha hb hnA hnB hn hm
  go_enter Try.func4, Try.ntmps4
  go_upto_region 1 with fail
  rw [← hV]
  clear hV hM
  go_wp2_with fail
  refine (mfirst_any V).mono ?_
  rintro r w1 ⟨rfl, k1⟩
  have D1 := hid (D0.out.kept k1 (fun h => h))
  have HA := hid (HA.out.kept k1)
  have HB := hid (HB.out.kept k1)
  have K1 := hid (K0.out.trans k1 (fun _ _ h => h))
  have c0 : w1.cell? ⟨M, 0, none⟩ = some (.slice pa nA da) := range_of D1.out 0 _ rfl
  have c1 : w1.cell? ⟨M, 1, none⟩ = some (.slice pb nB db) := range_of D1.out 1 _ rfl
  have c2 : w1.cell? ⟨M, 2, none⟩ = some (.int .i64 n) := range_of D1.out 2 _ rfl
  have c3 : w1.cell? ⟨M, 3, none⟩ = some (.int .i64 m) := range_of D1.out 3 _ rfl
  clear k1 D0 K0
  go_wp2_with fail
  go_quiet (fail)
  obtain ⟨w2, hw2⟩ : ∃ W, W = w1.drewN nq := ⟨_, rfl⟩
  have k2 : Kp Nb w1 w2 := by rw [hw2]; exact (Kp.refl Nb w1).drewN _
  rw [← hw2]
  clear hw2 c0 c1 c2 c3
  have D2 := hid (D1.out.kept k2 (fun h => h))
  have HA := hid (HA.out.kept k2)
  have HB := hid (HB.out.kept k2)
  have K2 := hid (K1.out.trans k2 (fun _ _ h => h))
  clear k2 D1 K1
  by_cases hbig : 200 < nA ∨ 200 < nB
  · by_cases h1 : 200 < nA
    · go_wp2
      go_ret
      exact ⟨rfl, K2.out⟩
    · have h2 : 200 < nB := by omega
      go_wp2
      go_ret
      exact ⟨rfl, K2.out⟩
  have hA2 : nA ≤ 200 := by omega
  have hB2 : nB ≤ 200 := by omega
  have HBD := hid (show nA ≤ 200 ∧ nB ≤ 200 from ⟨hA2, hB2⟩)
  obtain ⟨k, hk⟩ : ∃ k : Nat, max 0 (min m 500) = (k : Int) := ⟨(max 0 (min m 500)).toNat, by omega⟩
  have hk5 : k ≤ 500 := by omega
  have c3 : w2.cell? ⟨M, 3, none⟩ = some (.int .i64 m) := range_of D2.out 3 _ rfl
  have HK5 := hid hk5
  go_wp2_with fail
  refine (rpick2_any _ _ xs ys true true true w2 HA.out HB.out (by have := HBD.out; have := HNA.out; omega) (by have := HBD.out; have := HNB.out; omega)).mono ?_
  rintro r w3 ⟨vu, rfl, h, k3⟩
  rw [sides_marks] at h
  obtain ⟨L, hL⟩ : ∃ L, sidesL xs ys = L := ⟨_, rfl⟩
  have HLE := hid hL
  have HLN : Hid (L.length ≤ 400) := hid (by
    have h1 := thoseT_len true true true xs ys
    rw [sides_marks, List.length_map, hL] at h1
    have := HBD.out; have := HNA.out; have := HNB.out; omega)
  rw [hL] at h
  obtain ⟨pu, du, e⟩ := h.shape
  rw [List.length_map] at e
  subst e
  obtain ⟨nL, hnL⟩ : ∃ n, L.length = n := ⟨_, rfl⟩
  rw [hnL] at h
  have HNL := hid hnL
  have HU := hid h
  have HA := hid (HA.out.kept k3)
  have HB := hid (HB.out.kept k3)
  have K3 := hid (K2.out.trans k3 (fun _ _ h => h))
  rw [hnL]
  obtain ⟨s, hs⟩ : ∃ s, min k nL = s := ⟨_, rfl⟩
  have hmin : min (k : Int) (nL : Int) = (s : Int) := by omega
  have hs1 : s ≤ nL := by omega
  obtain ⟨pv, dv, cutV, BV⟩ := HU.out.cutH s (by rw [List.length_map, HNL.out]; exact hs1)
  have hbL : nL ≤ 400 := by rw [← hnL]; exact HLN.out
  clear h hL hnL k3 D2 K2 c3
  go_wp2_with fail
  refine (lbeside_any _ _ xs ys (k : Int) w3 HA.out HB.out (by have := HBD.out; have := HNA.out; omega) (by have := HBD.out; have := HNB.out; omega) L HLE.out.symm).mono ?_
  rintro r w4 ⟨v1, v2, ks, rfl, hks, r1, r2, k4⟩
  rw [Int.toNat_natCast] at hks
  have hkl : ks.length = s := by rw [hks, List.length_take, List.length_range, HNL.out]; exact hs
  have hks' : ks = (List.range L.length).take s := by
    rw [hks]
    rcases Nat.le_total k nL with h | h
    · rw [show s = k by omega]
    · rw [show s = nL by omega, List.take_of_length_le (by rw [List.length_range, HNL.out]; exact h), List.take_of_length_le (by rw [List.length_range, HNL.out]; exact Nat.le_refl _)]
  have hkm : ks.map (fun x => (atP L x).1) = (L.map (·.1)).take s := by rw [hks', sides_take]
  have OKL : ∀ q ∈ (L.map (·.1)).take s, MarkOk q := fun q hq => HU.out.ok q (List.mem_of_mem_take hq)
  have k4' : Kp Nb w3 w4 := Kp.of_below k4
  have R1 : Hid (MkSl w4 v1 ((L.map (·.1)).take s)) := hid (by
    rw [sides_f1, hkm, hkl] at r1
    have hl : ((L.map (·.1)).take s).length = s := by rw [← hkm, List.length_map, hkl]
    refine mk_of_rows (rows_owned (by rw [hl]; exact r1) (fun q hq => by rw [markL_length, (OKL q hq).len])) OKL)
  have R2 : Hid (IntRow w4 v2 (ks.map fun x => (atP L x).2)) := hid (by
    rw [sides_f2] at r2
    exact IntRow.of r2)
  obtain ⟨p1, q1, rfl⟩ := own_shape r1
  obtain ⟨p2, q2, rfl⟩ := own_shape r2
  rw [hkl] at R1 R2 ⊢
  have HS1 := hid hs1
  have HKS : Hid (ks = (List.range L.length).take s ∧ ks.length = s) := hid ⟨hks', hkl⟩
  have BV := hid (BV.kept k4')
  have HA := hid (HA.out.kept k4')
  have HB := hid (HB.out.kept k4')
  have K4 := hid (K3.out.trans k4' (fun _ _ h => h))
  have HLS : Hid (((L.map (·.1)).take s).length = s) := hid (by rw [List.length_take, List.length_map, HNL.out]; omega)
  clear r1 r2 k4 k4' hks hks' hkl hkm OKL K3 HU cutV
  go_wp2_with fail
  refine (rsm_any _ _ _ _ w4 R1.out BV.out (by rw [HLS.out]; have := HS1.out; omega)).mono ?_
  rintro r w5 ⟨rfl, k5⟩
  rw [decide_eq_true rfl]
  have R1 := hid (R1.out.kept k5)
  have R2 := hid (R2.out.kept k5)
  have HA := hid (HA.out.kept k5)
  have HB := hid (HB.out.kept k5)
  have K5 := hid (K4.out.trans k5 (fun _ _ h => h))
  clear k5 K4 BV
  go_wp2_with fail
  go_loopw [66] (fun i wr => ∃ j : Nat, j ≤ s ∧ i = .int .i64 j ∧ Hid (Kp Nb w5 wr)) (fun i _ => s - (intOf i).toNat)
  case atStart => exact ⟨0, Nat.zero_le _, rfl, hid (Kp.refl _ _)⟩
  case round =>
    obtain ⟨j, hj, rfl, HK⟩ := hrel
    by_cases hlt : j < s
    · have hat := sides_at L s j (by rw [← HKS.out.1, HKS.out.2]; exact hlt)
      have hwh := sides_whose xs ys j (by rw [HLE.out]; exact hat.2.1)
      rw [HLE.out] at hwh
      have hzs := hat.1
      rw [← HKS.out.1] at hzs
      have hmk := hat.2.2
      obtain ⟨⟨z, c⟩, hq⟩ : ∃ p, atP L j = p := ⟨_, rfl⟩
      rw [hq] at hwh hzs hmk
      dsimp only at hwh hzs hmk
      obtain ⟨g1, o1, c1, e1, hc1, hm1, hcell⟩ := mk_shape (R1.out.kept HK.out) (by intro h; have := HLS.out; rw [h, List.length_nil] at this; omega)
      rw [HLS.out] at e1 hc1 hcell
      injection e1 with e1 _ e1b
      subst e1 e1b
      have hcz := hcell j hlt
      rw [hmk] at hcz
      obtain ⟨g2, c2, e2, hcw⟩ : ∃ g2 c2, Value.slice p2 s q2 = .slice (some ⟨g2, 0, none⟩) s c2 ∧ ∀ w', Kp Nb w5 w' → w'.cell? ⟨g2, j, none⟩ = some (.int .i64 c) := by
        have h := R2.out
        rcases h with ⟨h0, _⟩ | ⟨g, cap, e, -, -, -⟩
        · exfalso
          have := congrArg List.length h0
          rw [List.length_map, HKS.out.2, List.length_nil] at this
          omega
        · rw [List.length_map, HKS.out.2] at e
          refine ⟨g, cap, e, fun w' k => ?_⟩
          have h := R2.out.kept k
          rw [e] at h
          have h3 := h.head (i := j) (by rw [List.length_map, HKS.out.2]; exact hlt)
          rw [hzs] at h3
          exact h3
      injection e2 with e2 _ e2b
      subst e2 e2b
      have HCW := hid hcw
      have MZ := hid hcz.1
      have HR := hid hcz.2
      obtain ⟨b1, hb1⟩ : ∃ b, mhasB xs z = b := ⟨_, rfl⟩
      obtain ⟨b2, hb2⟩ : ∃ b, mhasB ys z = b := ⟨_, rfl⟩
      rw [hb1, hb2] at hwh
      have HB1 := hid hb1
      have HB2 := hid hb2
      have HWH := hid hwh
      have hjb : (j : Int) < (s : Int) ∧ 0 ≤ (j : Int) := by omega
      have hz := Blk.new wr 24 (markL (List.replicate 16 0))
      obtain ⟨W2, hW2⟩ : ∃ W, W = (wr.alloc (.cells (markL (List.replicate 16 0)).toArray 24)).setCells wr.heap.size 0 (markL z) := ⟨_, rfl⟩
      have kW : Kp Nb wr W2 := by rw [hW2]; exact Kp.setCells (fun h => absurd h (Nat.lt_irrefl _)) _ 0 _ ((Kp.refl Nb wr).alloc _)
      have TH := hid (mark_there hz (by rw [markL_length]; rfl) MZ.out)
      have SI := hid (mark_sized MZ.out)
      have ON := hid (all_oneCell_toArray (markL_one z))
      have HZ : Hid (Blk W2 wr.heap.size 24 (markL z)) := hid (by rw [hW2]; exact row_set hz (by rw [markL_length, markL_length, MZ.out.len]; rfl))
      have HK1 := hid (HK.out.trans kW (fun _ _ h => h))
      clear hz kW hcell hcz hb1 hb2 hwh hq hat hzs hmk hcw hc1 hm1
      go_upto_region 15 with (first
        | (refine wpList_load_mid (by rfl) 24 (.tmp 69) (by rfl) g1 (o1 + j * 16) (by rfl) (markL z) _ HR.out under_mark rfl (mark_infoL z MZ.out.len) ?_)
        | (refine wpList_store_mid (by rfl) 24 (.tmp 11) (.tmp 70) (by rfl) wr.heap.size 0 (markL z).toArray (by rfl) (by rfl) TH.out SI.out ON.out ?_))
      rw [show (wr.alloc (.cells #[.int .u8 0, .int .u8 0, .int .u8 0, .int .u8 0, .int .u8 0, .int .u8 0, .int .u8 0, .int .u8 0, .int .u8 0, .int .u8 0, .int .u8 0, .int .u8 0, .int .u8 0, .int .u8 0, .int .u8 0, .int .u8 0] 24)).setCells wr.heap.size 0 (markL z) = W2 from hW2.symm]
      clear hW2 TH SI ON
      go_wp2_with (refine wpList_load_mid (by rfl) 24 (.tmp 11) (by rfl) wr.heap.size 0 (by rfl) (markL z) _ (range_of HZ.out) under_mark rfl (mark_infoL z MZ.out.len) ?_)
      refine (rhas_any _ xs z W2 (HA.out.kept HK1.out) MZ.out).mono ?_
      rintro r w7 ⟨rfl, k7⟩
      rw [HB1.out]
      have HZ := hid (HZ.out.kept k7 (fun h => h))
      have HK7 := hid (HK1.out.trans k7 (fun _ _ h => h))
      clear k7
      cases b1 with
      | true =>
        go_wp2_with (refine wpList_load_mid (by rfl) 24 (.tmp 11) (by rfl) wr.heap.size 0 (by rfl) (markL z) _ (range_of HZ.out) under_mark rfl (mark_infoL z MZ.out.len) ?_)
        refine (rhas_any _ ys z w7 (HB.out.kept HK7.out) MZ.out).mono ?_
        rintro r w8 ⟨rfl, k8⟩
        rw [HB2.out]
        have HK8 := hid (HK7.out.trans k8 (fun _ _ h => h))
        have cw := HCW.out w8 HK8.out
        clear k8
        cases b2 with
        | true =>
          obtain rfl : c = 3 := by rw [HWH.out]; rfl
          go_wp2
          go_roundw
          case rel => exact ⟨j + 1, by omega, by go_num, HK8⟩
          case measure => simp [intOf]; omega
        | false =>
          obtain rfl : c = 1 := by rw [HWH.out]; rfl
          go_wp2
          go_roundw
          case rel => exact ⟨j + 1, by omega, by go_num, HK8⟩
          case measure => simp [intOf]; omega
      | false =>
        go_wp2_with (refine wpList_load_mid (by rfl) 24 (.tmp 11) (by rfl) wr.heap.size 0 (by rfl) (markL z) _ (range_of HZ.out) under_mark rfl (mark_infoL z MZ.out.len) ?_)
        refine (rhas_any _ ys z w7 (HB.out.kept HK7.out) MZ.out).mono ?_
        rintro r w8 ⟨rfl, k8⟩
        rw [HB2.out]
        have HK8 := hid (HK7.out.trans k8 (fun _ _ h => h))
        have cw := HCW.out w8 HK8.out
        clear k8
        cases b2 with
        | true =>
          obtain rfl : c = 2 := by rw [HWH.out]; rfl
          go_wp2
          go_roundw
          case rel => exact ⟨j + 1, by omega, by go_num, HK8⟩
          case measure => simp [intOf]; omega
        | false =>
          obtain rfl : c = 0 := by rw [HWH.out]; rfl
          go_wp2
          go_roundw
          case rel => exact ⟨j + 1, by omega, by go_num, HK8⟩
          case measure => simp [intOf]; omega
    · obtain rfl : s = j := by omega
      have HA := hid (HA.out.kept HK.out)
      have K6 := hid (K5.out.trans HK.out (fun _ _ h => h))
      clear HK K5 R1 R2 HB hlt hj HKS HLS HS1 HLE HLN HNL hmin hs1 hs
      go_wp2_with fail
      refine (lpieces_any _ xs n (k : Int) HN.out wr HA.out (by have := HNA.out; have := HBD.out; omega)).mono ?_
      rintro r w7 ⟨vg, es, rfl, ⟨hsp, hend⟩, hrow, -, k7⟩
      rw [Int.toNat_natCast] at hend
      obtain ⟨K, hK⟩ : ∃ K, es.length = K := ⟨_, rfl⟩
      rw [hK] at hend
      have hKk : K ≤ k := by rcases hend with h | h <;> omega
      obtain ⟨pg, dg, rfl⟩ := hrow.shape
      have HKE := hid hK
      have HEND := hid hend
      have HOK : Hid (∀ j, j < K → okM xs n j) := hid (fun j hj => hsp.1 j (by rw [hK]; exact hj))
      have HSP := hid hsp.2
      have HROW := hid hrow
      have HA := hid (HA.out.kept k7)
      have K7 := hid (K6.out.trans k7 (fun _ _ h => h))
      rw [hK]
      clear hK hend hsp hrow k7 K6
      go_wp2_with fail
      go_loopw [13, 95] (fun u i wq => ∃ (j : Nat) (ls : List (List Int)), j ≤ K ∧ i = .int .i64 j ∧ Hid (ls = xs.drop (n.toNat * j)) ∧ Hid (MkSl wq u ls) ∧ Hid (Kp Nb w7 wq)) (fun _ i _ => K - (intOf i).toNat)
      case atStart => exact ⟨0, xs, Nat.zero_le _, rfl, hid (by simp), HA, hid (Kp.refl _ _)⟩
      case round =>
        obtain ⟨j, ls, hj, rfl, HD, HS, HQ⟩ := hrel
        obtain ⟨pl, dl, rfl⟩ := HS.out.shape
        obtain ⟨nL2, hnl⟩ : ∃ n, ls.length = n := ⟨_, rfl⟩
        have HNL := hid hnl
        rw [hnl]
        rw [hnl] at HS
        clear hnl
        by_cases hlt : j < K
        · obtain ⟨hn0, hcj⟩ := HOK.out j hlt
          obtain ⟨c, rfl⟩ : ∃ c : Nat, n = (c : Int) := ⟨n.toNat, by omega⟩
          rw [Int.toNat_natCast] at hcj HD
          obtain ⟨⟨y, l, d⟩, hx⟩ : ∃ x, es[j]? = some x := ⟨_, List.getElem?_eq_getElem (by rw [HKE.out]; exact hlt)⟩
          obtain ⟨hp, -⟩ := HSP.out j _ hx
          have hp := hp.kept HQ.out
          rw [Int.toNat_natCast] at hp
          have hl : l = (pieceN xs c j).length := by
            obtain ⟨y', d', e⟩ := hp.shape
            injection e
          have hnl : nL2 = nA - c * j := by rw [← HNL.out, HD.out, List.length_drop, HNA.out]
          have hpos : ¬ nL2 = 0 := by have := HNA.out; omega
          obtain ⟨s2, hs2⟩ : ∃ s, min c nL2 = s := ⟨_, rfl⟩
          have hpc := piece_cut xs ls c j s2 nL2 HD.out HNL.out hpos (by omega) hs2
          have hls : l = s2 := by rw [hl, piece_len, HNA.out, ← hnl]; exact hs2
          subst hls
          have hmin : min (c : Int) (nL2 : Int) = (l : Int) := by omega
          have hl1 : 0 < l ∧ l ≤ nL2 := by omega
          obtain ⟨ph, dh, cutH, BH⟩ := HS.out.cutH l (by rw [HNL.out]; exact hl1.2)
          obtain ⟨pc, dc, cutL, BL⟩ := HS.out.cutL l (by rw [HNL.out]; exact hl1.2)
          rw [HNL.out] at cutL BL
          rw [hpc.1] at BH
          rw [hpc.2.1] at BL
          have BH := hid BH
          have BL := hid BL
          have HP := hid hp
          rcases HROW.out with ⟨_, e0⟩ | ⟨bg, og, cg, e1, hcc, hmm, hcell⟩
          · exfalso
            rw [e0] at HKE
            have := HKE.out
            rw [List.length_nil] at this
            omega
          rw [HKE.out] at e1 hcc hcell
          injection e1 with e1 _ e2
          subst e1 e2
          have hc0 := hcell j hlt 0 (svE (y, (l, d))) (by rw [hx]; rfl)
          have c1 : wr.cell? ⟨bg, og + j, none⟩ = some (.slice y l d) := by
            have := HQ.out.cell hc0 (fun h => h)
            simpa using this
          have HPL : Hid ((pieceN xs c j).length = l) := hid hl.symm
          have hjk : ¬ (j : Int) ≥ (k : Int) := by omega
          have hn1 : ¬ (c : Int) < 1 := by omega
          have hl2 : (l : Int) ≠ 0 := by omega
          have hnn := HN.out
          have hb5 := HK5.out
          have HL1 := hid hl1
          have hbn : nL2 ≤ 200 := by have := HBD.out; omega
          clear hc0 hcell hcc hmm hp hl hx hpc hs2 hpos hcj hnl
          go_wp2_with fail
          refine (rsm_any _ _ _ _ wr HP.out BH.out (by rw [HPL.out]; have := HL1.out; omega)).mono ?_
          rintro r w8 ⟨rfl, k8⟩
          rw [decide_eq_true rfl]
          have BL := hid (BL.out.kept k8)
          have HQ := hid (HQ.out.trans k8 (fun _ _ h => h))
          clear k8 HP BH cutH c1
          go_wp2
          go_roundw
          case rel => exact ⟨j + 1, _, by omega, by go_num, hid (by rw [Int.toNat_natCast]), BL, HQ⟩
          case measure => simp [intOf]; omega
        · obtain rfl : K = j := by omega
          have KQ := hid (K7.out.trans HQ.out (fun _ _ h => h))
          have hK5 := HK5.out
          clear HQ HS
          by_cases h1 : n < 1
          · go_wp2
            go_ret
            exact ⟨rfl, KQ.out⟩
          · by_cases h2 : nL2 = 0
            · subst h2
              go_wp2
              go_ret
              exact ⟨rfl, KQ.out⟩
            · have h3 : K = k := by
                rcases HEND.out with h | ⟨-, h⟩
                · exact h
                · exfalso
                  refine h ⟨by omega, ?_⟩
                  have h4 := HNL.out
                  rw [HD.out, List.length_drop] at h4
                  omega
              subst h3
              have h4 : (nL2 : Int) ≠ 0 := by omega
              go_wp2
              go_ret
              exact ⟨rfl, KQ.out⟩

end Go.Proofs.Ytijlmfmpfjjlpaa
