/-
  Layer 15: the law BloomTells where there may be so many bits. Condition: a case as its kind holds it.
  PROVED: 'BloomTellsSaid': whatever the case (bits, a most, two lists of marks, a mark, bytes), BloomTells returns true and the input reads as it did. No condition.
-/
import Derived.Test.YtpgiinogfmhfiaaPkT
import Derived.Test.YtpgiinogfmhfiaaRows
import Derived.Test.YtpgiinogfmhfiaaPkD
namespace Go.Proofs.Ytpgiinogfmhfiaa
open Go.RowKit

theorem flatR_nil' : flatR markL [] = [] := rfl
theorem old_set2T {L : Nat → Bool} {i i2 : Nat} {l l' : List Value} (u u2 : Value) (hL : L i = false) (hL2 : L i2 = false) (h : l' = (l.set i u).set i2 u2) : ∀ j, L j = true → l'.getD j undef = l.getD j undef := by
  intro j hj
  subst h
  have hn : i ≠ j := by rintro rfl; rw [hL] at hj; cases hj
  have hn2 : i2 ≠ j := by rintro rfl; rw [hL2] at hj; cases hj
  rw [List.getD_eq_getElem?_getD, List.getD_eq_getElem?_getD, List.getElem?_set_ne hn2, List.getElem?_set_ne hn]
def CnR (w7 : World) (X : List Int) (s : Nat) (c i : Value) (wr : World) : Prop := ∃ k : Nat, k ≤ s ∧ c = .int .i64 ((bitsN X k).count true : Nat) ∧ i = .int .i64 k ∧ w7 = wr
def AtR (w9 : World) (X : List Int) (mt : List (List Int)) (K Nt : Nat) (a i : Value) (wr : World) : Prop := ∃ k : Nat, k ≤ Nt ∧ a = .int .i64 (atK X mt K k : Nat) ∧ i = .int .i64 k ∧ Hid (Kp Nb w9 wr)
set_option maxRecDepth 100000 in
set_option maxHeartbeats 32000000 in
theorem ltells_yes (cs : List Value) (t : Nat) (n1 : Int) (vA vB : Value) (ms mt : List (List Int)) (mm : List Int) (w : World) (hc0 : cs[0]? = some (.int .i64 ((8 * t : Nat) : Int))) (hc1 : cs[1]? = some (.int .i64 n1)) (hc2 : cs[2]? = some vA) (hc3 : cs[3]? = some vB) (hcm : (cs.drop 4).take 16 = markL mm) (hmm : MarkOk mm) (hA : MkSl w vA ms) (hB : MkSl w vB mt) (t0 : 8 ≤ t) (t1 : t ≤ 1024) :
    Calls Try.prog 3 #[.agg cs.toArray] w fun e w' => e = .returned (.bool true) ∧ Kp Nb w w' := by
  obtain ⟨yA, dA, rfl⟩ := hA.shape
  obtain ⟨yB, dB, rfl⟩ := hB.shape
  obtain ⟨N, hN⟩ : ∃ N, ms.length = N := ⟨_, rfl⟩
  obtain ⟨Nt, hNt⟩ : ∃ N, mt.length = N := ⟨_, rfl⟩
  obtain ⟨s, hs⟩ : ∃ s, 8 * t = s := ⟨_, rfl⟩
  rw [hs] at hc0
  rw [hN] at hc2 hA
  rw [hNt] at hc3 hB
  have HNM := hid hN
  have HNT := hid hNt
  have HT : Hid (8 ≤ t ∧ t ≤ 1024 ∧ 8 * t = s) := hid ⟨t0, t1, hs⟩
  have CN : Hid (∀ w, Calls Try.prog 8 #[.int .i64 (s : Int)] w fun e w' => ∃ B C, e = .returned (.tuple #[.pointer (some ⟨B, 0, none⟩), .int .i64 0]) ∧ FlAt w' B C (zerosL t) ∧ w.heap.size ≤ B ∧ w.heap.size ≤ C ∧ Kp Nb w w') := hid (fun w => by rw [← hs]; exact lnew_yes t w t0 t1)
  have CRF : Hid (∀ w, Calls Try.prog 9 #[.int .i64 (s : Int)] w fun e w' => e = .returned (.bool true) ∧ w = w') := hid (fun w => by rw [← hs, ← fitL_8 t t0 t1]; exact rfits15_any _ w (by omega) (by omega))
  have CFI : Hid (∀ w, Calls Try.prog 13 #[.int .i64 (s : Int)] w fun e w' => e = .returned (.bool true) ∧ w = w') := hid (fun w => by rw [← hs, ← fitL_8 t t0 t1]; exact lfits_any _ w (by omega) (by omega))
  obtain ⟨D, hD⟩ : ∃ D, w.heap.size = D := ⟨_, rfl⟩
  obtain ⟨W, hW⟩ : ∃ W, W = w.alloc (.cells cs.toArray 27) := ⟨_, rfl⟩
  have H0 : Hid (Blk W D 27 cs) := hid (by rw [hW, ← hD]; exact Blk.new w _ _)
  have k0 : Kp Nb w W := by rw [hW]; exact (Kp.refl Nb w).alloc _
  have K0 := hid k0
  have HA0 := hid (hA.kept k0)
  have HB0 := hid (hB.kept k0)
  have HC0 := hid hc0
  have HC1 := hid hc1
  have HC2 := hid hc2
  have HC3 := hid hc3
  have HCM := hid hcm
  have OM := hid hmm
  clear hA hB k0 hN hNt hc0 hc1 hc2 hc3 hcm hmm hs t0 t1
  go_enter Try.func3, Try.ntmps3
  go_upto_region 1 with fail
  rw [show w.alloc (.cells cs.toArray 27) = W from hW.symm]
  clear hW hD
  go_wp2_with fail
  refine (lfirst_any _).mono ?_
  rintro e w1 ⟨rfl, k1⟩
  have H1 := hid (H0.out.kept k1 (fun h => h))
  have HA1 := hid (HA0.out.kept k1)
  have HB1 := hid (HB0.out.kept k1)
  have K1 := hid (K0.out.trans k1 (fun _ _ h => h))
  have c0 : w1.cell? ⟨D, 0, none⟩ = some (.int .i64 (s : Int)) := (H1.out.cell 0).trans HC0.out
  have c2 : w1.cell? ⟨D, 2, none⟩ = some (.slice yA N dA) := (H1.out.cell 2).trans HC2.out
  have c3 : w1.cell? ⟨D, 3, none⟩ = some (.slice yB Nt dB) := (H1.out.cell 3).trans HC3.out
  clear k1 H0 HA0 HB0 K0
  by_cases hl : 60 < N
  · have d1 : decide ((N : Int) > 60) = true := decide_eq_true (by omega)
    go_wp2
    go_ret
    exact ⟨rfl, K1.out⟩
  have d1 : decide ((N : Int) > 60) = false := decide_eq_false (by omega)
  have HN60 : Hid (N ≤ 60) := hid (by omega)
  clear hl
  by_cases hl : 60 < Nt
  · have d2 : decide ((Nt : Int) > 60) = true := decide_eq_true (by omega)
    go_wp2
    go_ret
    exact ⟨rfl, K1.out⟩
  have d2 : decide ((Nt : Int) > 60) = false := decide_eq_false (by omega)
  have HNT60 : Hid (Nt ≤ 60) := hid (by omega)
  clear hl
  go_wp2_with fail
  refine (CN.out _).mono ?_
  rintro e w2 ⟨B1, C1, rfl, f1, l1, l2, k2⟩
  have F1 := hid f1
  have H2 := hid (H1.out.kept k2 (fun h => h))
  have K12 := hid k2
  have L1 := hid (show w1.heap.size ≤ B1 ∧ w1.heap.size ≤ C1 ∧ B1 < w2.heap.size ∧ C1 < w2.heap.size ∧ D < w1.heap.size from ⟨l1, l2, f1.lt.1, f1.lt.2, H1.out.lt⟩)
  have c0 : w2.cell? ⟨D, 0, none⟩ = some (.int .i64 (s : Int)) := (H2.out.cell 0).trans HC0.out
  clear f1 l1 l2 k2 c2 c3 d1 d2
  go_wp2_with fail
  refine (CRF.out _).mono ?_
  rintro e w2' ⟨rfl, rfl⟩
  go_wp2_with fail
  refine (CN.out _).mono ?_
  rintro e w3 ⟨B2, C2, rfl, f2, l1, l2, k3⟩
  have F1' := hid (F1.out.kept k3 (fun h => h) (fun h => h))
  have F2 := hid f2
  have H3 := hid (H2.out.kept k3 (fun h => h))
  have K13 : Hid (Kp Nb w1 w3) := hid (K12.out.trans k3 (fun _ _ h => h))
  have L2 := hid (show w2.heap.size ≤ B2 ∧ w2.heap.size ≤ C2 ∧ B2 < w3.heap.size ∧ C2 < w3.heap.size from ⟨l1, l2, f2.lt.1, f2.lt.2⟩)
  have HA3 := hid (HA1.out.kept K13.out)
  have c2 : w3.cell? ⟨D, 2, none⟩ = some (.slice yA N dA) := (H3.out.cell 2).trans HC2.out
  obtain ⟨zs, hzs⟩ : ∃ z, zerosL t = z := ⟨_, rfl⟩
  rw [hzs] at F1' F2
  have HZS := hid hzs
  have HZB : Hid (IsBytes zs) := hid F2.out.ok
  have HZL : Hid (zs.length = t) := hid (by rw [← hzs]; exact List.length_replicate)
  have S0 : Hid (FlAt w3 B1 C1 (addsL zs (ms.take 0))) := hid (by rw [List.take_zero]; exact F1'.out)
  have T0 : Hid (Kp (Jb C1) w3 w3) := hid (Kp.refl _ _)
  have LL : Hid (B1 ≠ C2 ∧ C1 ≠ C2 ∧ C1 ≠ B2) := hid (by have := L1.out; have := L2.out; omega)
  have TC : Hid (∀ i, i < w1.heap.size → ¬ (i = C1 ∨ i = C2)) := hid (fun i hi h => by have := L1.out; have := L2.out; omega)
  have W13 : Hid (w1.heap.size ≤ w3.heap.size ∧ w.heap.size ≤ w1.heap.size) := hid ⟨K13.out.size, K1.out.size⟩
  clear hzs f2 l1 l2 k3 F1 c0 H2 K12 F1' H3
  go_wp2
  go_loopw [130] (HoR w3 B1 C1 zs ms N) (fun i _ => N - (intOf i).toNat)
  case atStart => exact ⟨0, Nat.zero_le _, rfl, S0, T0⟩
  case round =>
    clear S0 T0
    obtain ⟨k, hk, rfl, HO, KO⟩ := hrel
    by_cases hlt : k < N
    · rcases HA1.out.2 with ⟨_, e0⟩ | ⟨blk, off, cap, e1, hc, hm, hcell⟩
      · have := HNM.out; rw [e0] at this; simp at this; omega
      injection e1 with e1 e7 e2
      subst e1 e2
      clear e7
      rw [HNM.out] at hc
      unfold maxLen at hm
      have R1 := hid (hcell k (by rw [HNM.out]; exact hlt))
      have OX := hid (HA1.out.1 k)
      have HX1 : Hid (addsL zs (ms.take (k + 1)) = addL (addsL zs (ms.take k)) (markAt ms k)) := hid (by
        have hkl : k < ms.length := by rw [HNM.out]; exact hlt
        rw [List.take_succ_eq_append_getElem hkl, addsL_snoc]
        unfold markAt
        rw [List.getElem?_eq_getElem hkl]
        rfl)
      generalize markAt ms k = x at R1 OX HX1
      have MX := hid (mark_infoL x OX.out.len)
      obtain ⟨M5, hM5⟩ : ∃ N, wr.heap.size = N := ⟨_, rfl⟩
      obtain ⟨W5, hW5⟩ : ∃ W, W = (wr.alloc (.cells #[.int .u8 0, .int .u8 0, .int .u8 0, .int .u8 0, .int .u8 0, .int .u8 0, .int .u8 0, .int .u8 0, .int .u8 0, .int .u8 0, .int .u8 0, .int .u8 0, .int .u8 0, .int .u8 0, .int .u8 0, .int .u8 0] 24)).setCells M5 0 (markL x) := ⟨_, rfl⟩
      obtain ⟨d5, k5, th⟩ := fresh_mark x OX.out.len hM5 hW5
      have D5 := hid d5
      have TH := hid th
      have SI : Hid ((Try.prog.info? 24).map (·.size) = some (markL x).toArray.size) := hid (by rw [List.size_toArray]; exact mark_infoL x OX.out.len)
      have ON : Hid ((markL x).toArray.all (·.oneCell') = true) := hid (all_oneCell_toArray (markL_one' x))
      have HLT := hid hlt
      have F15 := hid (HO.out.kept k5 (fun h => h) (fun h => h))
      have K5 : Hid (Kp (Jb C1) w3 W5) := hid (KO.out.trans k5 (fun _ _ h => h.elim))
      have R1r := hid (rng_keptT R1.out ((K13.out.mono (S' := fun b => b = C1 ∨ b = C2) (fun _ _ h => h.elim)).trans KO.out (fun _ _ h => Or.inl h)) TC.out)
      clear hcell k5 HO d5 th KO
      go_upto_region 15 with (first
        | (refine wpList_load_mid (by rfl) 24 (.tmp 132) (by rfl) blk (off + k * 16) (by rfl) (markL x) _ R1r.out under_mark rfl MX.out ?_)
        | (refine wpList_store_mid (by rfl) 24 (.tmp 12) (.tmp 133) (by rfl) M5 0 (markL x).toArray (by rfl) (by rfl) TH.out SI.out ON.out ?_))
      rw [show (wr.alloc (.cells #[.int .u8 0, .int .u8 0, .int .u8 0, .int .u8 0, .int .u8 0, .int .u8 0, .int .u8 0, .int .u8 0, .int .u8 0, .int .u8 0, .int .u8 0, .int .u8 0, .int .u8 0, .int .u8 0, .int .u8 0, .int .u8 0] 24)).setCells M5 0 (markL x) = W5 from hW5.symm]
      clear hW5 hM5
      have D5r := hid (range_of D5.out)
      go_wp2_with (refine wpList_load_mid (by rfl) 24 (.tmp 12) (by rfl) M5 0 (by rfl) (markL x) _ D5r.out under_mark rfl MX.out ?_)
      refine (ladd_any B1 C1 _ x _ F15.out OX.out).mono ?_
      rintro e w6 ⟨rfl, f6, k6⟩
      have F16 : Hid (FlAt w6 B1 C1 (addsL zs (ms.take (k + 1)))) := hid (by rw [HX1.out]; exact f6)
      have K6 : Hid (Kp (Jb C1) w3 w6) := hid (K5.out.trans k6 (fun _ _ h => h))
      clear f6 k6 F15 K5 D5 D5r
      go_wp2
      go_roundw
      case rel => exact ⟨k + 1, HLT.out, by go_num, F16, K6⟩
      case measure => have := HLT.out; simp [intOf]; omega
    · obtain rfl : N = k := by omega
      have htk : ms.take N = ms := List.take_of_length_le (by rw [HNM.out]; exact Nat.le_refl _)
      have HFR := HO.out
      rw [htk] at HFR
      have HF1 := hid HFR
      have K13r : Hid (Kp (fun b => b = C1 ∨ b = C2) w1 wr) := hid ((K13.out.mono (fun _ _ h => h.elim)).trans KO.out (fun _ _ h => Or.inl h))
      have F2r := hid (F2.out.kept KO.out (fun h => LL.out.2.2 h.symm) (fun h => LL.out.2.1 h.symm))
      have H4 := hid (H1.out.kept K13r.out (TC.out D L1.out.2.2.2.2))
      have HB4 := hid (HB1.out.keptT K13r.out TC.out)
      have c3 : wr.cell? ⟨D, 3, none⟩ = some (.slice yB Nt dB) := (H4.out.cell 3).trans HC3.out
      have S0 : Hid (FlAt wr B2 C2 (addsL zs (mt.take 0))) := hid (by rw [List.take_zero]; exact F2r.out)
      have T0 : Hid (Kp (Jb C2) wr wr) := hid (Kp.refl _ _)
      have LR : Hid (w3.heap.size ≤ wr.heap.size) := hid KO.out.size
      clear htk HFR HO KO F2 F2r c2 HA3 H4
      obtain ⟨wA, hwA⟩ : ∃ W, W = wr := ⟨_, rfl⟩
      subst hwA
      go_wp2
      go_loopw [141] (HoR wA B2 C2 zs mt Nt) (fun i _ => Nt - (intOf i).toNat)
      case atStart => exact ⟨0, Nat.zero_le _, rfl, S0, T0⟩
      case round =>
        clear S0 T0
        obtain ⟨k, hk, rfl, HO, KO⟩ := hrel
        by_cases hlt : k < Nt
        · rcases HB1.out.2 with ⟨_, e0⟩ | ⟨blk, off, cap, e1, hc, hm, hcell⟩
          · have := HNT.out; rw [e0] at this; simp at this; omega
          injection e1 with e1 e7 e2
          subst e1 e2
          clear e7
          rw [HNT.out] at hc
          unfold maxLen at hm
          have R1 := hid (hcell k (by rw [HNT.out]; exact hlt))
          have OX := hid (HB1.out.1 k)
          have HX1 : Hid (addsL zs (mt.take (k + 1)) = addL (addsL zs (mt.take k)) (markAt mt k)) := hid (by
            have hkl : k < mt.length := by rw [HNT.out]; exact hlt
            rw [List.take_succ_eq_append_getElem hkl, addsL_snoc]
            unfold markAt
            rw [List.getElem?_eq_getElem hkl]
            rfl)
          generalize markAt mt k = x at R1 OX HX1
          have MX := hid (mark_infoL x OX.out.len)
          obtain ⟨M5, hM5⟩ : ∃ N, wr.heap.size = N := ⟨_, rfl⟩
          obtain ⟨W5, hW5⟩ : ∃ W, W = (wr.alloc (.cells #[.int .u8 0, .int .u8 0, .int .u8 0, .int .u8 0, .int .u8 0, .int .u8 0, .int .u8 0, .int .u8 0, .int .u8 0, .int .u8 0, .int .u8 0, .int .u8 0, .int .u8 0, .int .u8 0, .int .u8 0, .int .u8 0] 24)).setCells M5 0 (markL x) := ⟨_, rfl⟩
          obtain ⟨d5, k5, th⟩ := fresh_mark x OX.out.len hM5 hW5
          have D5 := hid d5
          have TH := hid th
          have SI : Hid ((Try.prog.info? 24).map (·.size) = some (markL x).toArray.size) := hid (by rw [List.size_toArray]; exact mark_infoL x OX.out.len)
          have ON : Hid ((markL x).toArray.all (·.oneCell') = true) := hid (all_oneCell_toArray (markL_one' x))
          have HLT := hid hlt
          have F15 := hid (HO.out.kept k5 (fun h => h) (fun h => h))
          have K5 : Hid (Kp (Jb C2) wA W5) := hid (KO.out.trans k5 (fun _ _ h => h.elim))
          have R1r := hid (rng_keptT R1.out (K13r.out.trans KO.out (fun _ _ h => Or.inr h)) TC.out)
          clear hcell k5 HO d5 th KO
          go_upto_region 20 with (first
            | (refine wpList_load_mid (by rfl) 24 (.tmp 143) (by rfl) blk (off + k * 16) (by rfl) (markL x) _ R1r.out under_mark rfl MX.out ?_)
            | (refine wpList_store_mid (by rfl) 24 (.tmp 14) (.tmp 144) (by rfl) M5 0 (markL x).toArray (by rfl) (by rfl) TH.out SI.out ON.out ?_))
          rw [show (wr.alloc (.cells #[.int .u8 0, .int .u8 0, .int .u8 0, .int .u8 0, .int .u8 0, .int .u8 0, .int .u8 0, .int .u8 0, .int .u8 0, .int .u8 0, .int .u8 0, .int .u8 0, .int .u8 0, .int .u8 0, .int .u8 0, .int .u8 0] 24)).setCells M5 0 (markL x) = W5 from hW5.symm]
          clear hW5 hM5
          have D5r := hid (range_of D5.out)
          go_wp2_with (refine wpList_load_mid (by rfl) 24 (.tmp 14) (by rfl) M5 0 (by rfl) (markL x) _ D5r.out under_mark rfl MX.out ?_)
          refine (ladd_any B2 C2 _ x _ F15.out OX.out).mono ?_
          rintro e w6 ⟨rfl, f6, k6⟩
          have F16 : Hid (FlAt w6 B2 C2 (addsL zs (mt.take (k + 1)))) := hid (by rw [HX1.out]; exact f6)
          have K6 : Hid (Kp (Jb C2) wA w6) := hid (K5.out.trans k6 (fun _ _ h => h))
          clear f6 k6 F15 K5 D5 D5r
          go_wp2
          go_roundw
          case rel => exact ⟨k + 1, HLT.out, by go_num, F16, K6⟩
          case measure => have := HLT.out; simp [intOf]; omega
        · obtain rfl : Nt = k := by omega
          have htk : mt.take Nt = mt := List.take_of_length_le (by rw [HNT.out]; exact Nat.le_refl _)
          have h0 : 0 < zs.length := by rw [HZL.out]; have := HT.out; omega
          have HFR := HO.out
          rw [htk] at HFR
          have HF2 := hid HFR
          have HF1b := hid (HF1.out.kept KO.out (fun h => LL.out.1 h) (fun h => LL.out.2.1 h))
          have K1b : Hid (Kp (fun b => b = C1 ∨ b = C2) w1 wr) := hid (K13r.out.trans KO.out (fun _ _ h => Or.inr h))
          have HUA := hid (union_all HZB.out h0 ms mt)
          obtain ⟨X, hX⟩ : ∃ x, addsL zs ms = x := ⟨_, rfl⟩
          obtain ⟨Y, hY⟩ : ∃ x, addsL zs mt = x := ⟨_, rfl⟩
          obtain ⟨U, hU⟩ : ∃ x, addsL zs (ms ++ mt) = x := ⟨_, rfl⟩
          rw [hX] at HF1b
          rw [hY] at HF2
          rw [hX, hY, hU] at HUA
          have HXL : Hid (X.length = t) := hid (by rw [← hX, addsL_len]; exact HZL.out)
          have HYL : Hid (Y.length = t) := hid (by rw [← hY, addsL_len]; exact HZL.out)
          have HUL : Hid (U.length = t) := hid (by rw [← hU, addsL_len]; exact HZL.out)
          have HXB : Hid (IsBytes X) := hid (by rw [← hX]; exact addsL_bytes HZB.out _)
          have HUB : Hid (IsBytes U) := hid (by rw [← hU]; exact addsL_bytes HZB.out _)
          have HXS := hid hX
          have HUS := hid hU
          clear htk h0 HFR hX hY hU HO KO HF1 K13r HB4 c3
          go_wp2_with fail
          refine (lunion_yes B1 C1 B2 C2 X Y _ HF1b.out HF2.out (by rw [HXL.out, HYL.out])).mono ?_
          rintro e w5 ⟨B3, C3, rfl, f5, l1, l2, k5⟩
          have F35 : Hid (FlAt w5 B3 C3 U) := hid (by rw [← HUA.out]; exact f5)
          have F15 := hid (HF1b.out.kept k5 (fun h => h) (fun h => h))
          have K15 : Hid (Kp (fun b => b = C1 ∨ b = C2) w1 w5) := hid (K1b.out.trans k5 (fun _ _ h => h.elim))
          have KW5 : Hid (Kp Nb w w5) := hid (K1.out.trans K15.out (fun i hi h => TC.out i (Nat.lt_of_lt_of_le hi W13.out.2) h))
          have H5 := hid (H1.out.kept K15.out (TC.out D L1.out.2.2.2.2))
          have HA5 := hid (HA1.out.keptT K15.out TC.out)
          have HB5 := hid (HB1.out.keptT K15.out TC.out)
          have CS1 : Hid (∀ wq, Kp Nb w5 wq → Calls Try.prog 19 #[.int .i64 (s : Int), .slice yA N dA] wq fun e w' => ∃ C, e = .returned (.slice (some ⟨C, 0, none⟩) s s) ∧ Blk w' C 4 (bvL (bitsL X)) ∧ wq.heap.size ≤ C ∧ Kp Nb wq w') := hid (fun wq kq => by
            have h := rset15_any t _ ms wq (HA5.out.kept kq) (by have := HN60.out; have := HNM.out; omega) HT.out.1 HT.out.2.1
            rw [HT.out.2.2, HZS.out, HXS.out] at h
            exact h)
          have CS2 : Hid (∀ v wq, MkSl wq v (ms ++ mt) → Calls Try.prog 19 #[.int .i64 (s : Int), v] wq fun e w' => ∃ C, e = .returned (.slice (some ⟨C, 0, none⟩) s s) ∧ Blk w' C 4 (bvL (bitsL U)) ∧ wq.heap.size ≤ C ∧ Kp Nb wq w') := hid (fun v wq hv => by
            have h := rset15_any t v (ms ++ mt) wq hv (by rw [List.length_append]; have := HN60.out; have := HNM.out; have := HNT60.out; have := HNT.out; omega) HT.out.1 HT.out.2.1
            rw [HT.out.2.2, HZS.out, HUS.out] at h
            exact h)
          clear f5 l1 l2 k5 HF1b HF2 K1b K15 H1 HA1 HB1 K1 HUA
          go_upto_region 23 with fail
          refine region_ghost (g0 := ((undef, undef, undef, undef, undef) : Value × Value × Value × Value × Value)) [none, none, none, none, none, none, none, none, none, none, none, none, none, none, none, none, none, some 15, some 16, none, none, none, none, none, none, none, none, none, none, none, none, none, none, none, none, none, none, none, none, none, none, none, none, none, none, none, none, none, none, none, none, none, none, none, none, none, none, none, none, none, none, none, none, none, none, none, none, none, none, none, none, none, none, none, none, none, none, none, none, none, none, none, none, none, none, none, none, none, none, none, none, none, none, none, none, none, none, none, none, none, none, none, none, none, none, none, none, none, none, none, none, none, none, none, none, none, none, none, none, none, none, none, none, none, none, none, none, none, none, none, none, none, none, none, none, none, none, none, none, none, none, none, none, none, none, none, none, none, none, none, none, none, none, none, none, some 0, some 1, some 2, some 3, some 4, some 5, some 6, some 7, some 8, some 9, some 10, some 11, some 12, some 13, some 14, none, none, none, none, none, none, none, none, none, none, none, none, none, none, none, none, none, none, none, none, none, none, none, none, none, none, none, none, none, none, none, none, none, none, none, none, none, none, none, none, none, none, none, none, none, none, none, none, none, none, none, none, none, none, none, none, none, none, none, none, none, none, none, none, none, none, none, none, none, none, none, none, none, none, none, none, none, none, none, none, none, none, none, none, none, none, none, none, none, none, none, none, none, none, none, none, none, none, none, none, none, none, none, none, none, none, none, none, none, none, none, none, none, none, none, none, none, none, none, none, none, none, none, none, none, none, none, none, none, none, none, none, none, none, none, none, none, none, none, none, none, none, none, none, none, none, none, none, none, none, none, none, none, none, none, none, none, none] [[(1, none)], [(155, some 0)], [(1, none)], [(157, some 2)], [(156, some 1), (158, some 3)], [(1, none)], [(160, some 5)], [], [(1, none)], [(163, some 8)], [(162, some 7), (164, some 9)], [(1, none)], [(166, some 11)], [(165, some 10), (167, some 12)], [(161, some 6), (168, some 13)], [(159, some 4)], [(169, some 14)]] [some 155, some 156, some 157, some 158, some 159, some 160, some 161, some 162, some 163, some 164, some 165, some 166, some 167, some 168, some 169, some 17, some 18] (fun g => [.pointer (some ⟨D, 0, none⟩), .int .i64 (s : Int), .pointer (some ⟨D, 2, none⟩), .slice yA N dA, g.1, .pointer (some ⟨D, 0, none⟩), .int .i64 (s : Int), g.2.1, .pointer (some ⟨D, 2, none⟩), .slice yA N dA, g.2.2.1, .pointer (some ⟨D, 3, none⟩), .slice yB Nt dB, g.2.2.2.1, g.2.2.2.2, g.1, g.2.2.2.2]) [4, 7, 10, 13, 14] (fun bs g wq => Hid (TsS w5 s X U ms mt bs g wq)) (by kernel_rfl) (by kernel_rfl) (fun g => by kernel_rfl) (by kernel_rfl) ?hS (GFrom.all (n := 17) (by kernel_rfl) ?hstep) ?hend
          case hstep =>
            refine GFrom.cons (GStep.val _ rfl rfl _ rfl (fun g => .pointer (some ⟨D, 0, none⟩)) (fun _ => rfl) (fun _ => trivial) (fun bs g ev wq hS he hr => ?_)) ?_
            · have r0 : ev (.tmp 1) = .pointer (some ⟨D, 0, none⟩) := hr (1, none) (by simp); have hk := he.1; clear hr he
              go_simp
            refine GFrom.cons (GStep.val _ rfl rfl _ rfl (fun g => .int .i64 (s : Int)) (fun _ => rfl) (fun _ => trivial) (fun bs g ev wq hS he hr => ?_)) ?_
            · have r0 : ev (.tmp 155) = .pointer (some ⟨D, 0, none⟩) := hr (155, some 0) (by simp); have hk := he.1; clear hr he
              have c0 := ((H5.out.kept hS.out.kp (fun h => h)).cell 0).trans HC0.out
              go_simp
            refine GFrom.cons (GStep.val _ rfl rfl _ rfl (fun g => .pointer (some ⟨D, 2, none⟩)) (fun _ => rfl) (fun _ => trivial) (fun bs g ev wq hS he hr => ?_)) ?_
            · have r0 : ev (.tmp 1) = .pointer (some ⟨D, 0, none⟩) := hr (1, none) (by simp); have hk := he.1; clear hr he
              go_simp
            refine GFrom.cons (GStep.val _ rfl rfl _ rfl (fun g => .slice yA N dA) (fun _ => rfl) (fun _ => trivial) (fun bs g ev wq hS he hr => ?_)) ?_
            · have r0 : ev (.tmp 157) = .pointer (some ⟨D, 2, none⟩) := hr (157, some 2) (by simp); have hk := he.1; clear hr he
              have c0 := ((H5.out.kept hS.out.kp (fun h => h)).cell 2).trans HC2.out
              go_simp
            refine GFrom.cons (GStep.callm _ rfl _ rfl (fun _ => trivial) 19 (fun g => #[.int .i64 (s : Int), .slice yA N dA]) (fun bs g ev wq hS he hr => ?_) (fun L g wq hL hd hcl hS => ?_)) ?_
            · have r0 : ev (.tmp 156) = .int .i64 (s : Int) := hr (156, some 1) (by simp); have r1 : ev (.tmp 158) = .slice yA N dA := hr (158, some 3) (by simp); have hk := he.1; have hf := he.2; clear hr he
              go_simp
            · have l15 : L 15 = false := by cases h : L 15 with | false => rfl | true => (have := hcl 15 _ rfl h 4 (by kernel_rfl); rw [hL] at this; cases this)
              have e : bitsAt [4, 7, 10, 13, 14] L = [false, L 7, L 10, L 13, L 14] := by simp [bitsAt, hL]
              have e2 : bitsAt [4, 7, 10, 13, 14] (upd L 4) = [true, L 7, L 10, L 13, L 14] := by simp [bitsAt, upd]
              rw [e] at hS
              refine (CS1.out wq hS.out.kp).mono ?_
              rintro e w' ⟨Cq, rfl, hb, -, kn⟩
              exact ⟨_, (.slice (some ⟨Cq, 0, none⟩) s s, g.2), rfl, rfl, old_set2T (.slice (some ⟨Cq, 0, none⟩) s s) (.slice (some ⟨Cq, 0, none⟩) s s) hL l15 rfl, by rw [e2]; exact hid (hS.out.set1 kn Cq hb)⟩
            refine GFrom.cons (GStep.val _ rfl rfl _ rfl (fun g => .pointer (some ⟨D, 0, none⟩)) (fun _ => rfl) (fun _ => trivial) (fun bs g ev wq hS he hr => ?_)) ?_
            · have r0 : ev (.tmp 1) = .pointer (some ⟨D, 0, none⟩) := hr (1, none) (by simp); have hk := he.1; clear hr he
              go_simp
            refine GFrom.cons (GStep.val _ rfl rfl _ rfl (fun g => .int .i64 (s : Int)) (fun _ => rfl) (fun _ => trivial) (fun bs g ev wq hS he hr => ?_)) ?_
            · have r0 : ev (.tmp 160) = .pointer (some ⟨D, 0, none⟩) := hr (160, some 5) (by simp); have hk := he.1; clear hr he
              have c0 := ((H5.out.kept hS.out.kp (fun h => h)).cell 0).trans HC0.out
              go_simp
            refine GFrom.cons (GStep.make _ rfl _ rfl (fun _ => trivial) (fun L g ev wq hL hd hcl hS he hr => ?_)) ?_
            · clear hr he
              have e : bitsAt [4, 7, 10, 13, 14] L = [L 4, false, L 10, L 13, L 14] := by simp [bitsAt, hL]
              have e2 : bitsAt [4, 7, 10, 13, 14] (upd L 7) = [L 4, true, L 10, L 13, L 14] := by simp [bitsAt, upd]
              rw [e] at hS
              exact ⟨.slice (some ⟨wq.heap.size, 0, none⟩) 0 0, (g.1, .slice (some ⟨wq.heap.size, 0, none⟩) 0 0, g.2.2), _, exec_buildSliceB (qs := #[]) rfl (by simp) (make_none wq), rfl, old_set _ hL rfl, by rw [e2]; exact hid hS.out.make⟩
            refine GFrom.cons (GStep.val _ rfl rfl _ rfl (fun g => .pointer (some ⟨D, 2, none⟩)) (fun _ => rfl) (fun _ => trivial) (fun bs g ev wq hS he hr => ?_)) ?_
            · have r0 : ev (.tmp 1) = .pointer (some ⟨D, 0, none⟩) := hr (1, none) (by simp); have hk := he.1; clear hr he
              go_simp
            refine GFrom.cons (GStep.val _ rfl rfl _ rfl (fun g => .slice yA N dA) (fun _ => rfl) (fun _ => trivial) (fun bs g ev wq hS he hr => ?_)) ?_
            · have r0 : ev (.tmp 163) = .pointer (some ⟨D, 2, none⟩) := hr (163, some 8) (by simp); have hk := he.1; clear hr he
              have c0 := ((H5.out.kept hS.out.kp (fun h => h)).cell 2).trans HC2.out
              go_simp
            refine GFrom.cons (GStep.make _ rfl _ rfl (fun _ => trivial) (fun L g ev wq hL hd hcl hS he hr => ?_)) ?_
            · have r0 : ev (.tmp 162) = g.2.1 := hr (162, some 7) (by simp); have r1 : ev (.tmp 164) = .slice yA N dA := hr (164, some 9) (by simp); clear hr he
              have l7 : L 7 = true := hd 7 (by kernel_rfl)
              have l13 : L 13 = false := by cases h : L 13 with | false => rfl | true => (have := hcl 13 _ rfl h 10 (by kernel_rfl); rw [hL] at this; cases this)
              have l14 : L 14 = false := by cases h : L 14 with | false => rfl | true => (have := hcl 14 _ rfl h 13 (by kernel_rfl); rw [l13] at this; cases this)
              have e : bitsAt [4, 7, 10, 13, 14] L = [L 4, true, false, L 13, L 14] := by simp [bitsAt, hL, l7]
              have e2 : bitsAt [4, 7, 10, 13, 14] (upd L 10) = [L 4, true, true, L 13, L 14] := by simp [bitsAt, upd, l7]
              rw [e] at hS
              obtain ⟨v', w', hrun, ho, hg⟩ := app_marks (ms := []) (mt := ms) (ty := 22) (hS.out.m0 rfl rfl) (HA5.out.kept hS.out.kp) (by have := HN60.out; have := HNM.out; simp; omega) hS.out.kp.size
              simp only [List.length_nil, Nat.zero_add, flatR_nil', List.nil_append] at ho
              exact ⟨v', (g.1, g.2.1, v', g.2.2.2), w', exec_appendB rfl r0 r1 hrun, rfl, old_set _ hL rfl, by rw [e2]; exact hid (hS.out.put1 ho hg l13 l14)⟩
            refine GFrom.cons (GStep.val _ rfl rfl _ rfl (fun g => .pointer (some ⟨D, 3, none⟩)) (fun _ => rfl) (fun _ => trivial) (fun bs g ev wq hS he hr => ?_)) ?_
            · have r0 : ev (.tmp 1) = .pointer (some ⟨D, 0, none⟩) := hr (1, none) (by simp); have hk := he.1; clear hr he
              go_simp
            refine GFrom.cons (GStep.val _ rfl rfl _ rfl (fun g => .slice yB Nt dB) (fun _ => rfl) (fun _ => trivial) (fun bs g ev wq hS he hr => ?_)) ?_
            · have r0 : ev (.tmp 166) = .pointer (some ⟨D, 3, none⟩) := hr (166, some 11) (by simp); have hk := he.1; clear hr he
              have c0 := ((H5.out.kept hS.out.kp (fun h => h)).cell 3).trans HC3.out
              go_simp
            refine GFrom.cons (GStep.make _ rfl _ rfl (fun _ => trivial) (fun L g ev wq hL hd hcl hS he hr => ?_)) ?_
            · have r0 : ev (.tmp 165) = g.2.2.1 := hr (165, some 10) (by simp); have r1 : ev (.tmp 167) = .slice yB Nt dB := hr (167, some 12) (by simp); clear hr he
              have l10 : L 10 = true := hd 10 (by kernel_rfl)
              have l14 : L 14 = false := by cases h : L 14 with | false => rfl | true => (have := hcl 14 _ rfl h 13 (by kernel_rfl); rw [hL] at this; cases this)
              have e : bitsAt [4, 7, 10, 13, 14] L = [L 4, L 7, true, false, L 14] := by simp [bitsAt, hL, l10]
              have e2 : bitsAt [4, 7, 10, 13, 14] (upd L 13) = [L 4, L 7, true, true, L 14] := by simp [bitsAt, upd, l10]
              rw [e] at hS
              obtain ⟨v', w', hrun, ho, hg⟩ := app_marks (ms := ms) (mt := mt) (ty := 22) (hS.out.a1 rfl rfl) (HB5.out.kept hS.out.kp) (by have := HN60.out; have := HNM.out; have := HNT60.out; have := HNT.out; omega) hS.out.kp.size
              exact ⟨v', (g.1, g.2.1, g.2.2.1, v', g.2.2.2.2), w', exec_appendB rfl r0 r1 hrun, rfl, old_set _ hL rfl, by rw [e2]; exact hid (hS.out.put2 (mksl_two HA5.out.ok HB5.out.ok ho) hg l14)⟩
            refine GFrom.cons (GStep.callm _ rfl _ rfl (fun _ => trivial) 19 (fun g => #[.int .i64 (s : Int), g.2.2.2.1]) (fun bs g ev wq hS he hr => ?_) (fun L g wq hL hd hcl hS => ?_)) ?_
            · have r0 : ev (.tmp 161) = .int .i64 (s : Int) := hr (161, some 6) (by simp); have r1 : ev (.tmp 168) = g.2.2.2.1 := hr (168, some 13) (by simp); have hk := he.1; have hf := he.2; clear hr he
              go_simp
            · have l16 : L 16 = false := by cases h : L 16 with | false => rfl | true => (have := hcl 16 _ rfl h 14 (by kernel_rfl); rw [hL] at this; cases this)
              have l13 : L 13 = true := hd 13 (by kernel_rfl)
              have e : bitsAt [4, 7, 10, 13, 14] L = [L 4, L 7, L 10, true, false] := by simp [bitsAt, hL, l13]
              have e2 : bitsAt [4, 7, 10, 13, 14] (upd L 14) = [L 4, L 7, L 10, true, true] := by simp [bitsAt, upd, l13]
              rw [e] at hS
              refine (CS2.out _ wq (hS.out.a2 rfl)).mono ?_
              rintro e w' ⟨Cq, rfl, hb, -, kn⟩
              exact ⟨_, (g.1, g.2.1, g.2.2.1, g.2.2.2.1, .slice (some ⟨Cq, 0, none⟩) s s), rfl, rfl, old_set2T (.slice (some ⟨Cq, 0, none⟩) s s) (.slice (some ⟨Cq, 0, none⟩) s s) hL l16 rfl, by rw [e2]; exact hid (hS.out.set2 kn Cq hb)⟩
            refine GFrom.cons (GStep.val _ rfl rfl _ rfl (fun g => g.1) (fun _ => rfl) (fun _ => trivial) (fun bs g ev wq hS he hr => ?_)) ?_
            · have r0 : ev (.tmp 159) = g.1 := hr (159, some 4) (by simp); have hk := he.1; clear hr he
              go_simp
            refine GFrom.cons (GStep.val _ rfl rfl _ rfl (fun g => g.2.2.2.2) (fun _ => rfl) (fun _ => trivial) (fun bs g ev wq hS he hr => ?_)) ?_
            · have r0 : ev (.tmp 169) = g.2.2.2.2 := hr (169, some 14) (by simp); have hk := he.1; clear hr he
              go_simp
            exact GFrom.nil
          case hS => exact hid ⟨(Kp.refl Nb w5).drew, fun h => by simp at h, fun h => by simp at h, fun h => by simp at h, fun h => by simp at h, fun h => by simp at h⟩
          case hend =>
          intro g w7 h7
          have k7 := h7.out.kp
          obtain ⟨C4, g1, hb4⟩ := h7.out.s1 (by simp)
          obtain ⟨C5, g5, hb5⟩ := h7.out.s2 (by simp)
          obtain ⟨v1, v2, v3, v4, v5⟩ := g
          dsimp only at g1 g5
          subst g1 g5
          have K57 := hid k7
          have V17 : Hid (BoSl w7 (.slice (some ⟨C4, 0, none⟩) s s) X) := hid ⟨HXB.out, by rw [HXL.out]; exact ⟨HT.out.1, HT.out.2.1⟩, C4, s, [], by rw [HXL.out, HT.out.2.2], by rw [List.append_nil]; exact hb4, by rw [HXL.out, HT.out.2.2]; exact Nat.le_refl _, by unfold maxLen; have := HT.out; omega⟩
          have V18 : Hid (BoSl w7 (.slice (some ⟨C5, 0, none⟩) s s) U) := hid ⟨HUB.out, by rw [HUL.out]; exact ⟨HT.out.1, HT.out.2.1⟩, C5, s, [], by rw [HUL.out, HT.out.2.2], by rw [List.append_nil]; exact hb5, by rw [HUL.out, HT.out.2.2]; exact Nat.le_refl _, by unfold maxLen; have := HT.out; omega⟩
          have HB4 := hid hb4
          clear h7 k7 hb4 hb5 CS1 CS2
          simp only [putAll, List.zip_cons_cons, List.zip_nil_right, List.foldl_cons, List.foldl_nil, Act.put, List.setIfInBounds_toArray, List.set_cons_zero, List.set_cons_succ]
          have S0 : CnR w7 X s (.int .i64 0) (.int .i64 0) w7 := ⟨0, Nat.zero_le _, rfl, rfl, rfl⟩
          have hs9 : s ≤ 8192 := by have := HT.out; omega
          go_wp2
          go_loopw [19, 172] (CnR w7 X s) (fun _ i _ => s - (intOf i).toNat)
          case atStart => exact S0
          case round =>
          clear S0
          obtain ⟨k2, hk2, rfl, rfl, rfl⟩ := hrel
          by_cases hlt : k2 < s
          · have c1 := bo_cell (rest := []) (by rw [List.append_nil]; exact HB4.out) k2 (by rw [HXL.out, HT.out.2.2]; exact hlt)
            have hsu := cntN_succ X k2
            have hle := cntN_le X k2
            obtain ⟨c0, hc0⟩ : ∃ c, (bitsN X k2).count true = c := ⟨_, rfl⟩
            rw [hc0] at hsu hle ⊢
            have HLT := hid hlt
            cases hb : hasB X k2 with
            | false =>
              rw [hb] at c1 hsu
              have RE : Hid (CnR w7 X s (.int .i64 (c0 : Int)) (.int .i64 ((k2 : Int) + 1)) w7) := hid ⟨k2 + 1, hlt, by rw [hsu]; simp, by go_num, rfl⟩
              clear hb hsu hc0
              go_wp2
              go_roundw
              case rel => exact RE.out
              case measure => have := HLT.out; simp [intOf]; omega
            | true =>
              rw [hb] at c1 hsu
              have RE : Hid (CnR w7 X s (.int .i64 ((c0 : Int) + 1)) (.int .i64 ((k2 : Int) + 1)) w7) := hid ⟨k2 + 1, hlt, by rw [hsu]; simp, by go_num, rfl⟩
              clear hb hsu hc0
              go_wp2
              go_roundw
              case rel => exact RE.out
              case measure => have := HLT.out; simp [intOf]; omega
          · obtain rfl : s = k2 := by omega
            have hca := cnt_all HXB.out
            rw [HXL.out, HT.out.2.2] at hca
            rw [hca]
            obtain ⟨cn, hcn⟩ : ∃ c, cntB X = c := ⟨_, rfl⟩
            rw [hcn]
            have F17 := hid (F15.out.kept K57.out (fun h => h) (fun h => h))
            have F37 := hid (F35.out.kept K57.out (fun h => h) (fun h => h))
            obtain ⟨SX, hSX⟩ : ∃ s, st (bytL X) = s := ⟨_, rfl⟩
            obtain ⟨SU, hSU⟩ : ∃ s, st (bytL U) = s := ⟨_, rfl⟩
            obtain ⟨bm, hbm⟩ : ∃ b, mayB X mm = b := ⟨_, rfl⟩
            obtain ⟨p0, hp0⟩ : ∃ p, plb (s : Int) mm 0 = p := ⟨_, rfl⟩
            obtain ⟨p1, hp1⟩ : ∃ p, plb (s : Int) mm 1 = p := ⟨_, rfl⟩
            obtain ⟨p2, hp2⟩ : ∃ p, plb (s : Int) mm 2 = p := ⟨_, rfl⟩
            obtain ⟨p3, hp3⟩ : ∃ p, plb (s : Int) mm 3 = p := ⟨_, rfl⟩
            have e : plbV (s : Int) mm = .agg #[.int .i64 (p0 : Int), .int .i64 (p1 : Int), .int .i64 (p2 : Int), .int .i64 (p3 : Int)] := by unfold plbV plbL; simp [hp0, hp1, hp2, hp3]
            have CPL : Hid (∀ w, Calls Try.prog 14 #[.int .i64 (s : Int), markV mm] w fun e w' => e = .returned (.agg #[.int .i64 (p0 : Int), .int .i64 (p1 : Int), .int .i64 (p2 : Int), .int .i64 (p3 : Int)]) ∧ Kp Nb w w') := hid (fun w => by rw [← e, ← HT.out.2.2]; exact lplaces_any t mm w OM.out HT.out.1 HT.out.2.1)
            have CRP : Hid (∀ w, Calls Try.prog 20 #[.int .i64 (s : Int), markV mm] w fun e w' => e = .returned (.agg #[.int .i64 (p0 : Int), .int .i64 (p1 : Int), .int .i64 (p2 : Int), .int .i64 (p3 : Int)]) ∧ Kp Nb w w') := hid (fun w => by rw [← e]; exact rplb_any (s : Int) mm w OM.out (by have := HT.out; omega) (by have := HT.out; omega))
            have CBI : Hid (∀ w', Kp Nb w7 w' → Calls Try.prog 15 #[.pointer (some ⟨B1, 0, none⟩)] w' fun e w'' => e = .returned (.int .i64 (s : Int)) ∧ w' = w'') := hid (fun w' k => by rw [← HT.out.2.2, ← HXL.out]; exact lbits_any B1 C1 X w' (F17.out.kept k (fun h => h) (fun h => h)))
            have CCN : Hid (∀ w', Kp Nb w7 w' → Calls Try.prog 16 #[.pointer (some ⟨B1, 0, none⟩)] w' fun e w'' => e = .returned (.int .i64 (cn : Int)) ∧ w' = w'') := hid (fun w' k => by rw [← hcn]; exact lcount_any B1 C1 X w' (F17.out.kept k (fun h => h) (fun h => h)))
            have CMA : Hid (∀ w', Kp Nb w7 w' → Calls Try.prog 17 #[.pointer (some ⟨B1, 0, none⟩), markV mm] w' fun e w'' => e = .returned (.bool bm) ∧ Kp Nb w' w'') := hid (fun w' k => by rw [← hbm]; exact lmay_any B1 C1 X mm w' (F17.out.kept k (fun h => h) (fun h => h)) OM.out)
            have CRM : Hid (∀ w', Kp Nb w7 w' → Calls Try.prog 21 #[.slice (some ⟨C4, 0, none⟩) s s, markV mm] w' fun e w'' => e = .returned (.bool bm) ∧ Kp Nb w' w'') := hid (fun w' k => by rw [← hbm]; exact rmay15_any _ X mm w' (V17.out.kept k) OM.out)
            have CBU : Hid (∀ w', Kp Nb w7 w' → Calls Try.prog 18 #[.pointer (some ⟨B3, 0, none⟩)] w' fun e w'' => e = .returned (.string SU) ∧ Kp Nb w' w'') := hid (fun w' k => by rw [← hSU]; exact lbytes_any B3 C3 U w' (F37.out.kept k (fun h => h) (fun h => h)))
            have CBX : Hid (∀ w', Kp Nb w7 w' → Calls Try.prog 18 #[.pointer (some ⟨B1, 0, none⟩)] w' fun e w'' => e = .returned (.string SX) ∧ Kp Nb w' w'') := hid (fun w' k => by rw [← hSX]; exact lbytes_any B1 C1 X w' (F17.out.kept k (fun h => h) (fun h => h)))
            have CRU : Hid (∀ w', Kp Nb w7 w' → Calls Try.prog 22 #[.slice (some ⟨C5, 0, none⟩) s s] w' fun e w'' => e = .returned (.string SU) ∧ Kp Nb w' w'') := hid (fun w' k => by rw [← hSU]; exact rbytes15_any _ U w' (V18.out.kept k))
            have CRX : Hid (∀ w', Kp Nb w7 w' → Calls Try.prog 22 #[.slice (some ⟨C4, 0, none⟩) s s] w' fun e w'' => e = .returned (.string SX) ∧ Kp Nb w' w'') := hid (fun w' k => by rw [← hSX]; exact rbytes15_any _ X w' (V17.out.kept k))
            have EQX : Hid ((SX.toList == SX.toList) = true) := hid (beq_self_eq_true _)
            have EQX' : Hid ((SX.toList != SX.toList) = false) := hid (by simp)
            have EQU : Hid ((SU.toList == SU.toList) = true) := hid (beq_self_eq_true _)
            have EQU' : Hid ((SU.toList != SU.toList) = false) := hid (by simp)
            clear e hSX hSU hbm hp0 hp1 hp2 hp3 hcn hca
            go_upto_region 31 with fail
            refine region_vals2 [none, none, none, none, none, none, none, none, none, none, none, none, none, none, none, none, none, none, none, none, none, none, none, none, none, none, none, none, none, none, none, none, none, none, none, none, none, none, none, none, none, none, none, none, none, none, none, none, none, none, none, none, none, none, none, none, none, none, none, none, none, none, none, none, none, none, none, none, none, none, none, none, none, none, none, none, none, none, none, none, none, none, none, none, none, none, none, none, none, none, none, none, none, none, none, none, none, none, none, none, none, none, none, none, none, none, none, none, none, none, none, none, none, none, none, none, none, none, none, none, none, none, none, none, none, none, none, none, none, none, none, none, none, none, none, none, none, none, none, none, none, none, none, none, none, none, none, none, none, none, none, none, none, none, none, none, none, none, none, none, none, none, none, none, none, none, none, none, none, none, none, none, none, none, none, none, none, none, none, none, some 0, some 1, some 2, some 3, some 4, some 5, some 6, some 7, some 8, some 9, some 10, some 11, some 12, some 13, some 14, some 15, some 16, some 17, some 18, some 19, some 20, some 21, some 22, some 23, some 24, some 25, some 26, some 27, some 28, some 29, some 30, some 31, some 32, some 33, some 34, some 35, some 36, some 37, some 38, some 39, some 40, some 41, some 42, some 43, some 44, some 45, some 46, some 47, some 48, some 49, some 50, some 51, some 52, some 53, some 54, some 55, some 56, some 57, some 58, none, none, none, none, none, none, none, none, none, none, none, none, none, none, none, none, none, none, none, none, none, none, none, none, none, none, none, none, none, none, none, none, none, none, none, none, none, none, none, none, none, none, none, none, none, none, none, none, none, none, none, none, none, none, none, none, none, none, none, none, none, none, none, none, none, none, none, none, none, none, none, none, none, none, none, none, none, none, none, none, none, none, none, none, none, none, none, none, none] [[(1, none)], [(180, some 0)], [(181, some 1)], [(182, some 2)], [(183, some 3)], [(1, none)], [(185, some 5)], [(1, none)], [(187, some 7)], [(186, some 6), (188, some 8)], [(1, none)], [(190, some 10)], [(1, none)], [(192, some 12)], [(191, some 11), (193, some 13)], [(189, some 9), (194, some 14)], [(184, some 4), (195, some 15)], [(196, some 16)], [(3, none)], [(198, some 18)], [(1, none)], [(200, some 20)], [(199, some 19), (201, some 21)], [(197, some 17), (202, some 22)], [(203, some 23)], [(3, none)], [(205, some 25)], [(19, none)], [(206, some 26), (207, some 27)], [(204, some 24), (208, some 28)], [(209, some 29)], [(3, none)], [(1, none)], [(212, some 32)], [(211, some 31), (213, some 33)], [(17, none)], [(1, none)], [(216, some 36)], [(215, some 35), (217, some 37)], [(214, some 34), (218, some 38)], [(210, some 30), (219, some 39)], [(220, some 40)], [(16, none)], [(222, some 42)], [(221, some 41), (223, some 43)], [(224, some 44)], [(15, none)], [(226, some 46)], [(18, none)], [(228, some 48)], [(227, some 47), (229, some 49)], [(225, some 45), (230, some 50)], [(231, some 51)], [(3, none)], [(233, some 53)], [(17, none)], [(235, some 55)], [(234, some 54), (236, some 56)], [(232, some 52), (237, some 57)]] [some 180, some 181, some 182, some 183, some 184, some 185, some 186, some 187, some 188, some 189, some 190, some 191, some 192, some 193, some 194, some 195, some 196, some 197, some 198, some 199, some 200, some 201, some 202, some 203, some 204, some 205, some 206, some 207, some 208, some 209, some 210, some 211, some 212, some 213, some 214, some 215, some 216, some 217, some 218, some 219, some 220, some 221, some 222, some 223, some 224, some 225, some 226, some 227, some 228, some 229, some 230, some 231, some 232, some 233, some 234, some 235, some 236, some 237, some 238] [.pointer (some ⟨D, 0, none⟩), .int .i64 (s : Int), .bool true, .bool false, .bool false, .pointer (some ⟨D, 0, none⟩), .int .i64 (s : Int), .pointer (some ⟨D, 4, none⟩), markV mm, .agg #[.int .i64 (p0 : Int), .int .i64 (p1 : Int), .int .i64 (p2 : Int), .int .i64 (p3 : Int)], .pointer (some ⟨D, 0, none⟩), .int .i64 (s : Int), .pointer (some ⟨D, 4, none⟩), markV mm, .agg #[.int .i64 (p0 : Int), .int .i64 (p1 : Int), .int .i64 (p2 : Int), .int .i64 (p3 : Int)], .bool false, .bool false, .bool false, .pointer (some ⟨B1, 0, none⟩), .int .i64 (s : Int), .pointer (some ⟨D, 0, none⟩), .int .i64 (s : Int), .bool false, .bool false, .bool false, .pointer (some ⟨B1, 0, none⟩), .int .i64 (cn : Int), .int .i64 (cn : Int), .bool false, .bool false, .bool false, .pointer (some ⟨B1, 0, none⟩), .pointer (some ⟨D, 4, none⟩), markV mm, .bool bm, .slice (some ⟨C4, 0, none⟩) s s, .pointer (some ⟨D, 4, none⟩), markV mm, .bool bm, .bool false, .bool false, .bool false, .int .i64 0, .bool false, .bool false, .bool false, .pointer (some ⟨B3, 0, none⟩), .string SU, .slice (some ⟨C5, 0, none⟩) s s, .string SU, .bool false, .bool false, .bool false, .pointer (some ⟨B1, 0, none⟩), .string SX, .slice (some ⟨C4, 0, none⟩) s s, .string SX, .bool false, .bool false] (fun w' => Hid (Kp Nb w7 w')) (by kernel_rfl) (by kernel_rfl) (by kernel_rfl) ?hS (VFrom.all (n := 59) (by kernel_rfl) ?hstep) ?hend
            case hstep =>
              refine VFrom.cons (VStep.val _ rfl _ rfl (.pointer (some ⟨D, 0, none⟩)) rfl trivial (fun ev wq hS he hr => ?_)) ?_
              · have r0 : ev (.tmp 1) = .pointer (some ⟨D, 0, none⟩) := hr (1, none) (by simp); have hk := he.1; clear hr he
                go_simp
              refine VFrom.cons (VStep.val _ rfl _ rfl (.int .i64 (s : Int)) rfl trivial (fun ev wq hS he hr => ?_)) ?_
              · have r0 : ev (.tmp 180) = .pointer (some ⟨D, 0, none⟩) := hr (180, some 0) (by simp); have hk := he.1; clear hr he
                have c0 := ((H5.out.kept (K57.out.trans hS.out (fun _ _ h => h)) (fun h => h)).cell 0).trans HC0.out
                go_simp
              refine VFrom.cons (VStep.call _ rfl _ rfl (.bool true) rfl trivial 13 #[.int .i64 (s : Int)] (fun ev wq hS he hr => ?_) (fun wq hS => ?_)) ?_
              · have r0 : ev (.tmp 181) = .int .i64 (s : Int) := hr (181, some 1) (by simp); have hk := he.1; have hf := he.2; clear hr he
                go_simp
              · exact (CFI.out wq).mono fun e w' ⟨h1, h2⟩ => ⟨h1, by rw [← h2]; exact hS⟩
              refine VFrom.cons (VStep.val _ rfl _ rfl (.bool false) rfl trivial (fun ev wq hS he hr => ?_)) ?_
              · have r0 : ev (.tmp 182) = .bool true := hr (182, some 2) (by simp); have hk := he.1; clear hr he
                go_simp
              refine VFrom.cons (VStep.val _ rfl _ rfl (.bool false) rfl trivial (fun ev wq hS he hr => ?_)) ?_
              · have r0 : ev (.tmp 183) = .bool false := hr (183, some 3) (by simp); have hk := he.1; clear hr he
                go_simp
              refine VFrom.cons (VStep.val _ rfl _ rfl (.pointer (some ⟨D, 0, none⟩)) rfl rfl (fun ev wq hS he hr => ?_)) ?_
              · have r0 : ev (.tmp 1) = .pointer (some ⟨D, 0, none⟩) := hr (1, none) (by simp); have hk := he.1; clear hr he
                go_simp
              refine VFrom.cons (VStep.val _ rfl _ rfl (.int .i64 (s : Int)) rfl rfl (fun ev wq hS he hr => ?_)) ?_
              · have r0 : ev (.tmp 185) = .pointer (some ⟨D, 0, none⟩) := hr (185, some 5) (by simp); have hk := he.1; clear hr he
                have c0 := ((H5.out.kept (K57.out.trans hS.out (fun _ _ h => h)) (fun h => h)).cell 0).trans HC0.out
                go_simp
              refine VFrom.cons (VStep.val _ rfl _ rfl (.pointer (some ⟨D, 4, none⟩)) rfl rfl (fun ev wq hS he hr => ?_)) ?_
              · have r0 : ev (.tmp 1) = .pointer (some ⟨D, 0, none⟩) := hr (1, none) (by simp); have hk := he.1; clear hr he
                go_simp
              refine VFrom.cons (VStep.val _ rfl _ rfl (markV mm) rfl rfl (fun ev wq hS he hr => ?_)) ?_
              · have r0 : ev (.tmp 187) = .pointer (some ⟨D, 4, none⟩) := hr (187, some 7) (by simp); have hk := he.1; clear hr he
                exact exec_load rfl r0 (load_mark OM.out (mark_at (H5.out.kept (K57.out.trans hS.out (fun _ _ h => h)) (fun h => h)) HCM.out))
              refine VFrom.cons (VStep.call _ rfl _ rfl (.agg #[.int .i64 (p0 : Int), .int .i64 (p1 : Int), .int .i64 (p2 : Int), .int .i64 (p3 : Int)]) rfl rfl 14 #[.int .i64 (s : Int), markV mm] (fun ev wq hS he hr => ?_) (fun wq hS => ?_)) ?_
              · have r0 : ev (.tmp 186) = .int .i64 (s : Int) := hr (186, some 6) (by simp); have r1 : ev (.tmp 188) = markV mm := hr (188, some 8) (by simp); have hk := he.1; have hf := he.2; clear hr he
                go_simp
              · exact (CPL.out wq).mono fun e w' ⟨h1, h2⟩ => ⟨h1, hid (hS.out.trans h2 (fun _ _ h => h))⟩
              refine VFrom.cons (VStep.val _ rfl _ rfl (.pointer (some ⟨D, 0, none⟩)) rfl rfl (fun ev wq hS he hr => ?_)) ?_
              · have r0 : ev (.tmp 1) = .pointer (some ⟨D, 0, none⟩) := hr (1, none) (by simp); have hk := he.1; clear hr he
                go_simp
              refine VFrom.cons (VStep.val _ rfl _ rfl (.int .i64 (s : Int)) rfl rfl (fun ev wq hS he hr => ?_)) ?_
              · have r0 : ev (.tmp 190) = .pointer (some ⟨D, 0, none⟩) := hr (190, some 10) (by simp); have hk := he.1; clear hr he
                have c0 := ((H5.out.kept (K57.out.trans hS.out (fun _ _ h => h)) (fun h => h)).cell 0).trans HC0.out
                go_simp
              refine VFrom.cons (VStep.val _ rfl _ rfl (.pointer (some ⟨D, 4, none⟩)) rfl rfl (fun ev wq hS he hr => ?_)) ?_
              · have r0 : ev (.tmp 1) = .pointer (some ⟨D, 0, none⟩) := hr (1, none) (by simp); have hk := he.1; clear hr he
                go_simp
              refine VFrom.cons (VStep.val _ rfl _ rfl (markV mm) rfl rfl (fun ev wq hS he hr => ?_)) ?_
              · have r0 : ev (.tmp 192) = .pointer (some ⟨D, 4, none⟩) := hr (192, some 12) (by simp); have hk := he.1; clear hr he
                exact exec_load rfl r0 (load_mark OM.out (mark_at (H5.out.kept (K57.out.trans hS.out (fun _ _ h => h)) (fun h => h)) HCM.out))
              refine VFrom.cons (VStep.call _ rfl _ rfl (.agg #[.int .i64 (p0 : Int), .int .i64 (p1 : Int), .int .i64 (p2 : Int), .int .i64 (p3 : Int)]) rfl rfl 20 #[.int .i64 (s : Int), markV mm] (fun ev wq hS he hr => ?_) (fun wq hS => ?_)) ?_
              · have r0 : ev (.tmp 191) = .int .i64 (s : Int) := hr (191, some 11) (by simp); have r1 : ev (.tmp 193) = markV mm := hr (193, some 13) (by simp); have hk := he.1; have hf := he.2; clear hr he
                go_simp
              · exact (CRP.out wq).mono fun e w' ⟨h1, h2⟩ => ⟨h1, hid (hS.out.trans h2 (fun _ _ h => h))⟩
              refine VFrom.cons (VStep.val _ rfl _ rfl (.bool false) rfl rfl (fun ev wq hS he hr => ?_)) ?_
              · have r0 : ev (.tmp 189) = .agg #[.int .i64 (p0 : Int), .int .i64 (p1 : Int), .int .i64 (p2 : Int), .int .i64 (p3 : Int)] := hr (189, some 9) (by simp); have r1 : ev (.tmp 194) = .agg #[.int .i64 (p0 : Int), .int .i64 (p1 : Int), .int .i64 (p2 : Int), .int .i64 (p3 : Int)] := hr (194, some 14) (by simp); have hk := he.1; clear hr he
                exact exec_neP4 rfl r0 r1
              refine VFrom.cons (VStep.val _ rfl _ rfl (.bool false) rfl trivial (fun ev wq hS he hr => ?_)) ?_
              · have r0 : ev (.tmp 184) = .bool false := hr (184, some 4) (by simp); have r1 : ev (.tmp 195) = .bool false := hr (195, some 15) (by simp); have hk := he.1; clear hr he
                go_simp
              refine VFrom.cons (VStep.val _ rfl _ rfl (.bool false) rfl trivial (fun ev wq hS he hr => ?_)) ?_
              · have r0 : ev (.tmp 196) = .bool false := hr (196, some 16) (by simp); have hk := he.1; clear hr he
                go_simp
              refine VFrom.cons (VStep.val _ rfl _ rfl (.pointer (some ⟨B1, 0, none⟩)) rfl rfl (fun ev wq hS he hr => ?_)) ?_
              · have r0 : ev (.tmp 3) = .pointer (some ⟨B1, 0, none⟩) := hr (3, none) (by simp); have hk := he.1; clear hr he
                go_simp
              refine VFrom.cons (VStep.call _ rfl _ rfl (.int .i64 (s : Int)) rfl rfl 15 #[.pointer (some ⟨B1, 0, none⟩)] (fun ev wq hS he hr => ?_) (fun wq hS => ?_)) ?_
              · have r0 : ev (.tmp 198) = .pointer (some ⟨B1, 0, none⟩) := hr (198, some 18) (by simp); have hk := he.1; have hf := he.2; clear hr he
                go_simp
              · exact (CBI.out wq hS.out).mono fun e w' ⟨h1, h2⟩ => ⟨h1, by rw [← h2]; exact hS⟩
              refine VFrom.cons (VStep.val _ rfl _ rfl (.pointer (some ⟨D, 0, none⟩)) rfl rfl (fun ev wq hS he hr => ?_)) ?_
              · have r0 : ev (.tmp 1) = .pointer (some ⟨D, 0, none⟩) := hr (1, none) (by simp); have hk := he.1; clear hr he
                go_simp
              refine VFrom.cons (VStep.val _ rfl _ rfl (.int .i64 (s : Int)) rfl rfl (fun ev wq hS he hr => ?_)) ?_
              · have r0 : ev (.tmp 200) = .pointer (some ⟨D, 0, none⟩) := hr (200, some 20) (by simp); have hk := he.1; clear hr he
                have c0 := ((H5.out.kept (K57.out.trans hS.out (fun _ _ h => h)) (fun h => h)).cell 0).trans HC0.out
                go_simp
              refine VFrom.cons (VStep.val _ rfl _ rfl (.bool false) rfl rfl (fun ev wq hS he hr => ?_)) ?_
              · have r0 : ev (.tmp 199) = .int .i64 (s : Int) := hr (199, some 19) (by simp); have r1 : ev (.tmp 201) = .int .i64 (s : Int) := hr (201, some 21) (by simp); have hk := he.1; clear hr he
                go_simp
              refine VFrom.cons (VStep.val _ rfl _ rfl (.bool false) rfl trivial (fun ev wq hS he hr => ?_)) ?_
              · have r0 : ev (.tmp 197) = .bool false := hr (197, some 17) (by simp); have r1 : ev (.tmp 202) = .bool false := hr (202, some 22) (by simp); have hk := he.1; clear hr he
                go_simp
              refine VFrom.cons (VStep.val _ rfl _ rfl (.bool false) rfl trivial (fun ev wq hS he hr => ?_)) ?_
              · have r0 : ev (.tmp 203) = .bool false := hr (203, some 23) (by simp); have hk := he.1; clear hr he
                go_simp
              refine VFrom.cons (VStep.val _ rfl _ rfl (.pointer (some ⟨B1, 0, none⟩)) rfl rfl (fun ev wq hS he hr => ?_)) ?_
              · have r0 : ev (.tmp 3) = .pointer (some ⟨B1, 0, none⟩) := hr (3, none) (by simp); have hk := he.1; clear hr he
                go_simp
              refine VFrom.cons (VStep.call _ rfl _ rfl (.int .i64 (cn : Int)) rfl rfl 16 #[.pointer (some ⟨B1, 0, none⟩)] (fun ev wq hS he hr => ?_) (fun wq hS => ?_)) ?_
              · have r0 : ev (.tmp 205) = .pointer (some ⟨B1, 0, none⟩) := hr (205, some 25) (by simp); have hk := he.1; have hf := he.2; clear hr he
                go_simp
              · exact (CCN.out wq hS.out).mono fun e w' ⟨h1, h2⟩ => ⟨h1, by rw [← h2]; exact hS⟩
              refine VFrom.cons (VStep.val _ rfl _ rfl (.int .i64 (cn : Int)) rfl rfl (fun ev wq hS he hr => ?_)) ?_
              · have r0 : ev (.tmp 19) = .int .i64 (cn : Int) := hr (19, none) (by simp); have hk := he.1; clear hr he
                go_simp
              refine VFrom.cons (VStep.val _ rfl _ rfl (.bool false) rfl rfl (fun ev wq hS he hr => ?_)) ?_
              · have r0 : ev (.tmp 206) = .int .i64 (cn : Int) := hr (206, some 26) (by simp); have r1 : ev (.tmp 207) = .int .i64 (cn : Int) := hr (207, some 27) (by simp); have hk := he.1; clear hr he
                go_simp
              refine VFrom.cons (VStep.val _ rfl _ rfl (.bool false) rfl trivial (fun ev wq hS he hr => ?_)) ?_
              · have r0 : ev (.tmp 204) = .bool false := hr (204, some 24) (by simp); have r1 : ev (.tmp 208) = .bool false := hr (208, some 28) (by simp); have hk := he.1; clear hr he
                go_simp
              refine VFrom.cons (VStep.val _ rfl _ rfl (.bool false) rfl trivial (fun ev wq hS he hr => ?_)) ?_
              · have r0 : ev (.tmp 209) = .bool false := hr (209, some 29) (by simp); have hk := he.1; clear hr he
                go_simp
              refine VFrom.cons (VStep.val _ rfl _ rfl (.pointer (some ⟨B1, 0, none⟩)) rfl rfl (fun ev wq hS he hr => ?_)) ?_
              · have r0 : ev (.tmp 3) = .pointer (some ⟨B1, 0, none⟩) := hr (3, none) (by simp); have hk := he.1; clear hr he
                go_simp
              refine VFrom.cons (VStep.val _ rfl _ rfl (.pointer (some ⟨D, 4, none⟩)) rfl rfl (fun ev wq hS he hr => ?_)) ?_
              · have r0 : ev (.tmp 1) = .pointer (some ⟨D, 0, none⟩) := hr (1, none) (by simp); have hk := he.1; clear hr he
                go_simp
              refine VFrom.cons (VStep.val _ rfl _ rfl (markV mm) rfl rfl (fun ev wq hS he hr => ?_)) ?_
              · have r0 : ev (.tmp 212) = .pointer (some ⟨D, 4, none⟩) := hr (212, some 32) (by simp); have hk := he.1; clear hr he
                exact exec_load rfl r0 (load_mark OM.out (mark_at (H5.out.kept (K57.out.trans hS.out (fun _ _ h => h)) (fun h => h)) HCM.out))
              refine VFrom.cons (VStep.call _ rfl _ rfl (.bool bm) rfl rfl 17 #[.pointer (some ⟨B1, 0, none⟩), markV mm] (fun ev wq hS he hr => ?_) (fun wq hS => ?_)) ?_
              · have r0 : ev (.tmp 211) = .pointer (some ⟨B1, 0, none⟩) := hr (211, some 31) (by simp); have r1 : ev (.tmp 213) = markV mm := hr (213, some 33) (by simp); have hk := he.1; have hf := he.2; clear hr he
                go_simp
              · exact (CMA.out wq hS.out).mono fun e w' ⟨h1, h2⟩ => ⟨h1, hid (hS.out.trans h2 (fun _ _ h => h))⟩
              refine VFrom.cons (VStep.val _ rfl _ rfl (.slice (some ⟨C4, 0, none⟩) s s) rfl rfl (fun ev wq hS he hr => ?_)) ?_
              · have r0 : ev (.tmp 17) = .slice (some ⟨C4, 0, none⟩) s s := hr (17, none) (by simp); have hk := he.1; clear hr he
                go_simp
              refine VFrom.cons (VStep.val _ rfl _ rfl (.pointer (some ⟨D, 4, none⟩)) rfl rfl (fun ev wq hS he hr => ?_)) ?_
              · have r0 : ev (.tmp 1) = .pointer (some ⟨D, 0, none⟩) := hr (1, none) (by simp); have hk := he.1; clear hr he
                go_simp
              refine VFrom.cons (VStep.val _ rfl _ rfl (markV mm) rfl rfl (fun ev wq hS he hr => ?_)) ?_
              · have r0 : ev (.tmp 216) = .pointer (some ⟨D, 4, none⟩) := hr (216, some 36) (by simp); have hk := he.1; clear hr he
                exact exec_load rfl r0 (load_mark OM.out (mark_at (H5.out.kept (K57.out.trans hS.out (fun _ _ h => h)) (fun h => h)) HCM.out))
              refine VFrom.cons (VStep.call _ rfl _ rfl (.bool bm) rfl rfl 21 #[.slice (some ⟨C4, 0, none⟩) s s, markV mm] (fun ev wq hS he hr => ?_) (fun wq hS => ?_)) ?_
              · have r0 : ev (.tmp 215) = .slice (some ⟨C4, 0, none⟩) s s := hr (215, some 35) (by simp); have r1 : ev (.tmp 217) = markV mm := hr (217, some 37) (by simp); have hk := he.1; have hf := he.2; clear hr he
                go_simp
              · exact (CRM.out wq hS.out).mono fun e w' ⟨h1, h2⟩ => ⟨h1, hid (hS.out.trans h2 (fun _ _ h => h))⟩
              refine VFrom.cons (VStep.val _ rfl _ rfl (.bool false) rfl rfl (fun ev wq hS he hr => ?_)) ?_
              · have r0 : ev (.tmp 214) = .bool bm := hr (214, some 34) (by simp); have r1 : ev (.tmp 218) = .bool bm := hr (218, some 38) (by simp); have hk := he.1; clear hr he
                go_simp
              refine VFrom.cons (VStep.val _ rfl _ rfl (.bool false) rfl trivial (fun ev wq hS he hr => ?_)) ?_
              · have r0 : ev (.tmp 210) = .bool false := hr (210, some 30) (by simp); have r1 : ev (.tmp 219) = .bool false := hr (219, some 39) (by simp); have hk := he.1; clear hr he
                go_simp
              refine VFrom.cons (VStep.val _ rfl _ rfl (.bool false) rfl trivial (fun ev wq hS he hr => ?_)) ?_
              · have r0 : ev (.tmp 220) = .bool false := hr (220, some 40) (by simp); have hk := he.1; clear hr he
                go_simp
              refine VFrom.cons (VStep.val _ rfl _ rfl (.int .i64 0) rfl rfl (fun ev wq hS he hr => ?_)) ?_
              · have r0 : ev (.tmp 16) = .int .i64 0 := hr (16, none) (by simp); have hk := he.1; clear hr he
                go_simp
              refine VFrom.cons (VStep.val _ rfl _ rfl (.bool false) rfl rfl (fun ev wq hS he hr => ?_)) ?_
              · have r0 : ev (.tmp 222) = .int .i64 0 := hr (222, some 42) (by simp); have hk := he.1; clear hr he
                go_simp
              refine VFrom.cons (VStep.val _ rfl _ rfl (.bool false) rfl trivial (fun ev wq hS he hr => ?_)) ?_
              · have r0 : ev (.tmp 221) = .bool false := hr (221, some 41) (by simp); have r1 : ev (.tmp 223) = .bool false := hr (223, some 43) (by simp); have hk := he.1; clear hr he
                go_simp
              refine VFrom.cons (VStep.val _ rfl _ rfl (.bool false) rfl trivial (fun ev wq hS he hr => ?_)) ?_
              · have r0 : ev (.tmp 224) = .bool false := hr (224, some 44) (by simp); have hk := he.1; clear hr he
                go_simp
              refine VFrom.cons (VStep.val _ rfl _ rfl (.pointer (some ⟨B3, 0, none⟩)) rfl rfl (fun ev wq hS he hr => ?_)) ?_
              · have r0 : ev (.tmp 15) = .pointer (some ⟨B3, 0, none⟩) := hr (15, none) (by simp); have hk := he.1; clear hr he
                go_simp
              refine VFrom.cons (VStep.call _ rfl _ rfl (.string SU) rfl rfl 18 #[.pointer (some ⟨B3, 0, none⟩)] (fun ev wq hS he hr => ?_) (fun wq hS => ?_)) ?_
              · have r0 : ev (.tmp 226) = .pointer (some ⟨B3, 0, none⟩) := hr (226, some 46) (by simp); have hk := he.1; have hf := he.2; clear hr he
                go_simp
              · exact (CBU.out wq hS.out).mono fun e w' ⟨h1, h2⟩ => ⟨h1, hid (hS.out.trans h2 (fun _ _ h => h))⟩
              refine VFrom.cons (VStep.val _ rfl _ rfl (.slice (some ⟨C5, 0, none⟩) s s) rfl rfl (fun ev wq hS he hr => ?_)) ?_
              · have r0 : ev (.tmp 18) = .slice (some ⟨C5, 0, none⟩) s s := hr (18, none) (by simp); have hk := he.1; clear hr he
                go_simp
              refine VFrom.cons (VStep.call _ rfl _ rfl (.string SU) rfl rfl 22 #[.slice (some ⟨C5, 0, none⟩) s s] (fun ev wq hS he hr => ?_) (fun wq hS => ?_)) ?_
              · have r0 : ev (.tmp 228) = .slice (some ⟨C5, 0, none⟩) s s := hr (228, some 48) (by simp); have hk := he.1; have hf := he.2; clear hr he
                go_simp
              · exact (CRU.out wq hS.out).mono fun e w' ⟨h1, h2⟩ => ⟨h1, hid (hS.out.trans h2 (fun _ _ h => h))⟩
              refine VFrom.cons (VStep.val _ rfl _ rfl (.bool false) rfl rfl (fun ev wq hS he hr => ?_)) ?_
              · have r0 : ev (.tmp 227) = .string SU := hr (227, some 47) (by simp); have r1 : ev (.tmp 229) = .string SU := hr (229, some 49) (by simp); have hk := he.1; clear hr he
                have e1 := EQU.out; have e2 := EQU'.out
                go_simp
              refine VFrom.cons (VStep.val _ rfl _ rfl (.bool false) rfl trivial (fun ev wq hS he hr => ?_)) ?_
              · have r0 : ev (.tmp 225) = .bool false := hr (225, some 45) (by simp); have r1 : ev (.tmp 230) = .bool false := hr (230, some 50) (by simp); have hk := he.1; clear hr he
                go_simp
              refine VFrom.cons (VStep.val _ rfl _ rfl (.bool false) rfl trivial (fun ev wq hS he hr => ?_)) ?_
              · have r0 : ev (.tmp 231) = .bool false := hr (231, some 51) (by simp); have hk := he.1; clear hr he
                go_simp
              refine VFrom.cons (VStep.val _ rfl _ rfl (.pointer (some ⟨B1, 0, none⟩)) rfl rfl (fun ev wq hS he hr => ?_)) ?_
              · have r0 : ev (.tmp 3) = .pointer (some ⟨B1, 0, none⟩) := hr (3, none) (by simp); have hk := he.1; clear hr he
                go_simp
              refine VFrom.cons (VStep.call _ rfl _ rfl (.string SX) rfl rfl 18 #[.pointer (some ⟨B1, 0, none⟩)] (fun ev wq hS he hr => ?_) (fun wq hS => ?_)) ?_
              · have r0 : ev (.tmp 233) = .pointer (some ⟨B1, 0, none⟩) := hr (233, some 53) (by simp); have hk := he.1; have hf := he.2; clear hr he
                go_simp
              · exact (CBX.out wq hS.out).mono fun e w' ⟨h1, h2⟩ => ⟨h1, hid (hS.out.trans h2 (fun _ _ h => h))⟩
              refine VFrom.cons (VStep.val _ rfl _ rfl (.slice (some ⟨C4, 0, none⟩) s s) rfl rfl (fun ev wq hS he hr => ?_)) ?_
              · have r0 : ev (.tmp 17) = .slice (some ⟨C4, 0, none⟩) s s := hr (17, none) (by simp); have hk := he.1; clear hr he
                go_simp
              refine VFrom.cons (VStep.call _ rfl _ rfl (.string SX) rfl rfl 22 #[.slice (some ⟨C4, 0, none⟩) s s] (fun ev wq hS he hr => ?_) (fun wq hS => ?_)) ?_
              · have r0 : ev (.tmp 235) = .slice (some ⟨C4, 0, none⟩) s s := hr (235, some 55) (by simp); have hk := he.1; have hf := he.2; clear hr he
                go_simp
              · exact (CRX.out wq hS.out).mono fun e w' ⟨h1, h2⟩ => ⟨h1, hid (hS.out.trans h2 (fun _ _ h => h))⟩
              refine VFrom.cons (VStep.val _ rfl _ rfl (.bool false) rfl rfl (fun ev wq hS he hr => ?_)) ?_
              · have r0 : ev (.tmp 234) = .string SX := hr (234, some 54) (by simp); have r1 : ev (.tmp 236) = .string SX := hr (236, some 56) (by simp); have hk := he.1; clear hr he
                have e1 := EQX.out; have e2 := EQX'.out
                go_simp
              refine VFrom.cons (VStep.val _ rfl _ rfl (.bool false) rfl trivial (fun ev wq hS he hr => ?_)) ?_
              · have r0 : ev (.tmp 232) = .bool false := hr (232, some 52) (by simp); have r1 : ev (.tmp 237) = .bool false := hr (237, some 57) (by simp); have hk := he.1; clear hr he
                go_simp
              exact VFrom.nil
            case hS => exact hid (Kp.refl Nb w7).drew
            case hend =>
            intro w8 k8
            have K58 := hid (K57.out.trans k8.out (fun _ _ h => h))
            have F18 := hid (F17.out.kept k8.out (fun h => h) (fun h => h))
            have V18x := hid (V17.out.kept k8.out)
            clear k8 CPL CRP CBI CCN CMA CRM CBU CBX CRU CRX EQX EQX' EQU EQU' F17 F37 V17 V18 HB4 F35 K57
            simp only [putAll, List.zip_cons_cons, List.zip_nil_right, List.foldl_cons, List.foldl_nil, Act.put, List.setIfInBounds_toArray, List.set_cons_zero, List.set_cons_succ]
            have H8 := hid (H5.out.kept K58.out (fun h => h))
            have HB8 := hid (HB5.out.kept K58.out)
            have c1 : w8.cell? ⟨D, 1, none⟩ = some (.int .i64 n1) := (H8.out.cell 1).trans HC1.out
            have c3 : w8.cell? ⟨D, 3, none⟩ = some (.slice yB Nt dB) := (H8.out.cell 3).trans HC3.out
            obtain ⟨K, hK⟩ : ∃ K : Nat, max 0 (min n1 100) = (K : Int) := ⟨(max 0 (min n1 100)).toNat, by omega⟩
            have hK1 : K ≤ 100 := by omega
            have HK1 := hid hK1
            go_upto_region 34 with fail
            clear hK c1
            go_wp2_with fail
            refine (lacks_rows B1 C1 _ X mt (K : Int) _ F18.out HB8.out (by have := HNT60.out; have := HNT.out; omega)).mono ?_
            rintro e w9 ⟨v1, v2, xs, rfl, hxs, ri, rm, k9⟩
            rw [Int.toNat_natCast] at hxs
            have HXS9 := hid hxs
            obtain ⟨q, hq⟩ : ∃ q, xs.length = q := ⟨_, rfl⟩
            have HQ := hid hq
            have HQE : Hid (q = atK X mt K Nt) := hid (by rw [← hq, hxs, atK_end, HNT.out])
            have RI := hid ri
            have RMs := hid rm
            obtain ⟨y1, d1, rfl⟩ := ri.shape
            obtain ⟨y2, d2, rfl⟩ := rm.shape
            rw [hq] at RI RMs ⊢
            have K59 := hid (K58.out.trans k9 (fun _ _ h => h))
            have F19 := hid (F18.out.kept k9 (fun h => h) (fun h => h))
            have V19 := hid (V18x.out.kept k9)
            have H9 := hid (H8.out.kept k9 (fun h => h))
            have HB9 := hid (HB8.out.kept k9)
            have c3 : w9.cell? ⟨D, 3, none⟩ = some (.slice yB Nt dB) := (H9.out.cell 3).trans HC3.out
            have HQ9 : Hid (q ≤ 100) := hid (by rw [HQE.out]; unfold atK; omega)
            have S0 : AtR w9 X mt K Nt (.int .i64 0) (.int .i64 0) w9 := ⟨0, Nat.zero_le _, by rw [atK_zero]; rfl, rfl, hid (Kp.refl _ _)⟩
            clear hxs hq ri rm k9 F18 V18x H8 HB8
            go_wp2
            go_loopw [25, 254] (AtR w9 X mt K Nt) (fun _ i _ => Nt - (intOf i).toNat)
            case atStart => exact S0
            case round =>
            clear S0 c3
            obtain ⟨k, hk, rfl, rfl, KO⟩ := hrel
            by_cases hlt : k < Nt
            · rcases HB9.out.2 with ⟨_, e0⟩ | ⟨blk, off, cap, e1, hc, hm, hcell⟩
              · have := HNT.out; rw [e0] at this; simp at this; omega
              injection e1 with e1 e7 e2
              subst e1 e2
              clear e7
              rw [HNT.out] at hc
              unfold maxLen at hm
              have R1r := hid (range_kept (hcell k (by rw [HNT.out]; exact hlt)) KO.out)
              have OX := hid (HB9.out.1 k)
              have HM1 := hid (atK_may X mt K k)
              have HM2 := hid (atK_full X mt K k)
              have HM3 := hid (fun h => atK_next X mt K k Nt hlt h)
              have HMX := hid (show ∀ i, i < xs.length → xs[i]? = some k → f2B mt (xs[i]?.getD mt.length) = markL (markAt mt k) from fun i _ h => by rw [h]; rfl)
              obtain ⟨a, ha⟩ : ∃ a, atK X mt K k = a := ⟨_, rfl⟩
              have ha9 : a ≤ 100 := by rw [← ha]; unfold atK; omega
              rw [ha] at HM1 HM2 HM3 ⊢
              generalize markAt mt k = x at R1r OX HM1 HM3 HMX
              have MX := hid (mark_infoL x OX.out.len)
              obtain ⟨M5, hM5⟩ : ∃ N, wr.heap.size = N := ⟨_, rfl⟩
              obtain ⟨W5, hW5⟩ : ∃ W, W = (wr.alloc (.cells #[.int .u8 0, .int .u8 0, .int .u8 0, .int .u8 0, .int .u8 0, .int .u8 0, .int .u8 0, .int .u8 0, .int .u8 0, .int .u8 0, .int .u8 0, .int .u8 0, .int .u8 0, .int .u8 0, .int .u8 0, .int .u8 0] 24)).setCells M5 0 (markL x) := ⟨_, rfl⟩
              obtain ⟨d5, k5, th⟩ := fresh_mark x OX.out.len hM5 hW5
              have D5 := hid d5
              have TH := hid th
              have SI : Hid ((Try.prog.info? 24).map (·.size) = some (markL x).toArray.size) := hid (by rw [List.size_toArray]; exact mark_infoL x OX.out.len)
              have ON : Hid ((markL x).toArray.all (·.oneCell') = true) := hid (all_oneCell_toArray (markL_one' x))
              have HLT := hid hlt
              have K5 : Hid (Kp Nb w9 W5) := hid (KO.out.trans k5 (fun _ _ h => h))
              clear hcell k5 d5 th ha
              go_upto_region 39 with (first
                | (refine wpList_load_mid (by rfl) 24 (.tmp 257) (by rfl) blk (off + k * 16) (by rfl) (markL x) _ R1r.out under_mark rfl MX.out ?_)
                | (refine wpList_store_mid (by rfl) 24 (.tmp 27) (.tmp 258) (by rfl) M5 0 (markL x).toArray (by rfl) (by rfl) TH.out SI.out ON.out ?_))
              rw [show (wr.alloc (.cells #[.int .u8 0, .int .u8 0, .int .u8 0, .int .u8 0, .int .u8 0, .int .u8 0, .int .u8 0, .int .u8 0, .int .u8 0, .int .u8 0, .int .u8 0, .int .u8 0, .int .u8 0, .int .u8 0, .int .u8 0, .int .u8 0] 24)).setCells M5 0 (markL x) = W5 from hW5.symm]
              clear hW5 hM5 KO
              have D5r := hid (range_of D5.out)
              go_wp2_with (refine wpList_load_mid (by rfl) 24 (.tmp 27) (by rfl) M5 0 (by rfl) (markL x) _ D5r.out under_mark rfl MX.out ?_)
              refine (rmay15_any _ X x _ (V19.out.kept K5.out) OX.out).mono ?_
              rintro e w6 ⟨rfl, k6⟩
              have K6 : Hid (Kp Nb w9 w6) := hid (K5.out.trans k6 (fun _ _ h => h))
              have D6 := hid (D5.out.kept k6 (fun h => h))
              clear k6 K5 D5 D5r
              cases hm : mayB X x with
              | true =>
                have RE : Hid (AtR w9 X mt K Nt (.int .i64 (a : Int)) (.int .i64 ((k : Int) + 1)) w6) := hid ⟨k + 1, HLT.out, by rw [HM1.out hm], by go_num, K6⟩
                clear hm
                go_wp2
                go_roundw
                case rel => exact RE.out
                case measure => have := HLT.out; simp [intOf]; omega
              | false =>
                by_cases hak : K ≤ a
                · have RE : Hid (AtR w9 X mt K Nt (.int .i64 (a : Int)) (.int .i64 ((k : Int) + 1)) w6) := hid ⟨k + 1, HLT.out, by rw [HM2.out hak], by go_num, K6⟩
                  have dg : decide ((a : Int) ≥ (K : Int)) = true := decide_eq_true (by omega)
                  clear hm
                  go_wp2
                  go_roundw
                  case rel => exact RE.out
                  case measure => have := HLT.out; simp [intOf]; omega
                · have dg : decide ((a : Int) ≥ (K : Int)) = false := decide_eq_false (by omega)
                  obtain ⟨hn3, hx3⟩ := HM3.out hm (by omega)
                  rw [← HNT.out, ← HXS9.out] at hx3
                  have haq : a < q := by
                    have := (List.getElem?_eq_some_iff.1 hx3).1
                    rw [HQ.out] at this
                    exact this
                  rcases RI.out with ⟨_, e0⟩ | ⟨b1, o1, c1, e1, hcq, hmx, hci⟩
                  · have := HQ.out; rw [e0] at this; simp at this; omega
                  rcases RMs.out with ⟨_, e0⟩ | ⟨b2, o2, c2, e2, hcq2, hmx2, hcm2⟩
                  · have := HQ.out; rw [e0] at this; simp at this; omega
                  injection e1 with e1 e7 e8
                  subst e1 e8
                  injection e2 with e2 e9 e10
                  subst e2 e10
                  clear e7 e9
                  have LI : Hid (w6.cell? ⟨b1, o1 + a, none⟩ = some (.int .i64 (k : Int))) := hid (by
                    have h := hci a (by rw [HQ.out]; exact haq) 0 _ (by rw [hx3]; rfl)
                    rw [Nat.mul_one, Nat.add_zero] at h
                    exact K6.out.cell h (fun h => h))
                  have LM : Hid (w6.rangeAt b2 (o2 + a * 16) (markL x)) := hid (by
                    have h := hcm2 a (by rw [HQ.out]; exact haq)
                    rw [HMX.out a (by rw [HQ.out]; exact haq) hx3] at h
                    exact range_kept h K6.out)
                  have AQ : Hid (a < q) := hid haq
                  have AQ' : Hid ((a : Int) < (q : Int)) := hid (by omega)
                  have AQ2 : Hid (q ≤ d1 ∧ q ≤ d2 ∧ q ≤ 100) := hid (by rw [HQ.out] at hcq hcq2; exact ⟨hcq, hcq2, HQ9.out⟩)
                  have RE : Hid (∀ wy, Kp Nb w6 wy → AtR w9 X mt K Nt (.int .i64 ((a : Int) + 1)) (.int .i64 ((k : Int) + 1)) wy) := hid (fun wy ky => ⟨k + 1, HLT.out, by rw [hn3]; rfl, by go_num, hid (K6.out.trans ky (fun _ _ h => h))⟩)
                  clear hm hn3 hx3 hci hcm2 hcq hcq2 hmx hmx2 haq
                  go_upto_region 40 with fail
                  refine region_vals2 [none, none, none, none, none, none, none, none, none, none, none, none, none, none, none, none, none, none, none, none, none, none, none, none, none, none, none, none, none, none, none, none, none, none, none, none, none, none, none, none, none, none, none, none, none, none, none, none, none, none, none, none, none, none, none, none, none, none, none, none, none, none, none, none, none, none, none, none, none, none, none, none, none, none, none, none, none, none, none, none, none, none, none, none, none, none, none, none, none, none, none, none, none, none, none, none, none, none, none, none, none, none, none, none, none, none, none, none, none, none, none, none, none, none, none, none, none, none, none, none, none, none, none, none, none, none, none, none, none, none, none, none, none, none, none, none, none, none, none, none, none, none, none, none, none, none, none, none, none, none, none, none, none, none, none, none, none, none, none, none, none, none, none, none, none, none, none, none, none, none, none, none, none, none, none, none, none, none, none, none, none, none, none, none, none, none, none, none, none, none, none, none, none, none, none, none, none, none, none, none, none, none, none, none, none, none, none, none, none, none, none, none, none, none, none, none, none, none, none, none, none, none, none, none, none, none, none, none, none, none, none, none, none, none, none, none, none, none, none, none, none, none, none, none, none, none, none, none, none, none, none, none, none, none, none, none, none, none, none, none, none, none, none, none, none, none, none, some 0, some 1, some 2, some 3, some 4, some 5, some 6, some 7, some 8, some 9, some 10, some 11, some 12, some 13, some 14, some 15, some 16, some 17, some 18, some 19, none, none, none, none, none, none, none, none, none, none, none, none, none, none, none, none, none, none, none, none, none, none, none, none, none, none, none, none, none, none, none, none, none, none, none, none, none, none, none, none, none] [[(25, none)], [(23, none)], [(268, some 1)], [(267, some 0), (269, some 2)], [(270, some 3)], [(23, none)], [(25, none)], [(272, some 5), (273, some 6)], [(274, some 7)], [(26, none)], [(275, some 8), (276, some 9)], [(271, some 4), (277, some 10)], [(278, some 11)], [(24, none)], [(25, none)], [(280, some 13), (281, some 14)], [(282, some 15)], [(27, none)], [(283, some 16), (284, some 17)], [(279, some 12), (285, some 18)]] [some 267, some 268, some 269, some 270, some 271, some 272, some 273, some 274, some 275, some 276, some 277, some 278, some 279, some 280, some 281, some 282, some 283, some 284, some 285, some 286] [.int .i64 (a : Int), .slice (some ⟨b1, o1, none⟩) q d1, .int .i64 (q : Int), .bool false, .bool false, .slice (some ⟨b1, o1, none⟩) q d1, .int .i64 (a : Int), .pointer (some ⟨b1, o1 + a, none⟩), .int .i64 (k : Int), .int .i64 (k : Int), .bool false, .bool false, .bool false, .slice (some ⟨b2, o2, none⟩) q d2, .int .i64 (a : Int), .pointer (some ⟨b2, o2 + a * 16, none⟩), markV x, markV x, .bool false, .bool false] (fun w' => Hid (Kp Nb w6 w')) (by kernel_rfl) (by kernel_rfl) (by kernel_rfl) ?hS (VFrom.all (n := 20) (by kernel_rfl) ?hstep) ?hend
                  case hstep =>
                    refine VFrom.cons (VStep.val _ rfl _ rfl (.int .i64 (a : Int)) rfl trivial (fun ev wq hS he hr => ?_)) ?_
                    · have r0 : ev (.tmp 25) = .int .i64 (a : Int) := hr (25, none) (by simp); have hk := he.1; clear hr he
                      go_simp
                    refine VFrom.cons (VStep.val _ rfl _ rfl (.slice (some ⟨b1, o1, none⟩) q d1) rfl trivial (fun ev wq hS he hr => ?_)) ?_
                    · have r0 : ev (.tmp 23) = .slice (some ⟨b1, o1, none⟩) q d1 := hr (23, none) (by simp); have hk := he.1; clear hr he
                      go_simp
                    refine VFrom.cons (VStep.val _ rfl _ rfl (.int .i64 (q : Int)) rfl trivial (fun ev wq hS he hr => ?_)) ?_
                    · have r0 : ev (.tmp 268) = .slice (some ⟨b1, o1, none⟩) q d1 := hr (268, some 1) (by simp); have hk := he.1; clear hr he
                      go_simp
                    refine VFrom.cons (VStep.val _ rfl _ rfl (.bool false) rfl trivial (fun ev wq hS he hr => ?_)) ?_
                    · have r0 : ev (.tmp 267) = .int .i64 (a : Int) := hr (267, some 0) (by simp); have r1 : ev (.tmp 269) = .int .i64 (q : Int) := hr (269, some 2) (by simp); have hk := he.1; clear hr he
                      have e1 := AQ.out; have e2 := AQ'.out
                      go_simp
                    refine VFrom.cons (VStep.val _ rfl _ rfl (.bool false) rfl trivial (fun ev wq hS he hr => ?_)) ?_
                    · have r0 : ev (.tmp 270) = .bool false := hr (270, some 3) (by simp); have hk := he.1; clear hr he
                      go_simp
                    refine VFrom.cons (VStep.val _ rfl _ rfl (.slice (some ⟨b1, o1, none⟩) q d1) rfl rfl (fun ev wq hS he hr => ?_)) ?_
                    · have r0 : ev (.tmp 23) = .slice (some ⟨b1, o1, none⟩) q d1 := hr (23, none) (by simp); have hk := he.1; clear hr he
                      go_simp
                    refine VFrom.cons (VStep.val _ rfl _ rfl (.int .i64 (a : Int)) rfl rfl (fun ev wq hS he hr => ?_)) ?_
                    · have r0 : ev (.tmp 25) = .int .i64 (a : Int) := hr (25, none) (by simp); have hk := he.1; clear hr he
                      go_simp
                    refine VFrom.cons (VStep.val _ rfl _ rfl (.pointer (some ⟨b1, o1 + a, none⟩)) rfl rfl (fun ev wq hS he hr => ?_)) ?_
                    · have r0 : ev (.tmp 272) = .slice (some ⟨b1, o1, none⟩) q d1 := hr (272, some 5) (by simp); have r1 : ev (.tmp 273) = .int .i64 (a : Int) := hr (273, some 6) (by simp); have hk := he.1; clear hr he
                      have e1 := AQ.out; have e2 := AQ'.out; have e3 := AQ2.out
                      go_simp
                    refine VFrom.cons (VStep.val _ rfl _ rfl (.int .i64 (k : Int)) rfl rfl (fun ev wq hS he hr => ?_)) ?_
                    · have r0 : ev (.tmp 274) = .pointer (some ⟨b1, o1 + a, none⟩) := hr (274, some 7) (by simp); have hk := he.1; clear hr he
                      have c0 := hS.out.cell (LI.out) (fun h => h)
                      go_simp
                    refine VFrom.cons (VStep.val _ rfl _ rfl (.int .i64 (k : Int)) rfl rfl (fun ev wq hS he hr => ?_)) ?_
                    · have r0 : ev (.tmp 26) = .int .i64 (k : Int) := hr (26, none) (by simp); have hk := he.1; clear hr he
                      go_simp
                    refine VFrom.cons (VStep.val _ rfl _ rfl (.bool false) rfl rfl (fun ev wq hS he hr => ?_)) ?_
                    · have r0 : ev (.tmp 275) = .int .i64 (k : Int) := hr (275, some 8) (by simp); have r1 : ev (.tmp 276) = .int .i64 (k : Int) := hr (276, some 9) (by simp); have hk := he.1; clear hr he
                      go_simp
                    refine VFrom.cons (VStep.val _ rfl _ rfl (.bool false) rfl trivial (fun ev wq hS he hr => ?_)) ?_
                    · have r0 : ev (.tmp 271) = .bool false := hr (271, some 4) (by simp); have r1 : ev (.tmp 277) = .bool false := hr (277, some 10) (by simp); have hk := he.1; clear hr he
                      go_simp
                    refine VFrom.cons (VStep.val _ rfl _ rfl (.bool false) rfl trivial (fun ev wq hS he hr => ?_)) ?_
                    · have r0 : ev (.tmp 278) = .bool false := hr (278, some 11) (by simp); have hk := he.1; clear hr he
                      go_simp
                    refine VFrom.cons (VStep.val _ rfl _ rfl (.slice (some ⟨b2, o2, none⟩) q d2) rfl rfl (fun ev wq hS he hr => ?_)) ?_
                    · have r0 : ev (.tmp 24) = .slice (some ⟨b2, o2, none⟩) q d2 := hr (24, none) (by simp); have hk := he.1; clear hr he
                      go_simp
                    refine VFrom.cons (VStep.val _ rfl _ rfl (.int .i64 (a : Int)) rfl rfl (fun ev wq hS he hr => ?_)) ?_
                    · have r0 : ev (.tmp 25) = .int .i64 (a : Int) := hr (25, none) (by simp); have hk := he.1; clear hr he
                      go_simp
                    refine VFrom.cons (VStep.val _ rfl _ rfl (.pointer (some ⟨b2, o2 + a * 16, none⟩)) rfl rfl (fun ev wq hS he hr => ?_)) ?_
                    · have r0 : ev (.tmp 280) = .slice (some ⟨b2, o2, none⟩) q d2 := hr (280, some 13) (by simp); have r1 : ev (.tmp 281) = .int .i64 (a : Int) := hr (281, some 14) (by simp); have hk := he.1; clear hr he
                      have e1 := AQ.out; have e2 := AQ'.out; have e3 := AQ2.out
                      go_simp
                    refine VFrom.cons (VStep.val _ rfl _ rfl (markV x) rfl rfl (fun ev wq hS he hr => ?_)) ?_
                    · have r0 : ev (.tmp 282) = .pointer (some ⟨b2, o2 + a * 16, none⟩) := hr (282, some 15) (by simp); have hk := he.1; clear hr he
                      exact exec_load rfl r0 (load_mark OX.out (range_kept LM.out hS.out))
                    refine VFrom.cons (VStep.val _ rfl _ rfl (markV x) rfl rfl (fun ev wq hS he hr => ?_)) ?_
                    · have r0 : ev (.tmp 27) = .pointer (some ⟨M5, 0, none⟩) := hr (27, none) (by simp); have hk := he.1; clear hr he
                      exact exec_load rfl r0 (load_mark OX.out (range_of (D6.out.kept hS.out (fun h => h))))
                    refine VFrom.cons (VStep.val _ rfl _ rfl (.bool false) rfl rfl (fun ev wq hS he hr => ?_)) ?_
                    · have r0 : ev (.tmp 283) = markV x := hr (283, some 16) (by simp); have r1 : ev (.tmp 284) = markV x := hr (284, some 17) (by simp); have hk := he.1; clear hr he
                      exact exec_neMark OX.out.len rfl r0 r1
                    refine VFrom.cons (VStep.val _ rfl _ rfl (.bool false) rfl trivial (fun ev wq hS he hr => ?_)) ?_
                    · have r0 : ev (.tmp 279) = .bool false := hr (279, some 12) (by simp); have r1 : ev (.tmp 285) = .bool false := hr (285, some 18) (by simp); have hk := he.1; clear hr he
                      go_simp
                    exact VFrom.nil
                  case hS => exact hid (Kp.refl Nb w6).drew
                  case hend =>
                    intro wy ky
                    have RY := hid (RE.out wy ky.out)
                    clear ky RE LI LM D6
                    simp only [putAll, List.zip_cons_cons, List.zip_nil_right, List.foldl_cons, List.foldl_nil, Act.put, List.setIfInBounds_toArray, List.set_cons_zero, List.set_cons_succ]
                    go_wp2
                    go_roundw
                    case rel => exact RY.out
                    case measure => have := HLT.out; simp [intOf]; omega
            · obtain rfl : Nt = k := by omega
              rw [← HQE.out]
              have K5r := hid (K59.out.trans KO.out (fun _ _ h => h))
              have FR1 := hid (F19.out.kept KO.out (fun h => h) (fun h => h))
              have HRr := hid (H9.out.kept KO.out (fun h => h))
              have c0 : wr.cell? ⟨D, 0, none⟩ = some (.int .i64 (s : Int)) := (HRr.out.cell 0).trans HC0.out
              obtain ⟨r, hr⟩ : ∃ r, s % 8192 = r := ⟨_, rfl⟩
              obtain ⟨n9, hn9⟩ : ∃ m, r + 64 = m := ⟨_, rfl⟩
              have hst := HT.out
              have hr8 : r % 8 = 0 := by omega
              have M1 : (s : Int).tmod 8192 = (r : Int) := by rw [Int.tmod_eq_emod_of_nonneg (by omega)]; omega
              have M2 : (s : Int) % 8192 = (r : Int) := by omega
              have M3 : (r : Int).tmod 8 = 0 := by rw [Int.tmod_eq_emod_of_nonneg (by omega)]; omega
              have M4 : (r : Int) % 8 = 0 := by omega
              have M5' : (r : Int) + 64 = (n9 : Int) := by omega
              have hr9 : r ≤ 8192 := by omega
              have HN9 : Hid (n9 = 8 * (r / 8 + 8) ∧ n9 ≠ s ∧ 64 ≤ n9 ∧ n9 ≤ 9000) := hid (by omega)
              clear KO hr hn9 hst hr8 K59 F19 H9 HB9 V19
              by_cases hf9 : r / 8 + 8 ≤ 1024
              · have HF9 := hid hf9
                have CN9 : Hid (∀ w, Calls Try.prog 8 #[.int .i64 (n9 : Int)] w fun e w' => ∃ B C, e = .returned (.tuple #[.pointer (some ⟨B, 0, none⟩), .int .i64 0]) ∧ FlAt w' B C (zerosL (r / 8 + 8)) ∧ w.heap.size ≤ B ∧ w.heap.size ≤ C ∧ Kp Nb w w') := hid (fun w => by rw [HN9.out.1]; exact lnew_yes (r / 8 + 8) w (by omega) HF9.out)
                clear hf9
                go_wp2_with fail
                refine (CN9.out _).mono ?_
                rintro e w10 ⟨B9, C9, rfl, f9, -, -, k10⟩
                have K10 := hid (K5r.out.trans k10 (fun _ _ h => h))
                have F9 := hid f9
                have FX := hid (FR1.out.kept k10 (fun h => h) (fun h => h))
                have LZ : Hid ((zerosL (r / 8 + 8)).length = r / 8 + 8) := hid List.length_replicate
                clear f9 k10 c0 M1 M2 M3 M4 M5' CN9
                go_wp2_with fail
                refine (lunion_no B1 C1 B9 C9 X _ _ FX.out F9.out (by rw [LZ.out, HXL.out]; have := HN9.out; have := HT.out; omega)).mono ?_
                rintro e w9 ⟨rfl, k11⟩
                have K59 := hid (K10.out.trans k11 (fun _ _ h => h))
                have F99 := hid (F9.out.kept k11 (fun h => h) (fun h => h))
                have CB9 : Hid (∀ w', Kp Nb w9 w' → Calls Try.prog 15 #[.pointer (some ⟨B9, 0, none⟩)] w' fun e w'' => e = .returned (.int .i64 (n9 : Int)) ∧ w' = w'') := hid (fun w' k => by
                  have h := lbits_any B9 C9 _ w' (F99.out.kept k (fun h => h) (fun h => h))
                  rw [LZ.out, ← HN9.out.1] at h
                  exact h)
                have N9 : Hid (((n9 : Int) == (s : Int)) = false) := hid (by have := HN9.out; simpa using (fun h : (n9 : Int) = (s : Int) => this.2.1 (by omega)))
                have N9' : Hid (¬ n9 = s) := hid HN9.out.2.1
                clear k11 K10 F9 FX
                go_upto_region 46 with fail
                refine region_vals2 [none, none, some 19, none, none, none, none, none, none, none, none, none, none, none, none, none, none, none, none, none, none, none, none, none, none, none, none, none, none, none, none, none, none, none, none, none, none, none, none, none, none, none, none, none, none, none, none, none, none, none, none, none, none, none, none, none, none, none, none, none, none, none, none, none, none, none, none, none, none, none, none, none, none, none, none, none, none, none, none, none, none, none, none, none, none, none, none, none, none, none, none, none, none, none, none, none, none, none, none, none, none, none, none, none, none, none, none, none, none, none, none, none, none, none, none, none, none, none, none, none, none, none, none, none, none, none, none, none, none, none, none, none, none, none, none, none, none, none, none, none, none, none, none, none, none, none, none, none, none, none, none, none, none, none, none, none, none, none, none, none, none, none, none, none, none, none, none, none, none, none, none, none, none, none, none, none, none, none, none, none, none, none, none, none, none, none, none, none, none, none, none, none, none, none, none, none, none, none, none, none, none, none, none, none, none, none, none, none, none, none, none, none, none, none, none, none, none, none, none, none, none, none, none, none, none, none, none, none, none, none, none, none, none, none, none, none, none, none, none, none, none, none, none, none, none, none, none, none, none, none, none, none, none, none, none, none, none, none, none, none, none, none, none, none, none, none, none, none, none, none, none, none, none, none, none, none, none, none, none, none, none, none, none, none, none, none, none, none, none, none, none, none, none, none, none, none, none, none, none, none, none, none, none, none, none, none, none, none, none, some 0, some 1, some 2, some 3, some 4, some 5, some 6, some 7, some 8, some 9, some 10, some 11, some 12, some 13, some 14, some 15, some 16, some 17, some 18] [[(23, none)], [(309, some 0)], [(25, none)], [(310, some 1), (311, some 2)], [(312, some 3)], [(28, none)], [(314, some 5)], [(315, some 6)], [(28, none)], [(317, some 8)], [(1, none)], [(319, some 10)], [(318, some 9), (320, some 11)], [(316, some 7), (321, some 12)], [(322, some 13)], [(31, none)], [(324, some 15)], [(323, some 14), (325, some 16)], [(313, some 4), (326, some 17)], [(327, some 18)]] [some 309, some 310, some 311, some 312, some 313, some 314, some 315, some 316, some 317, some 318, some 319, some 320, some 321, some 322, some 323, some 324, some 325, some 326, some 327, some 2] [.slice y1 q d1, .int .i64 (q : Int), .int .i64 (q : Int), .bool true, .bool true, .pointer (some ⟨B9, 0, none⟩), .bool false, .bool false, .pointer (some ⟨B9, 0, none⟩), .int .i64 (n9 : Int), .pointer (some ⟨D, 0, none⟩), .int .i64 (s : Int), .bool false, .bool false, .bool false, .int .i64 2, .bool true, .bool true, .bool true, .bool true] (fun w' => Hid (Kp Nb w9 w')) (by kernel_rfl) (by kernel_rfl) (by kernel_rfl) ?hS (VFrom.all (n := 20) (by kernel_rfl) ?hstep) ?hend
                case hstep =>
                  refine VFrom.cons (VStep.val _ rfl _ rfl (.slice y1 q d1) rfl trivial (fun ev wq hS he hr => ?_)) ?_
                  · have r0 : ev (.tmp 23) = .slice y1 q d1 := hr (23, none) (by simp); have hk := he.1; clear hr he
                    go_simp
                  refine VFrom.cons (VStep.val _ rfl _ rfl (.int .i64 (q : Int)) rfl trivial (fun ev wq hS he hr => ?_)) ?_
                  · have r0 : ev (.tmp 309) = .slice y1 q d1 := hr (309, some 0) (by simp); have hk := he.1; clear hr he
                    go_simp
                  refine VFrom.cons (VStep.val _ rfl _ rfl (.int .i64 (q : Int)) rfl trivial (fun ev wq hS he hr => ?_)) ?_
                  · have r0 : ev (.tmp 25) = .int .i64 (q : Int) := hr (25, none) (by simp); have hk := he.1; clear hr he
                    go_simp
                  refine VFrom.cons (VStep.val _ rfl _ rfl (.bool true) rfl trivial (fun ev wq hS he hr => ?_)) ?_
                  · have r0 : ev (.tmp 310) = .int .i64 (q : Int) := hr (310, some 1) (by simp); have r1 : ev (.tmp 311) = .int .i64 (q : Int) := hr (311, some 2) (by simp); have hk := he.1; clear hr he
                    go_simp
                  refine VFrom.cons (VStep.val _ rfl _ rfl (.bool true) rfl trivial (fun ev wq hS he hr => ?_)) ?_
                  · have r0 : ev (.tmp 312) = .bool true := hr (312, some 3) (by simp); have hk := he.1; clear hr he
                    go_simp
                  refine VFrom.cons (VStep.val _ rfl _ rfl (.pointer (some ⟨B9, 0, none⟩)) rfl rfl (fun ev wq hS he hr => ?_)) ?_
                  · have r0 : ev (.tmp 28) = .pointer (some ⟨B9, 0, none⟩) := hr (28, none) (by simp); have hk := he.1; clear hr he
                    go_simp
                  refine VFrom.cons (VStep.val _ rfl _ rfl (.bool false) rfl rfl (fun ev wq hS he hr => ?_)) ?_
                  · have r0 : ev (.tmp 314) = .pointer (some ⟨B9, 0, none⟩) := hr (314, some 5) (by simp); have hk := he.1; clear hr he
                    go_simp
                  refine VFrom.cons (VStep.val _ rfl _ rfl (.bool false) rfl rfl (fun ev wq hS he hr => ?_)) ?_
                  · have r0 : ev (.tmp 315) = .bool false := hr (315, some 6) (by simp); have hk := he.1; clear hr he
                    go_simp
                  refine VFrom.cons (VStep.val _ rfl _ rfl (.pointer (some ⟨B9, 0, none⟩)) rfl rfl (fun ev wq hS he hr => ?_)) ?_
                  · have r0 : ev (.tmp 28) = .pointer (some ⟨B9, 0, none⟩) := hr (28, none) (by simp); have hk := he.1; clear hr he
                    go_simp
                  refine VFrom.cons (VStep.call _ rfl _ rfl (.int .i64 (n9 : Int)) rfl rfl 15 #[.pointer (some ⟨B9, 0, none⟩)] (fun ev wq hS he hr => ?_) (fun wq hS => ?_)) ?_
                  · have r0 : ev (.tmp 317) = .pointer (some ⟨B9, 0, none⟩) := hr (317, some 8) (by simp); have hk := he.1; have hf := he.2; clear hr he
                    go_simp
                  · exact (CB9.out wq hS.out).mono fun e w' ⟨h1, h2⟩ => ⟨h1, by rw [← h2]; exact hS⟩
                  refine VFrom.cons (VStep.val _ rfl _ rfl (.pointer (some ⟨D, 0, none⟩)) rfl rfl (fun ev wq hS he hr => ?_)) ?_
                  · have r0 : ev (.tmp 1) = .pointer (some ⟨D, 0, none⟩) := hr (1, none) (by simp); have hk := he.1; clear hr he
                    go_simp
                  refine VFrom.cons (VStep.val _ rfl _ rfl (.int .i64 (s : Int)) rfl rfl (fun ev wq hS he hr => ?_)) ?_
                  · have r0 : ev (.tmp 319) = .pointer (some ⟨D, 0, none⟩) := hr (319, some 10) (by simp); have hk := he.1; clear hr he
                    have c0 := ((H5.out.kept (K59.out.trans hS.out (fun _ _ h => h)) (fun h => h)).cell 0).trans HC0.out
                    go_simp
                  refine VFrom.cons (VStep.val _ rfl _ rfl (.bool false) rfl rfl (fun ev wq hS he hr => ?_)) ?_
                  · have r0 : ev (.tmp 318) = .int .i64 (n9 : Int) := hr (318, some 9) (by simp); have r1 : ev (.tmp 320) = .int .i64 (s : Int) := hr (320, some 11) (by simp); have hk := he.1; clear hr he
                    have e1 := N9.out; have e2 := N9'.out
                    go_simp
                  refine VFrom.cons (VStep.val _ rfl _ rfl (.bool false) rfl rfl (fun ev wq hS he hr => ?_)) ?_
                  · have r0 : ev (.tmp 316) = .bool false := hr (316, some 7) (by simp); have r1 : ev (.tmp 321) = .bool false := hr (321, some 12) (by simp); have hk := he.1; clear hr he
                    go_simp
                  refine VFrom.cons (VStep.val _ rfl _ rfl (.bool false) rfl rfl (fun ev wq hS he hr => ?_)) ?_
                  · have r0 : ev (.tmp 322) = .bool false := hr (322, some 13) (by simp); have hk := he.1; clear hr he
                    go_simp
                  refine VFrom.cons (VStep.val _ rfl _ rfl (.int .i64 2) rfl rfl (fun ev wq hS he hr => ?_)) ?_
                  · have r0 : ev (.tmp 31) = .int .i64 2 := hr (31, none) (by simp); have hk := he.1; clear hr he
                    go_simp
                  refine VFrom.cons (VStep.val _ rfl _ rfl (.bool true) rfl rfl (fun ev wq hS he hr => ?_)) ?_
                  · have r0 : ev (.tmp 324) = .int .i64 2 := hr (324, some 15) (by simp); have hk := he.1; clear hr he
                    go_simp
                  refine VFrom.cons (VStep.val _ rfl _ rfl (.bool true) rfl rfl (fun ev wq hS he hr => ?_)) ?_
                  · have r0 : ev (.tmp 323) = .bool false := hr (323, some 14) (by simp); have r1 : ev (.tmp 325) = .bool true := hr (325, some 16) (by simp); have hk := he.1; clear hr he
                    go_simp
                  refine VFrom.cons (VStep.val _ rfl _ rfl (.bool true) rfl trivial (fun ev wq hS he hr => ?_)) ?_
                  · have r0 : ev (.tmp 313) = .bool true := hr (313, some 4) (by simp); have r1 : ev (.tmp 326) = .bool true := hr (326, some 17) (by simp); have hk := he.1; clear hr he
                    go_simp
                  refine VFrom.cons (VStep.val _ rfl _ rfl (.bool true) rfl trivial (fun ev wq hS he hr => ?_)) ?_
                  · have r0 : ev (.tmp 327) = .bool true := hr (327, some 18) (by simp); have hk := he.1; clear hr he
                    go_simp
                  exact VFrom.nil
                case hS => exact hid (Kp.refl Nb w9).drew
                case hend =>
                  intro wy ky
                  have KY := hid (KW5.out.trans (K59.out.trans ky.out (fun _ _ h => h)) (fun _ _ h => h))
                  clear ky
                  simp only [putAll, List.zip_cons_cons, List.zip_nil_right, List.foldl_cons, List.foldl_nil, Act.put, List.setIfInBounds_toArray, List.set_cons_zero, List.set_cons_succ]
                  go_wp2
                  go_ret
                  exact ⟨rfl, KY.out⟩
              · have CN9 : Hid (∀ w, Calls Try.prog 8 #[.int .i64 (n9 : Int)] w fun e w' => e = .returned (.tuple #[.pointer none, .int .i64 2]) ∧ w = w') := hid (fun w => lnew_no (n9 : Int) w (by omega) (by have := HN9.out; omega) (by
                  have := HN9.out
                  unfold fitL
                  refine decide_eq_false (fun h => ?_)
                  have h3 := h.2.2
                  rw [Int.tdiv_eq_ediv_of_nonneg (by omega)] at h3
                  omega))
                clear hf9
                go_wp2_with fail
                refine (CN9.out _).mono ?_
                rintro e w10 ⟨rfl, rfl⟩
                clear c0 M1 M2 M3 M4 M5' CN9
                go_wp2_with fail
                refine (lunion_none B1 _).mono ?_
                rintro e w9 ⟨rfl, rfl⟩
                have K59 := K5r
                go_upto_region 46 with fail
                refine region_vals2 [none, none, some 19, none, none, none, none, none, none, none, none, none, none, none, none, none, none, none, none, none, none, none, none, none, none, none, none, none, none, none, none, none, none, none, none, none, none, none, none, none, none, none, none, none, none, none, none, none, none, none, none, none, none, none, none, none, none, none, none, none, none, none, none, none, none, none, none, none, none, none, none, none, none, none, none, none, none, none, none, none, none, none, none, none, none, none, none, none, none, none, none, none, none, none, none, none, none, none, none, none, none, none, none, none, none, none, none, none, none, none, none, none, none, none, none, none, none, none, none, none, none, none, none, none, none, none, none, none, none, none, none, none, none, none, none, none, none, none, none, none, none, none, none, none, none, none, none, none, none, none, none, none, none, none, none, none, none, none, none, none, none, none, none, none, none, none, none, none, none, none, none, none, none, none, none, none, none, none, none, none, none, none, none, none, none, none, none, none, none, none, none, none, none, none, none, none, none, none, none, none, none, none, none, none, none, none, none, none, none, none, none, none, none, none, none, none, none, none, none, none, none, none, none, none, none, none, none, none, none, none, none, none, none, none, none, none, none, none, none, none, none, none, none, none, none, none, none, none, none, none, none, none, none, none, none, none, none, none, none, none, none, none, none, none, none, none, none, none, none, none, none, none, none, none, none, none, none, none, none, none, none, none, none, none, none, none, none, none, none, none, none, none, none, none, none, none, none, none, none, none, none, none, none, none, none, none, none, none, none, some 0, some 1, some 2, some 3, some 4, some 5, some 6, some 7, some 8, some 9, some 10, some 11, some 12, some 13, some 14, some 15, some 16, some 17, some 18] [[(23, none)], [(309, some 0)], [(25, none)], [(310, some 1), (311, some 2)], [(312, some 3)], [(28, none)], [(314, some 5)], [(315, some 6)], [(28, none)], [(317, some 8)], [(1, none)], [(319, some 10)], [(318, some 9), (320, some 11)], [(316, some 7), (321, some 12)], [(322, some 13)], [(31, none)], [(324, some 15)], [(323, some 14), (325, some 16)], [(313, some 4), (326, some 17)], [(327, some 18)]] [some 309, some 310, some 311, some 312, some 313, some 314, some 315, some 316, some 317, some 318, some 319, some 320, some 321, some 322, some 323, some 324, some 325, some 326, some 327, some 2] [.slice y1 q d1, .int .i64 (q : Int), .int .i64 (q : Int), .bool true, .bool true, .pointer none, .bool true, .bool true, undef, undef, undef, undef, undef, .bool true, .bool true, undef, undef, .bool true, .bool true, .bool true] (fun w' => Hid (Kp Nb wr w')) (by kernel_rfl) (by kernel_rfl) (by kernel_rfl) ?hS (VFrom.all (n := 20) (by kernel_rfl) ?hstep) ?hend
                case hstep =>
                  refine VFrom.cons (VStep.val _ rfl _ rfl (.slice y1 q d1) rfl trivial (fun ev wq hS he hr => ?_)) ?_
                  · have r0 : ev (.tmp 23) = .slice y1 q d1 := hr (23, none) (by simp); have hk := he.1; clear hr he
                    go_simp
                  refine VFrom.cons (VStep.val _ rfl _ rfl (.int .i64 (q : Int)) rfl trivial (fun ev wq hS he hr => ?_)) ?_
                  · have r0 : ev (.tmp 309) = .slice y1 q d1 := hr (309, some 0) (by simp); have hk := he.1; clear hr he
                    go_simp
                  refine VFrom.cons (VStep.val _ rfl _ rfl (.int .i64 (q : Int)) rfl trivial (fun ev wq hS he hr => ?_)) ?_
                  · have r0 : ev (.tmp 25) = .int .i64 (q : Int) := hr (25, none) (by simp); have hk := he.1; clear hr he
                    go_simp
                  refine VFrom.cons (VStep.val _ rfl _ rfl (.bool true) rfl trivial (fun ev wq hS he hr => ?_)) ?_
                  · have r0 : ev (.tmp 310) = .int .i64 (q : Int) := hr (310, some 1) (by simp); have r1 : ev (.tmp 311) = .int .i64 (q : Int) := hr (311, some 2) (by simp); have hk := he.1; clear hr he
                    go_simp
                  refine VFrom.cons (VStep.val _ rfl _ rfl (.bool true) rfl trivial (fun ev wq hS he hr => ?_)) ?_
                  · have r0 : ev (.tmp 312) = .bool true := hr (312, some 3) (by simp); have hk := he.1; clear hr he
                    go_simp
                  refine VFrom.cons (VStep.val _ rfl _ rfl (.pointer none) rfl rfl (fun ev wq hS he hr => ?_)) ?_
                  · have r0 : ev (.tmp 28) = .pointer none := hr (28, none) (by simp); have hk := he.1; clear hr he
                    go_simp
                  refine VFrom.cons (VStep.val _ rfl _ rfl (.bool true) rfl rfl (fun ev wq hS he hr => ?_)) ?_
                  · have r0 : ev (.tmp 314) = .pointer none := hr (314, some 5) (by simp); have hk := he.1; clear hr he
                    go_simp
                  refine VFrom.cons (VStep.val _ rfl _ rfl (.bool true) rfl rfl (fun ev wq hS he hr => ?_)) ?_
                  · have r0 : ev (.tmp 315) = .bool true := hr (315, some 6) (by simp); have hk := he.1; clear hr he
                    go_simp
                  refine VFrom.cons (VStep.skip _ rfl rfl rfl) ?_
                  refine VFrom.cons (VStep.skip _ rfl rfl rfl) ?_
                  refine VFrom.cons (VStep.skip _ rfl rfl rfl) ?_
                  refine VFrom.cons (VStep.skip _ rfl rfl rfl) ?_
                  refine VFrom.cons (VStep.skip _ rfl rfl rfl) ?_
                  refine VFrom.cons (VStep.val _ rfl _ rfl (.bool true) rfl rfl (fun ev wq hS he hr => ?_)) ?_
                  · have r0 : ev (.tmp 316) = .bool true := hr (316, some 7) (by simp); have r1 : ev (.tmp 321) = undef := hr (321, some 12) (by simp); have hk := he.1; clear hr he
                    go_simp
                  refine VFrom.cons (VStep.val _ rfl _ rfl (.bool true) rfl rfl (fun ev wq hS he hr => ?_)) ?_
                  · have r0 : ev (.tmp 322) = .bool true := hr (322, some 13) (by simp); have hk := he.1; clear hr he
                    go_simp
                  refine VFrom.cons (VStep.skip _ rfl rfl rfl) ?_
                  refine VFrom.cons (VStep.skip _ rfl rfl rfl) ?_
                  refine VFrom.cons (VStep.val _ rfl _ rfl (.bool true) rfl rfl (fun ev wq hS he hr => ?_)) ?_
                  · have r0 : ev (.tmp 323) = .bool true := hr (323, some 14) (by simp); have r1 : ev (.tmp 325) = undef := hr (325, some 16) (by simp); have hk := he.1; clear hr he
                    go_simp
                  refine VFrom.cons (VStep.val _ rfl _ rfl (.bool true) rfl trivial (fun ev wq hS he hr => ?_)) ?_
                  · have r0 : ev (.tmp 313) = .bool true := hr (313, some 4) (by simp); have r1 : ev (.tmp 326) = .bool true := hr (326, some 17) (by simp); have hk := he.1; clear hr he
                    go_simp
                  refine VFrom.cons (VStep.val _ rfl _ rfl (.bool true) rfl trivial (fun ev wq hS he hr => ?_)) ?_
                  · have r0 : ev (.tmp 327) = .bool true := hr (327, some 18) (by simp); have hk := he.1; clear hr he
                    go_simp
                  exact VFrom.nil
                case hS => exact hid (Kp.refl Nb _).drew
                case hend =>
                  intro wy ky
                  have KY := hid (KW5.out.trans (K59.out.trans ky.out (fun _ _ h => h)) (fun _ _ h => h))
                  clear ky
                  simp only [putAll, List.zip_cons_cons, List.zip_nil_right, List.foldl_cons, List.foldl_nil, Act.put, List.setIfInBounds_toArray, List.set_cons_zero, List.set_cons_succ]
                  go_wp2
                  go_ret
                  exact ⟨rfl, KY.out⟩

end Go.Proofs.Ytpgiinogfmhfiaa

namespace Go.Proofs.Ytpgiinogfmhfiaa
open Go.ChangeShapes Go.WideShapes Go.ChangeAt Go.RowKit

theorem ltells_any (cs : List Value) (n n1 : Int) (vA vB : Value) (ms mt : List (List Int)) (mm : List Int) (w : World) (hc0 : cs[0]? = some (.int .i64 n)) (hc1 : cs[1]? = some (.int .i64 n1)) (hc2 : cs[2]? = some vA) (hc3 : cs[3]? = some vB) (hcm : (cs.drop 4).take 16 = markL mm) (hmm : MarkOk mm) (hA : MkSl w vA ms) (hB : MkSl w vB mt) (hn : -9223372036854775808 ≤ n ∧ n < 9223372036854775808) :
    Calls Try.prog 3 #[.agg cs.toArray] w fun e w' => e = .returned (.bool true) ∧ Kp Nb w w' := by
  cases hf : fitL n with
  | false => exact ltells_no cs n vA vB ms mt mm w hc0 hc2 hc3 hcm hmm hA hB hn hf
  | true =>
    obtain ⟨t, rfl, t0, t1⟩ := fitL_t hf
    exact ltells_yes cs t n1 vA vB ms mt mm w hc0 hc1 hc2 hc3 hcm hmm hA hB t0 t1
set_option maxRecDepth 100000 in
theorem btells_lifted (os : Os) (started : os.Started) (H : Type) (enc : TypeId × Value → H) :
    ReturnsInHanded {} Try.checked os 3 .any (Rows.bloomTellsSpec.pre6 enc Try.prog Try.f3 Rows.bloomTellsRow.domain false) (Rows.bloomTellsSpec.post enc Try.prog Try.f3 false true false false) := by
  refine returnsInHanded_of_change (C := Try.checked) own started (by kernel_rfl) Try.func3
    (ChangeSpec.witness6 (enc := enc) (C := Try.checked) false ⟨#[], #[.agg #[.int .i64 0, .int .i64 0, .slice none 0 0, .slice none 0 0, .int .u8 0, .int .u8 0, .int .u8 0, .int .u8 0, .int .u8 0, .int .u8 0, .int .u8 0, .int .u8 0, .int .u8 0, .int .u8 0, .int .u8 0, .int .u8 0, .int .u8 0, .int .u8 0, .int .u8 0, .int .u8 0, .slice none 0 0]], []⟩ 8 (by kernel_rfl) (by kernel_rfl) (by kernel_rfl) (by kernel_rfl)) ?_
  intro W base args ds gs before hval0 hW hcnd _
  have hval : ∀ (j : Nat) t v, Try.f3.params[j]? = some t → args[j]? = some v → Value.okWide Try.prog W .any base t v := hval0
  have hW' := hW
  obtain ⟨p, q, hA0, hV, rfl, hfz, hnd⟩ := hW
  have hA : DataW.TrodAll enc Try.prog W 0 (fun _ => true) true Try.f3.params.toList args.toList ds p := hA0
  rw [Try.params3] at hA hval
  obtain ⟨v0, vs0, d0, ds0, p0, q0, hargs, rfl, rfl, h0, r0⟩ := trodAll_cons hA
  obtain ⟨rfl, rfl, rfl⟩ := trodAll_nil r0
  obtain rfl : args = #[v0] := by cases args; simp_all
  obtain ⟨rfl, rfl⟩ := trodVars_none hV
  have lt0 : ∀ x ∈ p0, x.block < W.heap.size := by obtain ⟨m, hm⟩ := h0; exact DataW.trod_lt m _ _ _ hm
  obtain ⟨cs, n, n1, vA, vB, ms, mt, rfl, hlen, hc0, hc1, hc2, hc3, hA1, hB1, hn, hn1⟩ := open_bcase (hval 0 27 v0 rfl rfl) h0
  obtain ⟨cs', mm, ecs, hcm, hmm⟩ := open_bmark (hval 0 27 _ rfl rfl) h0
  obtain rfl : cs = cs' := by simpa using ecs
  clear hA0 hval0 ecs
  refine (ltells_any cs n n1 vA vB ms mt mm W hc0 hc1 hc2 hc3 hcm hmm hA1 hB1 hn).mono fun e W' ⟨he, kp⟩ => ?_
  subst he
  have bel : Below W.heap.size W W' := kp.below (Nat.le_refl _) (fun _ _ h => h)
  exact ⟨_, rfl, _, _, _, [], _, [], hW', trodAll_mk1 (shut_bool Try.underlying4 _), (trodAll_cons_mk (Below.trod laidOut (by kernel_rfl) (of_decide_eq_true (by kernel_rfl)) h0 bel lt0) trodAll_mk0), rfl, bel.frame _, fun h => by cases h⟩

theorem btells_over : Rows.bloomTellsRow.holds Try.pinned (OpenSpec.ofChange Rows.bloomTellsSpec) :=
  OpenClaim.holds_of_wide 3 Try.f3 rfl rfl rfl rfl rfl rfl rfl ⟨rfl, rfl, rfl, rfl, rfl⟩ rfl rfl rfl rfl rfl (by kernel_rfl) Try.func3 (by kernel_rfl)
    (of_decide_eq_true (by kernel_rfl)) (by unfold Func.isWrapper; first | (rw [if_pos (by decide +kernel)]; kernel_rfl) | (rw [if_neg (by decide +kernel)]; exact ⟨rfl, rfl⟩))
    (fun os started H enc _ => btells_lifted os started H enc)

theorem btells_said : Rows.BloomTellsSaid := btells_over
end Go.Proofs.Ytpgiinogfmhfiaa
