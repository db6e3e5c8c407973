/-
  Layer 22: LedgerSums walked; a list of pairs of two numbers as an argument. Condition: the table of powers of ten lies as the program's text lays it.
-/
import Derived.Test.YtjipcmhknikcgaaDoorLgN
import Derived.Test.YtjipcmhknikcgaaDoorOpenRk
namespace Go.Proofs.YtjipcmhknikcgaaDoor
open Go.RowKit

abbrev PrQ := Int × Int
def prL (q : PrQ) : List Value := [.int .u16 q.1, .int .u16 q.2]
def PrOk (q : PrQ) : Prop := (0 ≤ q.1 ∧ q.1 < 65536) ∧ 0 ≤ q.2 ∧ q.2 < 65536
/-- A list of pairs. -/
structure PrSl (w : World) (v : Value) (qs : List PrQ) : Prop where
  sl : RowsSl prL (0, 0) 2 w v qs
  ok : ∀ q ∈ qs, PrOk q
theorem PrSl.kept {S : Nat → Prop} {w w' : World} {v : Value} {qs : List PrQ} (h : PrSl w v qs) (k : Kp S w w') (hS : ∀ g, g < w.heap.size → ¬ S g) : PrSl w' v qs := by
  refine ⟨?_, h.ok⟩
  rcases h.sl with h | ⟨blk, off, cap, rfl, h1, h2, h3⟩
  · exact .inl h
  · exact .inr ⟨blk, off, cap, rfl, h1, h2, fun i hi j v hv => k.cell (h3 i hi j v hv) (hS blk (World.block_lt_of_cell? w ⟨blk, off + i * 2 + j, none⟩ (h3 i hi j v hv)))⟩
theorem pr_load {w : World} {B o : Nat} {q : PrQ} (h : w.rangeAt B o (prL q)) : (Instr.loadAt 52 (.pointer (some ⟨B, o, none⟩))).run Tryd.prog w = .ok (.agg #[.int .u16 q.1, .int .u16 q.2]) w :=
  run_loadAt_mid w B o 52 (prL q) _ h Tryd.underlying52 rfl (by kernel_rfl)
theorem mx_is : mx64 = 18446744073709551615 := rfl
theorem sent_sum {rs : List RwQ} (hl : rs.length = 14) (ok : ∀ q ∈ rs, RwOk q) {kx y : Int} (hk : knd kx = true) (hy : 0 ≤ y) (h1 : S1 rs + 1 ≤ 18446744073709551615) (h2 : S2 rs + y ≤ 18446744073709551615) :
    S1 (setK rs kx (sumR (rowOf rs kx) (1, y))) = S1 rs + 1 ∧ S2 (setK rs kx (sumR (rowOf rs kx) (1, y))) = S2 rs + y := by
  have hk2 : 1 ≤ kx ∧ kx ≤ 14 := of_decide_eq_true hk
  obtain ⟨x, rfl⟩ : ∃ x : Nat, kx = (x : Int) + 1 := ⟨(kx - 1).toNat, by omega⟩
  have hx : x < 14 := by omega
  rw [setK_in rs x hx, rowOf_in rs x hx]
  have g := S_ge ok x
  have n := rowAt_ok ok x
  have hy0 := hy
  unfold RwOk u64R at n
  have e : sumR (rowAt rs x) (1, y) = ((rowAt rs x).1 + 1, (rowAt rs x).2 + y) := by
    unfold sumR plusS
    rw [mx_is]
    refine Prod.ext ?_ ?_
    · show min ((rowAt rs x).1 + 1) 18446744073709551615 = _; omega
    · show min ((rowAt rs x).2 + y) 18446744073709551615 = _; omega
  unfold S1 S2
  rw [S_set (·.1) rs x _ (by omega), S_set (·.2) rs x _ (by omega), e]
  show _ - (rowAt rs x).1 + ((rowAt rs x).1 + 1) = _ ∧ _ - (rowAt rs x).2 + ((rowAt rs x).2 + y) = _
  omega
theorem setK_no (rs : List RwQ) {kx : Int} (hk : knd kx = false) (r : RwQ) : setK rs kx r = rs := by unfold setK; rw [hk]; rfl
theorem tot_fit {rs : List RwQ} {F Bt : Nat} (h : S1 rs = (F : Int) ∧ S2 rs = (Bt : Int)) (h1 : F ≤ 18446744073709551615) (h2 : Bt ≤ 18446744073709551615) : totR rs = ((F : Int), (Bt : Int)) := by
  unfold totR sat
  rw [h.1, h.2, mx_is]
  refine Prod.ext ?_ ?_
  · show min (F : Int) 18446744073709551615 = F; omega
  · show min (Bt : Int) 18446744073709551615 = Bt; omega
/-- Between two rounds. -/
def SuI (w1 : World) (B N : Nat) (f b i : Value) (wr : World) : Prop := ∃ (k F Bt : Nat) (rs : List RwQ), k ≤ N ∧ i = .int .i64 k ∧ f = .int .u64 F ∧ b = .int .u64 Bt ∧ Hid (F ≤ k ∧ Bt ≤ 65535 * k) ∧ Hid (LgAt wr B rs) ∧ Hid (S1 rs = (F : Int) ∧ S2 rs = (Bt : Int)) ∧ Hid (Kp (Jb B) w1 wr)

set_option maxRecDepth 100000 in
set_option maxHeartbeats 4000000 in
theorem lsums_any (v : Value) (qs : List PrQ) (s1 s2 : Int) (w : World) (ht : Tb w) (hv : PrSl w v qs) (hs : RwOk (s1, s2)) :
    Calls Tryd.prog 4 #[v, rV (s1, s2)] w fun e w' => e = .returned (.bool true) ∧ Kp Nb w w' := by
  obtain ⟨y0, N, c0, rfl⟩ : ∃ a n c, v = .slice a n c := by
    rcases hv.sl with ⟨⟨a, c, h⟩, _⟩ | ⟨blk, off, cap, rfl, _⟩
    · exact ⟨_, _, _, h⟩
    · exact ⟨_, _, _, rfl⟩
  have hN : qs.length = N := by
    rcases hv.sl with ⟨⟨a, c, h⟩, rfl⟩ | ⟨blk, off, cap, h, _⟩
    · cases h; rfl
    · cases h; rfl
  have HT := hid ht
  have HV := hid hv
  have HS := hid hs
  have HN := hid hN
  obtain ⟨M, hM⟩ : ∃ M, w.heap.size = M := ⟨_, rfl⟩
  obtain ⟨W, hW⟩ : ∃ W, W = w.alloc (.cells (rL (s1, s2)).toArray 29) := ⟨_, rfl⟩
  have H3 : Hid (Blk W M 29 (rL (s1, s2))) := hid (by rw [hW, ← hM]; exact Blk.new w _ _)
  have K0 : Hid (Kp Nb w W) := hid (by rw [hW]; exact (Kp.refl Nb w).alloc _)
  have HM := hid hM
  clear ht hv hs hN
  go_enter Tryd.func4, Tryd.ntmps4
  go_upto_region 1 with fail
  rw [show w.alloc (.cells (rL (s1, s2)).toArray 29) = W from hW.symm]
  clear hW hM
  go_wp2_with fail
  refine (lfirst_any _ (HT.out.kept K0.out (fun h => h))).mono ?_
  rintro e w1 ⟨rfl, k1⟩
  have H31 := hid (H3.out.kept k1 (fun h => h))
  have K1 := hid (K0.out.trans k1 (fun _ _ h => h))
  clear k1 H3 K0
  by_cases hl : 200 < N
  · have d1 : decide ((N : Int) > 200) = true := decide_eq_true (by omega)
    go_wp2
    go_ret
    exact ⟨rfl, K1.out⟩
  have d1 : decide ((N : Int) > 200) = false := decide_eq_false (by omega)
  have HN200 : Hid (N ≤ 200) := hid (by omega)
  clear hl
  go_wp2_with fail
  refine (lgnew_any _).mono ?_
  rintro e w2 ⟨B, rfl, h2, hB, k2⟩
  have K2 := hid (K1.out.trans k2 (fun _ _ h => h))
  have H32 := hid (H31.out.kept k2 (fun h => h))
  have HB : Hid (w1.heap.size ≤ B ∧ w.heap.size ≤ B ∧ M < B) := hid ⟨hB, Nat.le_trans K1.out.size hB, by have := H31.out.lt; omega⟩
  have I0 : Hid (LgAt w2 B zero14) := hid h2
  have T0 : Hid (Kp (Jb B) w2 w2) := hid (Kp.refl _ _)
  clear h2 hB k2 H31 K1 d1
  go_wp2
  go_loopw [6, 7, 20] (SuI w2 B N) (fun f b i _ => N - (intOf i).toNat)
  case atStart => exact ⟨0, 0, 0, zero14, Nat.zero_le _, rfl, rfl, rfl, hid ⟨Nat.le_refl _, Nat.le_refl _⟩, I0, hid ⟨rfl, rfl⟩, T0⟩
  case round =>
    clear I0 T0
    obtain ⟨k, F, Bt, rs, hk, rfl, rfl, rfl, HF, HL, HS12, HK⟩ := hrel
    by_cases hlt : k < N
    · have HLT := hid hlt
      have HVK := hid (HV.out.kept ((K2.out.mono (S' := Jb B) (fun _ _ h => h.elim)).trans HK.out (fun _ _ h => h)) (fun g hg e => by have e2 : g = B := e; have := HB.out; omega))
      obtain ⟨q, hq⟩ : ∃ q, qs[k]?.getD (0, 0) = q := ⟨_, rfl⟩
      obtain ⟨blk, off, rfl, hcell⟩ : ∃ blk off, y0 = some ⟨blk, off, none⟩ ∧ wr.rangeAt blk (off + k * 2) (prL q) := by
        rcases HVK.out.sl with ⟨_, h⟩ | ⟨blk, off, cap, h, _, _, h3⟩
        · rw [h] at HN; have : 0 = N := HN.out; omega
        · cases h
          exact ⟨blk, off, rfl, by rw [← hq]; exact h3 k (by have := HN.out; omega)⟩
      have hpo : PrOk q := by
        rw [← hq, List.getElem?_eq_getElem (by have := HN.out; omega)]
        exact HV.out.ok _ (List.getElem_mem _)
      have HLD := hid (pr_load hcell)
      obtain ⟨x, y⟩ := q
      obtain ⟨⟨x0, x1⟩, y0', y1⟩ := hpo
      obtain ⟨kx, hkx⟩ : ∃ kx, Int.tmod x 16 = kx := ⟨_, rfl⟩
      have hwx : IntKind.i64.wrap x = x := IntWalk.i64_in _ (by omega)
      have hwy : IntKind.i64.wrap y = y := IntWalk.i64_in _ (by omega)
      obtain ⟨W5, hW5⟩ : ∃ W, W = wr.alloc (.cells #[.int .u16 x, .int .u16 y] 52) := ⟨_, rfl⟩
      have K5 : Hid (Kp Nb wr W5) := hid (by rw [hW5]; exact (Kp.refl Nb wr).alloc _)
      have H5 : Hid (Blk W5 wr.heap.size 52 [.int .u16 x, .int .u16 y]) := hid (by rw [hW5]; exact Blk.new wr _ [.int .u16 x, .int .u16 y])
      clear hcell hq
      have CS := hid (sent_any B rs kx y W5 (HL.out.kept K5.out (fun h => h)) (by omega))
      go_wp2_with (first
        | (refine wpList_val (by rfl) _ _ (exec_loadL (T := 52) (a := ⟨blk, off + k * 2, none⟩) rfl (by rfl) HLD.out) ?_))
      rw [show wr.alloc (.cells #[.int .u16 x, .int .u16 y] 52) = W5 from hW5.symm]
      clear hW5 hwx
      refine CS.out.mono ?_
      rintro e w3 ⟨rfl, h3, k3⟩
      have KR : Hid (Kp (Jb B) w2 w3) := hid ((HK.out.trans K5.out (fun _ _ h => h.elim)).trans k3 (fun _ _ h => h))
      have HLEN : rs.length = 14 := HL.out.len
      have HOK := HL.out.ok
      obtain ⟨bk, hbk⟩ : ∃ b, knd kx = b := ⟨_, rfl⟩
      rw [hbk]
      cases bk with
      | true =>
        obtain ⟨Y, rfl⟩ : ∃ Y : Nat, y = (Y : Int) := ⟨y.toNat, by omega⟩
        have hF := HF.out
        have hS := HS12.out
        have hN2 := HN200.out
        have hss := sent_sum HLEN HOK hbk (y := (Y : Int)) (by omega) (by rw [hS.1]; omega) (by rw [hS.2]; omega)
        obtain ⟨rs', hrs⟩ : ∃ r, setK rs kx (sumR (rowOf rs kx) (1, (Y : Int))) = r := ⟨_, rfl⟩
        rw [hrs] at hss h3
        rw [hS.1, hS.2] at hss
        obtain ⟨F', hF'⟩ : ∃ n : Nat, n = F + 1 := ⟨_, rfl⟩
        obtain ⟨Bt', hB'⟩ : ∃ n : Nat, n = Bt + Y := ⟨_, rfl⟩
        have wF : IntKind.u64.wrap ((F : Int) + 1) = (F' : Int) := by
          have e : IntKind.u64.wrap ((F : Int) + 1) = ((F : Int) + 1) % 18446744073709551616 := by simp [IntKind.wrap, IntKind.bits, IntKind.signed]
          rw [e]; omega
        have wY : IntKind.u64.wrap (Y : Int) = (Y : Int) := by
          have e : IntKind.u64.wrap (Y : Int) = (Y : Int) % 18446744073709551616 := by simp [IntKind.wrap, IntKind.bits, IntKind.signed]
          rw [e]; omega
        have wB : IntKind.u64.wrap ((Bt : Int) + (Y : Int)) = (Bt' : Int) := by
          have e : IntKind.u64.wrap ((Bt : Int) + (Y : Int)) = ((Bt : Int) + (Y : Int)) % 18446744073709551616 := by simp [IntKind.wrap, IntKind.bits, IntKind.signed]
          rw [e]; omega
        have HSS : Hid (S1 rs' = (F' : Int) ∧ S2 rs' = (Bt' : Int)) := hid (by rw [hss.1, hss.2]; omega)
        have HFB : Hid (F' ≤ k + 1 ∧ Bt' ≤ 65535 * (k + 1)) := hid (by omega)
        have H3' := hid h3
        have HTT : Hid (accR rs' (nzT rs' 14) = ((F' : Int), (Bt' : Int))) := hid (by rw [tot_is h3.len h3.ok]; exact tot_fit HSS.out (by omega) (by omega))
        have hc1 := (H5.out.kept k3 (fun e => by have e2 : wr.heap.size = B := e; have := HL.out.blk.lt; omega)).cell 1
        replace hc1 : w3.cell? ⟨wr.heap.size, 1, none⟩ = some (.int .u16 (Y : Int)) := hc1
        have qe := f_eq (F' : Int) (Bt' : Int)
        have CT := hid (total_any (some B) rs' w3 (.inl ⟨B, rfl, h3⟩))
        rw [HTT.out] at CT
        replace CT : Hid (Calls Tryd.prog 15 #[.pointer (some ⟨B, 0, none⟩)] w3 fun e w' => e = .returned (.agg #[.int .u64 (F' : Int), .int .u64 (Bt' : Int)]) ∧ Kp Nb w3 w') := CT
        clear h3 k3 hss hrs hF' hB' hF hS hN2 hbk HOK HLEN
        go_wp2_with fail
        refine CT.out.mono ?_
        rintro e w4 ⟨rfl, k4⟩
        have K4 := hid k4
        have hN3 := HN200.out
        clear k4 hc1
        go_wp2
        go_roundw
        case rel => exact ⟨k + 1, F', Bt', rs', HLT.out, by go_num, rfl, rfl, HFB, hid (H3'.out.kept K4.out (fun h => h)), HSS, hid (KR.out.trans K4.out (fun _ _ h => h.elim))⟩
        case measure => have := HLT.out; simp [intOf]; omega
      | false =>
        have hF := HF.out
        have hN2 := HN200.out
        rw [setK_no rs hbk] at h3
        have HFB : Hid (F ≤ k + 1 ∧ Bt ≤ 65535 * (k + 1)) := hid (by omega)
        have H3' := hid h3
        have HTT : Hid (accR rs (nzT rs 14) = ((F : Int), (Bt : Int))) := hid (by rw [tot_is h3.len h3.ok]; exact tot_fit HS12.out (by omega) (by omega))
        have qe := f_eq (F : Int) (Bt : Int)
        have CT := hid (total_any (some B) rs w3 (.inl ⟨B, rfl, h3⟩))
        rw [HTT.out] at CT
        replace CT : Hid (Calls Tryd.prog 15 #[.pointer (some ⟨B, 0, none⟩)] w3 fun e w' => e = .returned (.agg #[.int .u64 (F : Int), .int .u64 (Bt : Int)]) ∧ Kp Nb w3 w') := CT
        clear h3 k3 hF hN2 hbk HOK HLEN
        go_wp2_with fail
        refine CT.out.mono ?_
        rintro e w4 ⟨rfl, k4⟩
        have K4 := hid k4
        have hN3 := HN200.out
        clear k4
        go_wp2
        go_roundw
        case rel => exact ⟨k + 1, F, Bt, rs, HLT.out, by go_num, rfl, rfl, HFB, hid (H3'.out.kept K4.out (fun h => h)), HS12, hid (KR.out.trans K4.out (fun _ _ h => h.elim))⟩
        case measure => have := HLT.out; simp [intOf]; omega
    · obtain rfl : k = N := by omega
      have HS0 := HS.out
      unfold RwOk u64R at HS0
      rw [mx_is] at HS0
      have hF := HF.out
      have hN2 := HN200.out
      go_wp2_with fail
      refine (lgnew_any _).mono ?_
      rintro e w3 ⟨By, rfl, h3, hBy, k3⟩
      have HX3 := hid (HL.out.kept k3 (fun h => h))
      have K23 : Hid (Kp (Jb B) w2 w3) := hid (HK.out.trans k3 (fun _ _ h => h.elim))
      have HBY : Hid (wr.heap.size ≤ By ∧ B < By) := hid ⟨hBy, by have := HL.out.blk.lt; omega⟩
      have HM3 := hid (H32.out.kept K23.out (fun e => by have e2 : M = B := e; have := HB.out; omega))
      have LS := hid (rw_load0 HM3.out)
      have CW := hid (with_any By zero14 3 (s1, s2) w3 h3 HS.out)
      clear h3 hBy k3
      go_wp2_with (first
        | (refine wpList_val (by rfl) _ _ (exec_loadL (T := 29) (a := ⟨M, 0, none⟩) rfl (by rfl) LS.out) ?_))
      refine CW.out.mono ?_
      rintro e w4 ⟨rfl, h4, k4⟩
      have HX4 := hid (HX3.out.kept k4 (fun e => by have e2 : B = By := e; have := HBY.out; omega))
      have HM4 := hid (HM3.out.kept k4 (fun e => by have e2 : M = By := e; have := HBY.out; have := HB.out; omega))
      obtain ⟨ys, hys⟩ : ∃ y, setK zero14 3 (s1, s2) = y := ⟨_, rfl⟩
      rw [hys] at h4
      have CA := hid (ladd_any By ys (some B) rs w4 h4 (.inl ⟨B, rfl, HX4.out⟩))
      have HY : Hid (ys.length = 14 ∧ (∀ q ∈ ys, RwOk q) ∧ S1 ys = s1 ∧ S2 ys = s2) := hid ⟨h4.len, h4.ok, by rw [← hys]; simp [setK, knd, zero14, S1], by rw [← hys]; simp [setK, knd, zero14, S2]⟩
      have KW4 : Hid (Kp Nb w w4) := hid ((K2.out.trans (S' := Jb B) K23.out (fun i hi h => by have e2 : i = B := h; have := HB.out; omega)).trans (S' := Jb By) k4 (fun i hi h => by have e2 : i = By := h; have := HBY.out; have := HB.out; omega))
      have HLX := hid HL.out.len
      have HOX := hid HL.out.ok
      rw [show knd 3 = true from rfl]
      clear h4 k4 hys CW LS HX3 HM3 K23
      go_wp2_with fail
      refine CA.out.mono ?_
      rintro e w5 ⟨rfl, h5, k5⟩
      have HM5 := hid (HM4.out.kept k5 (fun e => by have e2 : M = By := e; have := HBY.out; have := HB.out; omega))
      have KW5 : Hid (Kp Nb w w5) := hid (KW4.out.trans (S' := Jb By) k5 (fun i hi h => by have e2 : i = By := h; have := HBY.out; have := HB.out; have := KW4.out.size; omega))
      rw [addT_is HY.out.1 HLX.out HY.out.2.1] at h5
      have hsm := addR_sum (HY.out.1.trans HLX.out.symm) HY.out.2.1 HOX.out
      rw [HY.out.2.2.1, HY.out.2.2.2, HS12.out.1, HS12.out.2] at hsm
      unfold sat at hsm
      rw [mx_is] at hsm
      obtain ⟨T1, hT1⟩ : ∃ z, min (s1 + (F : Int)) 18446744073709551615 = z := ⟨_, rfl⟩
      obtain ⟨T2, hT2⟩ : ∃ z, min (s2 + (Bt : Int)) 18446744073709551615 = z := ⟨_, rfl⟩
      have HTT : Hid (accR (addR ys rs) (nzT (addR ys rs) 14) = (T1, T2)) := hid (by
        rw [tot_is h5.len h5.ok]
        unfold totR sat
        rw [mx_is, hsm.1, hsm.2, hT1, hT2])
      have CT := hid (total_any (some By) (addR ys rs) w5 (.inl ⟨By, rfl, h5⟩))
      rw [HTT.out] at CT
      replace CT : Hid (Calls Tryd.prog 15 #[.pointer (some ⟨By, 0, none⟩)] w5 fun e w' => e = .returned (.agg #[.int .u64 T1, .int .u64 T2]) ∧ Kp Nb w5 w') := CT
      have g1 : decide (T1 ≥ s1) = true := decide_eq_true (by omega)
      have g2 : decide (T2 ≥ s2) = true := decide_eq_true (by omega)
      have g3 : decide (T1 ≥ (F : Int)) = true := decide_eq_true (by omega)
      have g4 : decide (T2 ≥ (Bt : Int)) = true := decide_eq_true (by omega)
      have HT2 := hid hT2
      have HSB := hid HS0
      have HFF := hid hF
      clear h5 k5 hsm hT1 hT2 HS0 hF
      go_wp2_with fail
      refine CT.out.mono ?_
      rintro e w6 ⟨rfl, k6⟩
      have HM6 := hid (HM5.out.kept k6 (fun h => h))
      have KW6 : Hid (Kp Nb w w6) := hid (KW5.out.trans k6 (fun _ _ h => h))
      have cA : ∀ o, (w6.alloc o).cell? ⟨M, 0, none⟩ = some (.int .u64 s1) := fun o => (HM6.out.alloc o).cell 0
      have cB : ∀ o, (w6.alloc o).cell? ⟨M, 1, none⟩ = some (.int .u64 s2) := fun o => (HM6.out.alloc o).cell 1
      clear k6
      by_cases hbig : s2 > 9223372036854775808
      · have g5 : decide (s2 > 9223372036854775808) = true := decide_eq_true hbig
        clear hbig
        go_wp2
        go_ret
        exact ⟨rfl, KW6.out.alloc _⟩
      · have g5 : decide (s2 > 9223372036854775808) = false := decide_eq_false hbig
        have g6 : IntKind.u64.wrap (s2 + (Bt : Int)) = T2 := by
          have e : IntKind.u64.wrap (s2 + (Bt : Int)) = (s2 + (Bt : Int)) % 18446744073709551616 := by simp [IntKind.wrap, IntKind.bits, IntKind.signed]
          have h1 := HT2.out
          have h2 := HSB.out
          have h3 := HFF.out
          have h4 := HN200.out
          rw [e]; omega
        clear hbig
        go_wp2
        go_ret
        exact ⟨rfl, KW6.out.alloc _⟩

end Go.Proofs.YtjipcmhknikcgaaDoor
