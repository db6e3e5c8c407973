/-
  Layer 11: the law IbltPlays where both sketches are. Condition: what its kinds hold.
  Arguments opened: cells, marks, slices of cells. No condition.
  A mark as an argument opened. No condition.
  Arguments opened: a list of operations. No condition.
-/
import Derived.Test.YteedceepoindeaaPkC
import Derived.Deep.CutBlock
import Derived.Deep.DeepCutAuto
import Derived.Test.YteedceepoindeaaCelIk
import Derived.Test.YteedceepoindeaaOpenRows
import Derived.Test.YteedceepoindeaaPkB
namespace Go.Proofs.Yteedceepoindeaa
open Go.RowKit

def OpS (w0 : World) (Nl : Nat) (s16 s17 i : Value) (wr : World) : Prop := ∃ (k : Nat) (K : List En), k ≤ Nl ∧ i = .int .i64 k ∧ Hid (PlS w0 K s16 s17 wr) ∧ Hid (0 < K.length ∧ K.length ≤ k + 2) ∧ Hid (∀ (j : Nat) (q : En), K[j]? = some q → q.sc = q.wc ∧ q.wc.length ≤ 60)
def AtS (Kl : Nat) (w9 : World) (i : Value) (wr : World) : Prop := ∃ a : Nat, a ≤ Kl ∧ i = .int .i64 a ∧ Hid (Kp Nb w9 wr)
set_option maxRecDepth 100000 in
set_option maxHeartbeats 64000000 in
theorem iplays_yy (n : Int) (vf vl : Value) (cs : List Cel) (os : List OpQ) (w : World) (hn : i64R n) (hv : RowsSl cl c0 18 w vf cs) (ho : AllOk cs) (hl : RowsSl opl opZ 20 w vl os) (hos : ∀ o ∈ os, OpOk o) (hx : fitB n = true) (hy : fitB (cs.length : Int) = true) :
    Calls Try.prog 4 #[.int .i64 n, vf, vl] w fun e w' => e = .returned (.bool true) ∧ Kp Nb w w' := by
  obtain ⟨t, ht, t0, t1⟩ := fitB_t hx
  obtain ⟨N, hN⟩ : ∃ N, 3 * t = N := ⟨_, rfl⟩
  rw [hN] at ht
  subst ht
  obtain ⟨yl, dl, rfl⟩ := hl.shape
  obtain ⟨yf, df, rfl⟩ := hv.shape
  obtain ⟨Lc, hL⟩ : ∃ L, cs.length = L := ⟨_, rfl⟩
  obtain ⟨Nl, hNl⟩ : ∃ L, os.length = L := ⟨_, rfl⟩
  have HT : Hid (3 * t = N ∧ 0 < t ∧ t ≤ 512) := hid ⟨hN, t0, t1⟩
  have HV := hid hv
  have HO := hid ho
  have HX := hid hx
  have HY := hid hy
  have HYC := hid hy
  have HOL := hid hl
  have HOO := hid hos
  rw [hL] at HV HY ⊢
  rw [hNl] at HOL ⊢
  have HLL := hid hL
  have HNL := hid hNl
  have CRX : Hid (∀ w, Calls Try.prog 10 #[.int .i64 (N : Int)] w fun e w' => e = .returned (.bool true) ∧ w = w') := hid (fun w => by rw [← HX.out]; exact rfits_any (N : Int) w (by omega) (by omega))
  have CN : Hid (∀ w, Calls Try.prog 9 #[.int .i64 (N : Int)] w fun e w' => ∃ B C, e = .returned (.tuple #[.pointer (some ⟨B, 0, none⟩), .int .i64 0]) ∧ SkAt w' B C (zeroS N) ∧ w.heap.size ≤ B ∧ w.heap.size ≤ C ∧ Kp Nb w w') := hid (fun w => by rw [← hN]; exact new_yes t w t0 t1)
  clear hv ho hx hy hn hL hl hos hNl hN t0 t1
  go_enter Try.func4, Try.ntmps4
  go_wp2_with fail
  refine (ifirst_any _).mono ?_
  rintro e w1 ⟨rfl, k1⟩
  have K1 := hid k1
  clear k1
  by_cases hl : 60 < N
  · have d1 : decide ((N : Int) > 60) = true := decide_eq_true (by omega)
    go_wp2
    go_ret
    exact ⟨rfl, K1.out⟩
  have d1 : decide ((N : Int) > 60) = false := decide_eq_false (by omega)
  have HN60 : Hid (N ≤ 60) := hid (by omega)
  clear hl
  by_cases hl : 60 < Lc
  · have d2 : decide ((Lc : Int) > 60) = true := decide_eq_true (by omega)
    go_wp2
    go_ret
    exact ⟨rfl, K1.out⟩
  have d2 : decide ((Lc : Int) > 60) = false := decide_eq_false (by omega)
  have HL60 : Hid (Lc ≤ 60) := hid (by omega)
  clear hl
  by_cases hl : 30 < Nl
  · have d3 : decide ((Nl : Int) > 30) = true := decide_eq_true (by omega)
    go_wp2
    go_ret
    exact ⟨rfl, K1.out⟩
  have d3 : decide ((Nl : Int) > 30) = false := decide_eq_false (by omega)
  have HNL30 : Hid (Nl ≤ 30) := hid (by omega)
  clear hl
  have CRY : Hid (∀ w, Calls Try.prog 10 #[.int .i64 (Lc : Int)] w fun e w' => e = .returned (.bool true) ∧ w = w') := hid (fun w => by rw [← HY.out]; exact rfits_any (Lc : Int) w (by omega) (by have := HL60.out; omega))
  go_wp2_with fail
  refine (CN.out _).mono ?_
  rintro e w2 ⟨B1, C1, rfl, sx, lx1, lx2, k2⟩
  have K2 := hid (K1.out.trans k2 (fun _ _ h => h))
  have HV2 := hid (HV.out.kept K2.out)
  have CF := hid (from_yes _ cs _ HV2.out HO.out HYC.out)
  have SX2 := hid sx
  have LX : Hid (w1.heap.size ≤ C1 ∧ C1 < w2.heap.size) := hid ⟨lx2, sx.lt.2⟩
  clear k2 CN sx lx1 lx2
  go_wp2_with fail
  refine CF.out.mono ?_
  rintro e w3 ⟨B2, C2, rfl, sy, ly1, ly2, k3⟩
  have K3 := hid (K2.out.trans k3 (fun _ _ h => h))
  have SX3 := hid (SX2.out.kept k3 (fun h => h) (fun h => h))
  have SY3 := hid sy
  have LY : Hid (w2.heap.size ≤ C2) := hid ly2
  clear k3 CF sy ly1 ly2 SX2 HV2
  go_wp2_with fail
  refine (CRX.out _).mono ?_
  rintro e w4 ⟨rfl, rfl⟩
  go_wp2_with fail
  refine (CRY.out _).mono ?_
  rintro e w4 ⟨rfl, rfl⟩
  clear CRX CRY
  go_upto_region 16 with fail
  refine ip_r16 K3 HN60 _ ?hS ?hend
  case hS => exact hid ⟨(Kp.refl Nb w3).drew, (fun e => by simp at e), (fun e => by simp at e), (fun e => by simp at e)⟩
  case hend =>
    intro g w5 hg
    obtain ⟨v16, vz, v17⟩ := g
    have P5 := hid (hg.out.pls K3.out SX3.out SY3.out (by have := LX.out; have := K1.out.size; omega) (by have := LY.out; have := K2.out.size; omega) (by have := LX.out; have := LY.out; omega) HV.out HO.out (by exact HX.out) HYC.out)
    clear hg SX3 SY3 LX LY
    dsimp only at P5
    have S0 : OpS w Nl v16 v17 (.int .i64 0) w5 := ⟨0, _, Nat.zero_le _, rfl, P5, hid ⟨by simp, by simp⟩, hid (fun j q e => by
      match j with
      | 0 => obtain rfl : _ = q := by simpa using e
             exact ⟨rfl, by rw [zeroS_length]; exact HN60.out⟩
      | 1 => obtain rfl : _ = q := by simpa using e
             exact ⟨rfl, by rw [HLL.out]; exact HL60.out⟩
      | j + 2 => simp at e)⟩
    clear P5 HV HO HX HY HYC K1 K2 K3 d1 d2 d3
    obtain ⟨ou, hou, od⟩ := op_under
    have OU := hid hou
    clear hou
    go_wp2
    go_loopw [16, 17, 154] (OpS w Nl) (fun _ _ i _ => Nl - (intOf i).toNat)
    case atStart => exact S0
    case round =>
      clear S0
      obtain ⟨k, K, hk, rfl, HP, HK, HE⟩ := hrel
      obtain ⟨ya, dA, rfl⟩ := own_shape HP.out.all
      obtain ⟨yw, dW, rfl⟩ := own_shape HP.out.want
      obtain ⟨gA, _, rfl, -, -, -, hdA, hdA2⟩ := HP.out.allAt HK.out.1
      obtain ⟨gW, _, rfl, -, -, -, hdW, hdW2⟩ := HP.out.wantAt HK.out.1
      have HDA : Hid (K.length ≤ dA ∧ dA ≤ maxLen ∧ K.length ≤ dW ∧ dW ≤ maxLen) := hid ⟨hdA, hdA2, hdW, hdW2⟩
      clear hdA hdA2 hdW hdW2
      obtain ⟨Kl, hKl⟩ : ∃ L, K.length = L := ⟨_, rfl⟩
      rw [hKl] at HP HK HDA ⊢
      have HKL := hid hKl
      clear hKl
      by_cases hlt : k < Nl
      · rcases HOL.out with ⟨_, e0⟩ | ⟨blk, off, cap, e1, hc, hm, hcell⟩
        · have := HNL.out; rw [e0] at this; simp at this; omega
        injection e1 with e1 e7 e2
        subst e1 e2
        clear e7
        rw [HNL.out] at hc
        unfold maxLen at hm
        have hko : k < os.length := by rw [HNL.out]; exact hlt
        have R1 := hid (hcell k hko)
        obtain ⟨o, ho⟩ : ∃ o, os[k]?.getD opZ = o := ⟨_, rfl⟩
        have OO : Hid (OpOk o) := hid (by rw [← ho, List.getElem?_eq_getElem hko]; exact HOO.out _ (List.getElem_mem hko))
        rw [ho] at R1
        have R1r := hid (range_kept R1.out HP.out.kp)
        have HOM : Hid (((opl o).drop 4).take 16 = markL o.2.2.2.2) := hid (opl_mark o OO.out.2.2.2.2.len)
        have HO4 : Hid ((opl o)[0]? = some (.int .i64 o.1) ∧ (opl o)[1]? = some (.int .i64 o.2.1) ∧ (opl o)[2]? = some (.int .i64 o.2.2.1) ∧ (opl o)[3]? = some (.int .i64 o.2.2.2.1)) := hid ⟨rfl, rfl, rfl, rfl⟩
        have OI := hid (op_infoL o OO.out.2.2.2.2.len)
        have ON : Hid ((opl o).toArray.all (·.oneCell') = true) := hid (all_oneCell_toArray (opl_one o))
        have SI : Hid ((Try.prog.info? 50).map (·.size) = some (opl o).toArray.size) := hid (by rw [List.size_toArray]; exact op_infoL o OO.out.2.2.2.2.len)
        obtain ⟨D, hD⟩ : ∃ N, wr.heap.size = N := ⟨_, rfl⟩
        obtain ⟨W5, hW5⟩ : ∃ W, W = (wr.alloc (.cells #[.int .i64 0, .int .i64 0, .int .i64 0, .int .i64 0, .int .u8 0, .int .u8 0, .int .u8 0, .int .u8 0, .int .u8 0, .int .u8 0, .int .u8 0, .int .u8 0, .int .u8 0, .int .u8 0, .int .u8 0, .int .u8 0, .int .u8 0, .int .u8 0, .int .u8 0, .int .u8 0] 50)).setCells D 0 (opl o) := ⟨_, rfl⟩
        obtain ⟨d5, k5, th⟩ := fresh_op o OO.out.2.2.2.2.len hD hW5
        have D5 := hid d5
        have TH := hid th
        have P5 := hid (HP.out.kept k5)
        have HLT := hid hlt
        obtain ⟨kd, hkd⟩ : ∃ z, o.1 = z := ⟨_, rfl⟩
        obtain ⟨oat, hoat⟩ : ∃ z, o.2.1 = z := ⟨_, rfl⟩
        obtain ⟨oto, hoto⟩ : ∃ z, o.2.2.1 = z := ⟨_, rfl⟩
        obtain ⟨on, hon⟩ : ∃ z, o.2.2.2.1 = z := ⟨_, rfl⟩
        obtain ⟨mm, hmm⟩ : ∃ z, o.2.2.2.2 = z := ⟨_, rfl⟩
        have OM : Hid (MarkOk mm) := hid (by rw [← hmm]; exact OO.out.2.2.2.2)
        have OR : Hid (i64R kd ∧ i64R oat ∧ i64R oto ∧ i64R on) := hid (by rw [← hkd, ← hoat, ← hoto, ← hon]; exact ⟨OO.out.1, OO.out.2.1, OO.out.2.2.1, OO.out.2.2.2.1⟩)
        rw [hkd, hoat, hoto, hon] at HO4
        rw [hmm] at HOM
        clear hcell ho R1 hko hkd hoat hoto hon hmm OO k5 d5 th
        go_upto_region 20 with (first
          | (refine wpList_load_mid (by rfl) 50 (.tmp 156) (by rfl) blk (off + k * 20) (by rfl) (opl o) ou R1r.out OU.out od OI.out ?_)
          | (refine wpList_store_mid (by rfl) 50 (.tmp 19) (.tmp 157) (by rfl) D 0 (opl o).toArray (by rfl) (by rfl) TH.out SI.out ON.out ?_))
        rw [show (wr.alloc (.cells #[.int .i64 0, .int .i64 0, .int .i64 0, .int .i64 0, .int .u8 0, .int .u8 0, .int .u8 0, .int .u8 0, .int .u8 0, .int .u8 0, .int .u8 0, .int .u8 0, .int .u8 0, .int .u8 0, .int .u8 0, .int .u8 0, .int .u8 0, .int .u8 0, .int .u8 0, .int .u8 0] 50)).setCells D 0 (opl o) = W5 from hW5.symm]
        have HDD := hid hD
        clear hW5 hD R1r TH OI ON SI HP
        obtain ⟨ua, hua, hua2⟩ : ∃ u : Nat, IntKind.u64.wrap oat = (u : Int) ∧ u < 18446744073709551616 := u64_nat oat
        obtain ⟨ub, hub, hub2⟩ : ∃ u : Nat, IntKind.u64.wrap oto = (u : Int) ∧ u < 18446744073709551616 := u64_nat oto
        obtain ⟨uk, huk, huk2⟩ : ∃ u : Nat, IntKind.u64.wrap kd = (u : Int) ∧ u < 18446744073709551616 := u64_nat kd
        obtain ⟨a, ha⟩ : ∃ a, ua % Kl = a := ⟨_, rfl⟩
        obtain ⟨b, hb⟩ : ∃ b, ub % Kl = b := ⟨_, rfl⟩
        have hK0 : 0 < Kl := HK.out.1
        have hK9 : Kl ≤ k + 2 := HK.out.2
        have hN9 : Nl ≤ 30 := HNL30.out
        have ha2 : a < Kl := by rw [← ha]; exact Nat.mod_lt _ hK0
        have hb2 : b < Kl := by rw [← hb]; exact Nat.mod_lt _ hK0
        have HAB : Hid (a < Kl ∧ b < Kl) := hid ⟨ha2, hb2⟩
        have UA : Hid (IntKind.u64.wrap oat = (ua : Int)) := hid hua
        have UB : Hid (IntKind.u64.wrap oto = (ub : Int)) := hid hub
        have KL : Hid (IntKind.u64.wrap (Kl : Int) = (Kl : Int) ∧ ¬ Kl = 0 ∧ Kl ≤ 40) := hid ⟨u64_small Kl (by omega), by omega, by omega⟩
        have A1 : Hid ((ua : Int).tmod (Kl : Int) = (a : Int)) := hid (by rw [Int.tmod_eq_emod_of_nonneg (by omega), ← ha]; rfl)
        have B1x : Hid ((ub : Int).tmod (Kl : Int) = (b : Int)) := hid (by rw [Int.tmod_eq_emod_of_nonneg (by omega), ← hb]; rfl)
        have A2 : Hid (IntKind.u64.wrap (a : Int) = (a : Int)) := hid (u64_small a (by omega))
        have B2x : Hid (IntKind.u64.wrap (b : Int) = (b : Int)) := hid (u64_small b (by omega))
        have A3 : Hid (IntKind.i64.wrap (a : Int) = (a : Int)) := hid (i64_small a (by omega))
        have B3x : Hid (IntKind.i64.wrap (b : Int) = (b : Int)) := hid (i64_small b (by omega))
        rw [HKL.out.symm] at ha2 hb2
        obtain ⟨qa, hqa⟩ : ∃ q, K[a]? = some q := ⟨K[a], List.getElem?_eq_getElem ha2⟩
        obtain ⟨qb, hqb⟩ : ∃ q, K[b]? = some q := ⟨K[b], List.getElem?_eq_getElem hb2⟩
        have QA := hid hqa
        have QB := hid hqb
        clear hua hua2 hub hub2 ha hb hK0 hK9 ha2 hb2 hqa hqb
        go_upto_region 20 with fail
        refine ip_r20 D5 HO4 UA UB KL A1 B1x A2 B2x A3 B3x _ ?hS ?hend
        case hS => exact hid (Kp.refl Nb W5).drew
        case hend =>
          intro w6 k6
          have P6 := hid (P5.out.kept k6.out)
          have D6 := hid (D5.out.kept k6.out (fun h => h))
          clear k6 P5 D5 UA UB A1 B1x A2 B2x
          have cd0 : w6.cell? ⟨D, 0, none⟩ = some (.int .i64 kd) := (D6.out.cell 0).trans HO4.out.1
          obtain ⟨r, hr⟩ : ∃ r : Int, (uk : Int) % 6 = r := ⟨_, rfl⟩
          have hr6 : 0 ≤ r ∧ r < 6 := by omega
          have R6 : (uk : Int).tmod 6 = r := by rw [Int.tmod_eq_emod_of_nonneg (by omega)]; omega
          have R7 : (uk : Int) % 6 = r := hr
          clear hr huk2
          go_upto_block 2 with fail
          refine ip_blk2 HAB HDA P6 D6 OM HOM HO4 QA QB HKL KL HK HE hr6 _ ?hN ?hX
          case hN =>
            intros
            rename_i wc hcut
            clear R6 R7 hr6 cd0 P6 D6 QA QB HK HE HKL HAB HDA A3 B3x KL
            obtain ⟨K2, P6, HKa, HE, DC⟩ := hcut
            obtain ⟨ya, dA2, rfl⟩ := own_shape P6.out.all
            obtain ⟨yw, dW2, rfl⟩ := own_shape P6.out.want
            have HK0 : Hid (0 < K2.length) := hid (by have := HKa.out.2; omega)
            obtain ⟨gA2, _, rfl, -, -, -, hdA, hdA2⟩ := P6.out.allAt HK0.out
            obtain ⟨gW2, _, rfl, -, -, -, hdW, hdW2⟩ := P6.out.wantAt HK0.out
            obtain ⟨Kl2, hKl⟩ : ∃ L, K2.length = L := ⟨_, rfl⟩
            have HDA : Hid (Kl2 ≤ dA2 ∧ dA2 ≤ maxLen ∧ Kl2 ≤ dW2 ∧ dW2 ≤ maxLen) := hid (by rw [← hKl]; exact ⟨hdA, hdA2, hdW, hdW2⟩)
            have HAB : Hid (a < Kl2 ∧ a < Kl2) := hid (by rw [← hKl]; exact ⟨HKa.out.2, HKa.out.2⟩)
            obtain ⟨qa, hqa⟩ : ∃ q, K2[a]? = some q := ⟨K2[a]'HKa.out.2, List.getElem?_eq_getElem HKa.out.2⟩
            have QA := hid hqa
            clear hqa hdA hdA2 hdW hdW2
            rw [hKl] at P6 ⊢
            have HKL := hid hKl
            clear hKl
            obtain ⟨qB, qC, qc, qv, qx⟩ := qa
            have hpe := HE.out a _ QA.out
            dsimp only at hpe
            obtain ⟨hpx, hpl⟩ := hpe
            obtain rfl : qc = qx := hpx
            have SA := hid (P6.out.sk a _ QA.out)
            dsimp only at SA
            obtain ⟨bq, oq, dq, rfl, hcd1, hcd2⟩ := rowsAdr SA.out.2.2.2.1 SA.out.1.pos
            obtain ⟨Lq, hLq⟩ : ∃ L, qc.length = L := ⟨_, rfl⟩
            rw [hLq] at QA
            have HLQ := hid hLq
            have HL6 : Hid (Lq ≤ 60) := hid (by omega)
            have HCD : Hid (0 < Lq ∧ Lq ≤ dq ∧ dq ≤ maxLen) := hid ⟨by have := SA.out.1.pos; omega, by omega, hcd2⟩
            have RA : Hid (RowsSl cl c0 18 wc (.slice (some ⟨bq, oq, none⟩) Lq dq) qc) := hid (by have h := SA.out.2.2.2.1; rw [hLq] at h; exact h)
            have CA : Hid (wc.cell? ⟨gA2, a, none⟩ = some (.pointer (some ⟨qB, 0, none⟩))) := hid (rowcell P6.out.all (ptrs_at QA.out))
            have CW : Hid (wc.cell? ⟨gW2, a, none⟩ = some (.slice (some ⟨bq, oq, none⟩) Lq dq)) := hid (rowcell P6.out.want (lsts_at QA.out))
            obtain ⟨x, bb, hox, hbb, hx1, hx2, hcc⟩ := kcell_all qB qC qc on wc SA.out.1
            have OX := hid hox
            have CC := hid hcc
            rw [hLq] at hbb
            clear hpl hLq hcd1 hcd2 hox hcc
            go_upto_region 42 with fail
            refine ip_r42 HAB HDA CA DC HO4 CC OX _ ?hS ?hend
            case hS => exact hid (VarsS.start wc 1 cxT cxZ (cxV x) [10, 11] _)
            case hend =>
              intro g w7 hy
              obtain ⟨E, hE⟩ : ∃ E, g 0 = E := ⟨_, rfl⟩
              have BX : Hid (Blk w7 E 41 (cl x)) := hid (by rw [← hE]; exact hy.out.full 0 (by decide) rfl rfl)
              have K7 := hid hy.out.kp
              rw [hE]
              have D7 := hid (DC.out.kept K7.out (fun h => h))
              have CW7 : Hid (w7.cell? ⟨gW2, a, none⟩ = some (.slice (some ⟨bq, oq, none⟩) Lq dq)) := hid (K7.out.cell CW.out (fun h => h))
              have P7 := hid (P6.out.kept K7.out)
              clear hy hE CA CC DC CW P6
              have RE : Hid (∀ w8, Kp Nb w7 w8 → OpS w Nl (.slice (some ⟨gA2, 0, none⟩) Kl2 dA2) (.slice (some ⟨gW2, 0, none⟩) Kl2 dW2) (.int .i64 ((k : Int) + 1)) w8) := hid (fun w8 k8 => ⟨k + 1, K2, HLT.out, by go_num, hid (P7.out.kept k8), hid ⟨HK0.out, by have := HKa.out.1; omega⟩, HE⟩)
              have RA7 := hid (RA.out.kept K7.out)
              go_upto_region 43 with fail
              refine ip_r43 HAB HDA D7 HO4 CW7 BX OX HLQ HCD RA7 hbb hx1 hx2 _ ?h43
              case h43 =>
                intros
                rename_i w8 k8
                have RY := hid (RE.out w8 k8)
                clear k8 RE D7 CW7 P7 BX RA7 RA hbb hx1 hx2
                go_wp2
                go_roundw
                case rel => exact RY.out
                case measure => have := HLT.out; simp [intOf]; omega
          case hX =>
            intros
            rename_i w8 p8
            have RE : Hid (OpS w Nl (.slice (some ⟨gA, 0, none⟩) Kl dA) (.slice (some ⟨gW, 0, none⟩) Kl dW) (.int .i64 ((k : Int) + 1)) w8) := hid ⟨k + 1, K, HLT.out, by go_num, hid p8, hid ⟨by rw [HKL.out]; exact HK.out.1, by rw [HKL.out]; have := HK.out.2; omega⟩, HE⟩
            clear p8 P6 D6 R6 R7 hr6 cd0 QA QB HAB HDA A3 B3x KL
            go_wp2
            go_roundw
            case rel => exact RE.out
            case measure => have := HLT.out; simp [intOf]; omega
      · obtain rfl : Nl = k := by omega
        obtain ⟨wE, hwE⟩ : ∃ W, W = wr := ⟨_, rfl⟩
        subst hwE
        have S9 : AtS Kl wE (.int .i64 0) wE := ⟨0, Nat.zero_le _, rfl, hid (Kp.refl _ _)⟩
        have hK9 : Kl ≤ 40 := by have := HK.out.2; have := HNL30.out; omega
        clear hlt
        go_wp2
        go_loopw [359] (AtS Kl wE) (fun i _ => Kl - (intOf i).toNat)
        case atStart => exact S9
        case round =>
          clear S9
          obtain ⟨a, ha, rfl, KO⟩ := hrel
          have P6 := hid (HP.out.kept KO.out)
          by_cases hlt : a < Kl
          · have HLT := hid hlt
            have HAB : Hid (a < Kl ∧ a < Kl) := hid ⟨hlt, hlt⟩
            have hal : a < K.length := by rw [HKL.out]; exact hlt
            obtain ⟨qa, hqa⟩ : ∃ q, K[a]? = some q := ⟨K[a], List.getElem?_eq_getElem hal⟩
            have QA := hid hqa
            clear hqa hal
            obtain ⟨qB, qC, qc, qv, qx⟩ := qa
            have hpe := HE.out a _ QA.out
            dsimp only at hpe
            obtain ⟨hpx, hpl⟩ := hpe
            obtain rfl : qc = qx := hpx
            have SA := hid (P6.out.sk a _ QA.out)
            dsimp only at SA
            obtain ⟨bq, oq, dq, rfl, hcd1, hcd2⟩ := rowsAdr SA.out.2.2.2.1 SA.out.1.pos
            obtain ⟨Lq, hLq⟩ : ∃ L, qc.length = L := ⟨_, rfl⟩
            rw [hLq] at QA
            have HLQ := hid hLq
            have HL6 : Hid (Lq ≤ 60) := hid (by omega)
            have RQ : Hid (RowsSl cl c0 18 wr (.slice (some ⟨bq, oq, none⟩) Lq dq) qc) := hid (by have h := SA.out.2.2.2.1; rw [hLq] at h; exact h)
            have cA : wr.cell? ⟨gA, a, none⟩ = some (.pointer (some ⟨qB, 0, none⟩)) := rowcell P6.out.all (ptrs_at QA.out)
            have CW : Hid (wr.cell? ⟨gW, a, none⟩ = some (.slice (some ⟨bq, oq, none⟩) Lq dq)) := hid (rowcell P6.out.want (lsts_at QA.out))
            obtain ⟨eb, heb⟩ : ∃ b, emptyB qc = b := ⟨_, rfl⟩
            have HEB := hid heb
            have EB : Hid ((eb != eb) = false) := hid (by cases eb <;> rfl)
            have LE : Hid (((Lq : Int) == (Lq : Int)) = true) := hid (beq_self_eq_true _)
            have LE2 : Hid (((Lq : Int) != (Lq : Int)) = false) := hid (by simp)
            have CE : Hid (∀ wq, Kp Nb wr wq → Calls Try.prog 15 #[.pointer (some ⟨qB, 0, none⟩)] wq fun e w' => e = .returned (.bool eb) ∧ Kp Nb wq w') := hid (fun wq k => by rw [← heb]; exact empty_any qB qC qc wq (SA.out.1.kept k (fun h => h) (fun h => h)) (by omega))
            have CZ : Hid (∀ wq, Kp Nb wr wq → Calls Try.prog 14 #[.pointer (some ⟨qB, 0, none⟩)] wq fun e w' => e = .returned (.int .i64 (Lq : Int)) ∧ wq = w') := hid (fun wq k => by rw [← hLq]; exact size_any qB qC qc wq (SA.out.1.kept k (fun h => h) (fun h => h)))
            have CG : Hid (∀ wq, Kp Nb wr wq → Calls Try.prog 23 #[.pointer (some ⟨qB, 0, none⟩), .int .i64 100] wq fun e w' => ∃ v, e = .returned v ∧ RowsSl cl c0 18 w' v qc ∧ Kp Nb wq w') := hid (fun wq k => by
              have h := gcells_any qB qC qc 100 wq (SA.out.1.kept k (fun h => h) (fun h => h)) (by omega)
              rw [List.take_of_length_le (show qc.length ≤ (100 : Int).toNat from by have : (100 : Int).toNat = 100 := rfl; omega)] at h
              exact h)
            have HQO : Hid (AllOk qc) := hid SA.out.2.2.1
            clear hpl hLq hcd1 hcd2 heb SA
            have hd1 : Kl ≤ dA := HDA.out.1
            have hd2 : dA ≤ maxLen := HDA.out.2.1
            go_upto_region 49 with fail
            clear hd1 hd2 cA
            refine ip_r49 HAB HDA CW CE CZ CG RQ HQO HEB EB HLQ HL6 LE LE2 _ ?hS ?hend
            case hS => exact hid ⟨(Kp.refl Nb wr).drew, (fun e => by cases e), (fun e => by cases e)⟩
            case hend =>
              intro g w8 hy
              have RE : Hid (AtS Kl wE (.int .i64 ((a : Int) + 1)) w8) := hid ⟨a + 1, HLT.out, by go_num, hid (KO.out.trans hy.out.kp (fun _ _ h => h))⟩
              clear hy CW CE CZ CG RQ P6 KO
              go_wp2
              go_roundw
              case rel => exact RE.out
              case measure => have := HLT.out; simp [intOf]; omega
          · obtain rfl : Kl = a := by omega
            have KE := hid P6.out.kp
            clear P6 KO HP
            go_wp2
            go_ret
            exact ⟨rfl, KE.out⟩

end Go.Proofs.Yteedceepoindeaa

namespace Go.Proofs.Yteedceepoindeaa
open Go.ChangeShapes Go.WideShapes Go.ChangeAt Go.RowKit

theorem cut_at {α : Type} (cs : List α) (a b : Nat) : cs.drop a = (cs.drop a).take b ++ cs.drop (a + b) := by
  rw [← List.drop_drop, List.take_append_drop]
theorem cells_mark : Try.prog.cellsOf 23 = 16 := by kernel_rfl
theorem cells_cell : Try.prog.cellsOf 41 = 18 := by kernel_rfl
theorem cells_int : Try.prog.cellsOf 3 = 1 := by kernel_rfl
theorem cells_u64 : Try.prog.cellsOf 39 = 1 := by kernel_rfl
theorem wf_i64 {z : Int} (h : (Lit.int .i64 z).wf = true) : -9223372036854775808 ≤ z ∧ z < 9223372036854775808 := by
  simp [Lit.wf] at h
  have hmin : IntKind.i64.min = -9223372036854775808 := by decide
  rw [hmin] at h
  have := h.2
  exact ⟨h.1, by omega⟩
theorem wf_u64 {z : Int} (h : (Lit.int .u64 z).wf = true) : 0 ≤ z ∧ z < 18446744073709551616 := by
  simp [Lit.wf] at h
  have hmin : IntKind.u64.min = 0 := by decide
  have hmax : IntKind.u64.max = 18446744073709551615 := by decide
  rw [hmin, hmax] at h
  omega
section
variable {H : Type} {enc : TypeId × Value → H} {W : World} {fuel : Nat} {cs : List Value} {x : DataW H × List MemPlace}
theorem open_mark (h : DataW.trod enc Try.prog W 0 (fun _ => true) true fuel 23 cs = some x) : ∃ m : List Int, MarkOk m ∧ cs = markL m := by
  obtain ⟨zs, hz, hl, hw⟩ := open_array under_mark under_u8 cells_byte cells_mark h
  refine ⟨zs, ⟨hl, fun i => ?_⟩, hz⟩
  have hr := range_u8 hw i
  omega
set_option maxRecDepth 100000 in
theorem open_cell (h : DataW.trod enc Try.prog W 0 (fun _ => true) true fuel 41 cs = some x) : ∃ q : Cel, CelOk q ∧ cs = cl q := by
  obtain ⟨xs, m, _, _, hl, hxl, hfs⟩ := DataW.trod_struct Try.underlying41 h
  match xs, hxl with
  | [y0, y1, y2], _ =>
    have g0 : DataW.trod enc Try.prog W 0 (fun _ => true) true m 3 ((cs.drop 0).take (Try.prog.cellsOf 3)) = some y0 := hfs 0 _ rfl
    have g1 : DataW.trod enc Try.prog W 0 (fun _ => true) true m 23 ((cs.drop 1).take (Try.prog.cellsOf 23)) = some y1 := hfs 1 _ rfl
    have g2 : DataW.trod enc Try.prog W 0 (fun _ => true) true m 39 ((cs.drop 17).take (Try.prog.cellsOf 39)) = some y2 := hfs 2 _ rfl
    rw [cells_cell] at hl
    rw [cells_int] at g0
    rw [cells_mark] at g1
    rw [cells_u64] at g2
    obtain ⟨c, hc, _, wc⟩ := DataW.trod_int Try.underlying3 g0
    obtain ⟨ms, om, hm⟩ := open_mark g1
    obtain ⟨k, hk, _, wk⟩ := DataW.trod_int Try.underlying39 g2
    refine ⟨(c, ms, k), ⟨(wf_i64 wc).1, (wf_i64 wc).2, om, (wf_u64 wk).1, (wf_u64 wk).2⟩, ?_⟩
    have e0 := cut_at cs 0 1
    have e1 := cut_at cs 1 16
    have e2 := cut_at cs 17 1
    have e3 : cs.drop 18 = [] := List.drop_eq_nil_of_le (by omega)
    rw [hc] at e0
    rw [hm] at e1
    rw [hk, e3] at e2
    rw [List.drop_zero, e1, e2] at e0
    exact e0
end
set_option maxRecDepth 100000 in
theorem open_cellsv {H : Type} {enc : TypeId × Value → H} {W : World} {base : Nat} {v : Value} {d : DataW H} {p : List MemPlace} (hv : Value.okWide Try.prog W .any base 35 v)
    (h : DataW.Trod enc Try.prog W 0 (fun _ => true) true 35 v d p) : ∃ l, (∀ q ∈ l, CelOk q) ∧ RowsSl cl c0 18 W v l := by
  obtain ⟨fu, hf⟩ := h
  obtain ⟨y0, len0, cap0, rfl⟩ := okWide_slice Try.underlying35 hv
  obtain ⟨l, lo, ls⟩ := open_rows cl c0 CelOk 18 cells_cell (by decide) (fun _ _ _ h => open_cell h) Try.underlying35 hf
  exact ⟨l, lo, ls⟩

end Go.Proofs.Yteedceepoindeaa

namespace Go.Proofs.Yteedceepoindeaa
open Go.ChangeShapes Go.WideShapes Go.ChangeAt Go.RowKit

theorem cells_marks : Try.prog.cellsOf 23 = 16 := by kernel_rfl
theorem wf_int {z : Int} (h : (Lit.int .i64 z).wf = true) : -9223372036854775808 ≤ z ∧ z < 9223372036854775808 := by
  simp [Lit.wf] at h
  have hmin : IntKind.i64.min = -9223372036854775808 := by decide
  rw [hmin] at h
  have := h.2
  exact ⟨h.1, by omega⟩
set_option maxRecDepth 10000 in
theorem open_markv {H : Type} {enc : TypeId × Value → H} {W : World} {base : Nat} {v : Value} {d : DataW H} {p : List MemPlace} (hv : Value.okWide Try.prog W .any base 23 v)
    (h : DataW.Trod enc Try.prog W 0 (fun _ => true) true 23 v d p) : ∃ m : List Int, MarkOk m ∧ v = markV m := by
  simp only [Value.okWide, under_mark] at hv
  obtain ⟨cs, rfl, _, _⟩ := hv
  obtain ⟨fuel, hf⟩ := h
  obtain ⟨zs, hz, hl, hw⟩ := open_array under_mark under_u8 cells_byte cells_marks hf
  obtain ⟨lc⟩ := cs
  simp only [Value.cells] at hz
  refine ⟨zs, ⟨hl, fun i => ?_⟩, ?_⟩
  · have hr := range_u8 hw i
    omega
  · have hz' : lc = markL zs := hz
    rw [hz']
theorem open_intv {H : Type} {enc : TypeId × Value → H} {W : World} {n : Int} {d : DataW H} {p : List MemPlace}
    (h : DataW.Trod enc Try.prog W 0 (fun _ => true) true 3 (.int .i64 n) d p) : -9223372036854775808 ≤ n ∧ n < 9223372036854775808 := by
  obtain ⟨fuel, hf⟩ := h
  obtain ⟨a, ea, _, wa⟩ := DataW.trod_int Try.underlying3 hf
  have e : n = a := by simpa [Value.cells] using ea
  rw [e]
  exact wf_int wa
theorem open_markcs {H : Type} {enc : TypeId × Value → H} {W : World} {fuel : Nat} {cs : List Value} {x : DataW H × List MemPlace} (h : DataW.trod enc Try.prog W 0 (fun _ => true) true fuel 23 cs = some x) : ∃ m : List Int, MarkOk m ∧ cs = markL m := by
  obtain ⟨zs, hz, hl, hw⟩ := open_array under_mark under_u8 cells_byte cells_marks h
  refine ⟨zs, ⟨hl, fun i => ?_⟩, hz⟩
  have hr := range_u8 hw i
  omega
theorem mksl_rows {W : World} {v : Value} {ms : List (List Int)} (ho : ∀ q ∈ ms, MarkOk q) (h : RowsSl markL (List.replicate 16 0) 16 W v ms) : MkSl W v ms := by
  refine ⟨fun i => ?_, h⟩
  unfold markAt
  cases hi : ms[i]? with
  | none => exact zero_ok
  | some m => exact ho m (List.mem_of_getElem? hi)
set_option maxRecDepth 100000 in
theorem open_marksv {H : Type} {enc : TypeId × Value → H} {W : World} {base : Nat} {v : Value} {d : DataW H} {p : List MemPlace} (hv : Value.okWide Try.prog W .any base 56 v)
    (h : DataW.Trod enc Try.prog W 0 (fun _ => true) true 56 v d p) : ∃ ms, MkSl W v ms := by
  obtain ⟨fu, hf⟩ := h
  obtain ⟨y0, len0, cap0, rfl⟩ := okWide_slice Try.underlying56 hv
  obtain ⟨ms, mo, mS⟩ := open_rows markL (List.replicate 16 0) MarkOk 16 cells_marks (by decide) (fun _ _ _ h => open_markcs h) Try.underlying56 hf
  exact ⟨ms, mksl_rows mo mS⟩

end Go.Proofs.Yteedceepoindeaa

namespace Go.Proofs.Yteedceepoindeaa
open Go.ChangeShapes Go.WideShapes Go.ChangeAt Go.RowKit

theorem cells_op : Try.prog.cellsOf 50 = 20 := by kernel_rfl
set_option maxRecDepth 100000 in
theorem open_op {H : Type} {enc : TypeId × Value → H} {W : World} {fuel : Nat} {cs : List Value} {x : DataW H × List MemPlace} (h : DataW.trod enc Try.prog W 0 (fun _ => true) true fuel 50 cs = some x) : ∃ q : OpQ, OpOk q ∧ cs = opl q := by
  obtain ⟨xs, m, _, _, hl, hxl, hfs⟩ := DataW.trod_struct Try.underlying50 h
  match xs, hxl with
  | [y0, y1, y2, y3, y4], _ =>
    have g0 : DataW.trod enc Try.prog W 0 (fun _ => true) true m 3 ((cs.drop 0).take (Try.prog.cellsOf 3)) = some y0 := hfs 0 _ rfl
    have g1 : DataW.trod enc Try.prog W 0 (fun _ => true) true m 3 ((cs.drop 1).take (Try.prog.cellsOf 3)) = some y1 := hfs 1 _ rfl
    have g2 : DataW.trod enc Try.prog W 0 (fun _ => true) true m 3 ((cs.drop 2).take (Try.prog.cellsOf 3)) = some y2 := hfs 2 _ rfl
    have g3 : DataW.trod enc Try.prog W 0 (fun _ => true) true m 3 ((cs.drop 3).take (Try.prog.cellsOf 3)) = some y3 := hfs 3 _ rfl
    have g4 : DataW.trod enc Try.prog W 0 (fun _ => true) true m 23 ((cs.drop 4).take (Try.prog.cellsOf 23)) = some y4 := hfs 4 _ rfl
    rw [cells_op] at hl
    rw [cells_int] at g0 g1 g2 g3
    rw [cells_mark] at g4
    obtain ⟨c0, hc0, _, w0⟩ := DataW.trod_int Try.underlying3 g0
    obtain ⟨c1, hc1, _, w1⟩ := DataW.trod_int Try.underlying3 g1
    obtain ⟨c2, hc2, _, w2⟩ := DataW.trod_int Try.underlying3 g2
    obtain ⟨c3, hc3, _, w3⟩ := DataW.trod_int Try.underlying3 g3
    obtain ⟨ms, om, hm⟩ := open_mark g4
    refine ⟨(c0, c1, c2, c3, ms), ⟨wf_i64 w0, wf_i64 w1, wf_i64 w2, wf_i64 w3, om⟩, ?_⟩
    have e0 := cut_at cs 0 1
    have e1 := cut_at cs 1 1
    have e2 := cut_at cs 2 1
    have e3 := cut_at cs 3 1
    have e4 := cut_at cs 4 16
    have e5 : cs.drop 20 = [] := List.drop_eq_nil_of_le (by omega)
    rw [hc0] at e0
    rw [hc1] at e1
    rw [hc2] at e2
    rw [hc3] at e3
    rw [hm, e5] at e4
    rw [List.drop_zero, e1, e2, e3, e4] at e0
    rw [e0]
    simp [opl]
set_option maxRecDepth 100000 in
theorem open_opsv {H : Type} {enc : TypeId × Value → H} {W : World} {base : Nat} {v : Value} {d : DataW H} {p : List MemPlace} (hv : Value.okWide Try.prog W .any base 36 v)
    (h : DataW.Trod enc Try.prog W 0 (fun _ => true) true 36 v d p) : ∃ l, (∀ q ∈ l, OpOk q) ∧ RowsSl opl opZ 20 W v l := by
  obtain ⟨fu, hf⟩ := h
  obtain ⟨y0, len0, cap0, rfl⟩ := okWide_slice Try.underlying36 hv
  obtain ⟨l, lo, ls⟩ := open_rows opl opZ OpOk 20 cells_op (by decide) (fun _ _ _ h => open_op h) Try.underlying36 hf
  exact ⟨l, lo, ls⟩

end Go.Proofs.Yteedceepoindeaa
