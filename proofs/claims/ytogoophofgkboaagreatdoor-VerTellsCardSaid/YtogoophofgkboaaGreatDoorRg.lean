/-
  Of the texts DtAk, DtAw, DtAx, DtU, DtAz, DtBa, OpenDf what is used. No condition but what each says.
-/
import Derived.Test.YtogoophofgkboaaGreatDoorRd
import Derived.Test.YtogoophofgkboaaGreatDoorRf
import Derived.Shelf.Strconv.AtoiAll
import Derived.Test.YtogoophofgkboaaGreatDoorRe
import Derived.Deep.Strs
import Derived.Deep.Matrix
import Derived.ChangeMaps5
import Derived.LaidLaws
namespace Go.Proofs.YtogoophofgkboaaGreatDoor
section
open Go.RowKit
theorem rightC_bad {c : List RunQ} {k : Nat} (hk : k < c.length) (h : goodR (runAt c k) = false ∨ (0 < k ∧ gapB (runAt c (k - 1)) (runAt c k) = false)) : rightC c = false := by
  rw [Bool.eq_false_iff]
  intro hr
  have := rightC_of.1 hr k hk
  rcases h with h | ⟨h0, h⟩
  · rw [h] at this; cases this.1
  · have h2 := this.2 h0
    rw [h] at h2
    cases h2
def RrR (w : World) (c : List RunQ) (i : Value) (wr : World) : Prop := ∃ k : Nat, k ≤ c.length ∧ i = .int .i64 k ∧ Hid (∀ j, j < k → goodR (runAt c j) = true ∧ (0 < j → gapB (runAt c (j - 1)) (runAt c j) = true)) ∧ Hid (Kp Nb w wr)
set_option maxRecDepth 100000 in
set_option maxHeartbeats 8000000 in
theorem rright_any (v : Value) (c : List RunQ) (w : World) (hs : ClSl w v c) (hl : c.length ≤ 1000000) :
    Calls Tryz.prog 38 #[v] w fun e w' => e = .returned (.bool (rightC c)) ∧ Kp Nb w w' := by
  obtain ⟨pv, dv, rfl⟩ := hs.shape
  obtain ⟨L, hL⟩ : ∃ L, c.length = L := ⟨_, rfl⟩
  have HLE := hid hL
  rw [hL] at hs hl ⊢
  have HS := hid hs
  have hLb := hl
  obtain ⟨R, hR⟩ : ∃ b, rightC c = b := ⟨_, rfl⟩
  have HRR := hid hR
  rw [hR]
  clear hs hL hl hR
  go_enter Tryz.func38, Tryz.ntmps38
  go_wp2_with fail
  go_loopw [7] (RrR w c) (fun i _ => L - (intOf i).toNat)
  case atStart => exact ⟨0, Nat.zero_le _, rfl, hid (fun j hj => by omega), hid (Kp.refl _ _)⟩
  case round =>
    obtain ⟨k, hk, rfl, HJ, HK⟩ := hrel
    rw [HLE.out] at hk
    by_cases hlt : k < L
    · obtain ⟨blk, off, cap, e1, hc, hm, hcell⟩ := cl_shape (HS.out.kept HK.out) (by intro h; have := HLE.out; rw [h, List.length_nil] at this; omega)
      rw [HLE.out] at e1 hc hcell
      injection e1 with e1 _ e2
      subst e1 e2
      have HR := hid (hcell k hlt)
      obtain ⟨⟨qn, qf, qt⟩, hq⟩ : ∃ q, runAt c k = q := ⟨_, rfl⟩
      have HOK := HS.out.1 k
      rw [hq] at HR HOK
      have HQ := hid hq
      obtain ⟨M, hM⟩ : ∃ M, wr.heap.size = M := ⟨_, rfl⟩
      obtain ⟨W2, hW2⟩ : ∃ W, W = (wr.alloc (.cells (runL (0, 0, 0)).toArray 38)).setCells M 0 (runL (qn, qf, qt)) := ⟨_, rfl⟩
      have hz := Blk.new wr 38 (runL (0, 0, 0))
      rw [hM] at hz
      have KW : Hid (Kp Nb wr W2) := hid (by rw [hW2]; exact Kp.setCells (fun h => absurd h (by omega)) _ 0 _ ((Kp.refl Nb wr).alloc _))
      have HMW : Hid (wr.heap.size = M) := hid hM
      have TH := hid (run_there (q := (qn, qf, qt)) hz)
      have HZ : Hid (Blk W2 M 38 (runL (qn, qf, qt))) := hid (by rw [hW2]; exact row_set hz rfl)
      have HK2 := hid (HK.out.trans KW.out (fun _ _ h => h))
      unfold maxLen at hm
      obtain ⟨fs, hfs⟩ := under_run
      clear hz hcell hq
      go_upto_region 4 with (first
        | (refine wpList_load_mid (by rfl) 38 (.tmp 10) (by rfl) blk (off + k * 3) (by rfl) (runL (qn, qf, qt)) _ HR.out hfs rfl (run_infoL (qn, qf, qt)) ?_)
        | (refine wpList_store_mid (by rfl) 38 (.tmp 4) (.tmp 11) (by rfl) M 0 (runL (qn, qf, qt)).toArray (by rfl) (by rfl) TH.out (run_infoA (qn, qf, qt)) (run_one (qn, qf, qt)) ?_))
      rw [show (wr.alloc (.cells #[.int .i64 0, .int .i64 0, .int .i64 0] 38)).setCells M 0 (runL (qn, qf, qt)) = W2 from hW2.symm]
      clear hW2 TH hM
      have c0 : W2.cell? ⟨M, 0, none⟩ = some (.int .i64 qn) := HZ.out.cell 0
      have c1 : W2.cell? ⟨M, 1, none⟩ = some (.int .i64 qf) := HZ.out.cell 1
      have c2 : W2.cell? ⟨M, 2, none⟩ = some (.int .i64 qt) := HZ.out.cell 2
      have HC : Hid (k < c.length) := hid (by rw [HLE.out]; exact hlt)
      have HSK := hid (HS.out.kept HK2.out)
      have HBAD : Hid (goodR (qn, qf, qt) = false → R = false) := hid (fun h => by rw [← HRR.out]; exact rightC_bad HC.out (.inl (by rw [HQ.out]; exact h)))
      clear HK KW HMW HR
      by_cases g0 : qn < 0
      · have HF : R = false := HBAD.out (by unfold goodR; exact decide_eq_false (by dsimp only; omega))
        subst HF
        go_wp2
        go_ret
        exact ⟨rfl, HK2.out⟩
      by_cases g1 : 7 < qn
      · have HF : R = false := HBAD.out (by unfold goodR; exact decide_eq_false (by dsimp only; omega))
        subst HF
        go_wp2
        go_ret
        exact ⟨rfl, HK2.out⟩
      by_cases g2 : qf < 1
      · have HF : R = false := HBAD.out (by unfold goodR; exact decide_eq_false (by dsimp only; omega))
        subst HF
        go_wp2
        go_ret
        exact ⟨rfl, HK2.out⟩
      by_cases g3 : qt < qf
      · have HF : R = false := HBAD.out (by unfold goodR; exact decide_eq_false (by dsimp only; omega))
        subst HF
        go_wp2
        go_ret
        exact ⟨rfl, HK2.out⟩
      by_cases g4 : 1099511627776 < qt
      · have HF : R = false := HBAD.out (by unfold goodR; exact decide_eq_false (by dsimp only; omega))
        subst HF
        go_wp2
        go_ret
        exact ⟨rfl, HK2.out⟩
      have HGD : Hid (goodR (qn, qf, qt) = true) := hid (goodR_of.2 (by dsimp only; omega))
      by_cases hk0 : k = 0
      · subst hk0
        have HJN : Hid (∀ j, j < 0 + 1 → goodR (runAt c j) = true ∧ (0 < j → gapB (runAt c (j - 1)) (runAt c j) = true)) := hid (fun j hj => by
          obtain rfl : j = 0 := by omega
          exact ⟨by rw [HQ.out]; exact HGD.out, fun h => by omega⟩)
        go_wp2_with fail
        go_quiet (fail)
        have HK2 := hid (HK2.out.drewN nq)
        go_wp2
        go_roundw
        case rel => exact ⟨0 + 1, by rw [HLE.out]; omega, by go_num, HJN, HK2⟩
        case measure => simp [intOf]; omega
      · obtain ⟨q, rfl⟩ : ∃ q, k = q + 1 := ⟨k - 1, by omega⟩
        obtain ⟨⟨pn, pf, pt⟩, hp⟩ : ∃ x, runAt c q = x := ⟨_, rfl⟩
        have HP := hid hp
        have hgp := (HJ.out q (by omega)).1
        rw [hp] at hgp
        have gp := goodR_of.1 hgp
        dsimp only at gp
        obtain ⟨blk2, off2, cap2, e3, hc3, hm3, hcell2⟩ := cl_shape HSK.out (by intro h; have := HLE.out; rw [h, List.length_nil] at this; omega)
        rw [HLE.out] at e3 hc3 hcell2
        injection e3 with e3 _ e4
        injection e3 with e3
        injection e3 with e3 e5
        subst e3 e4 e5
        have hrp := hcell2 q (by omega)
        rw [hp] at hrp
        have e0 : W2.cell? ⟨blk, off + q * 3 + 0, none⟩ = some (.int .i64 pn) := hrp 0 _ rfl
        have e2 : W2.cell? ⟨blk, off + q * 3 + 2, none⟩ = some (.int .i64 pt) := hrp 2 _ rfl
        rw [Nat.add_zero] at e0
        have w1 : IntKind.i64.wrap ((q : Int) + 1 - 1) = (q : Int) := by rw [show (q : Int) + 1 - 1 = (q : Int) by omega]; exact IntWalk.i64_in _ (by omega)
        have hqL : q < L := by omega
        have w3 : IntKind.i64.wrap (q : Int) = (q : Int) := IntWalk.i64_in _ (by omega)
        have w2 : IntKind.i64.wrap (pt + 2) = pt + 2 := IntWalk.i64_in _ (by omega)
        have HGP : Hid (∀ b, gapB (pn, pf, pt) (qn, qf, qt) = b → gapB (runAt c (q + 1 - 1)) (runAt c (q + 1)) = b) := hid (fun b h => by rw [HQ.out, Nat.add_sub_cancel, HP.out]; exact h)
        have HBG : Hid (gapB (pn, pf, pt) (qn, qf, qt) = false → R = false) := hid (fun h => by rw [← HRR.out]; exact rightC_bad HC.out (.inr ⟨by omega, HGP.out _ h⟩))
        have HJN : Hid (gapB (pn, pf, pt) (qn, qf, qt) = true → ∀ j, j < q + 1 + 1 → goodR (runAt c j) = true ∧ (0 < j → gapB (runAt c (j - 1)) (runAt c j) = true)) := hid (fun h j hj => by
          rcases Nat.lt_or_ge j (q + 1) with h2 | h2
          · exact HJ.out j h2
          · obtain rfl : j = q + 1 := by omega
            exact ⟨by rw [HQ.out]; exact HGD.out, fun _ => HGP.out _ h⟩)
        clear hp hgp hrp hcell2 hm3 hc3 HGP HBAD
        by_cases h1 : qn < pn
        · have HF : R = false := HBG.out (by unfold gapB; simp [h1])
          subst HF
          go_wp2_with fail
          go_quiet (fail)
          have HK2 := hid (HK2.out.drewN nq)
          go_wp2
          go_ret
          exact ⟨rfl, HK2.out⟩
        · by_cases h2 : pn = qn
          · subst h2
            by_cases h3 : qf < pt + 2
            · have HF : R = false := HBG.out (by unfold gapB; simp [h3])
              subst HF
              go_wp2_with fail
              go_quiet (fail)
              have HK2 := hid (HK2.out.drewN nq)
              go_wp2
              go_ret
              exact ⟨rfl, HK2.out⟩
            · have HX := hid (HJN.out (by unfold gapB; simp [h3]))
              go_wp2_with fail
              go_quiet (fail)
              have HK2 := hid (HK2.out.drewN nq)
              go_wp2
              go_roundw
              case rel => exact ⟨q + 1 + 1, by rw [HLE.out]; omega, by go_num, HX, HK2⟩
              case measure => simp [intOf]; omega
          · have h4 : (pn == qn) = false := beq_eq_false_iff_ne.2 h2
            have h5 : decide (qn < pn) = false := decide_eq_false h1
            have HX := hid (HJN.out (by unfold gapB; simp [h1]; omega))
            clear h1
            go_wp2_with fail
            go_quiet (fail)
            have HK2 := hid (HK2.out.drewN nq)
            go_wp2
            go_roundw
            case rel => exact ⟨q + 1 + 1, by rw [HLE.out]; omega, by go_num, HX, HK2⟩
            case measure => simp [intOf]; omega
    · obtain rfl : k = L := by omega
      have HF : R = true := by rw [← HRR.out]; exact rightC_of.2 (fun i hi => HJ.out i (by rw [← HLE.out]; exact hi))
      subst HF
      go_wp2
      go_ret
      exact ⟨rfl, HK.out⟩
end
section
open Go.RowKit
theorem bs_size (a : List UInt8) : (bs a).size = a.length := by simp [ByteArray.size]
end
section
open Go.RowKit
theorem st_bs (s : List UInt8) : st (s.map fun b => (b.toNat : Int)) = bs s := by
  unfold st bs
  rw [List.map_map]
  congr 2
  conv => rhs; rw [← List.map_id s]
  apply List.map_congr_left
  intro b _
  simp
theorem idx_bs (s : List UInt8) (w : World) (i : Nat) (hi : i < s.length) : (Instr.index 9 (.string (bs s)) (.int .i64 i)).run Tryz.prog w = .ok (.int .u8 ((s[i]?.getD 0).toNat : Int)) w := by
  have h := idx_any (s.map fun b => (b.toNat : Int)) w (fun j => by
    rw [List.getElem?_map]
    cases s[j]? with
    | none => decide
    | some b => have := b.toNat_lt; simp only [Option.map_some, Option.getD_some]; omega) i (by rw [List.length_map]; exact hi)
  rw [st_bs] at h
  rw [h, List.getElem?_map, List.getElem?_eq_getElem hi]
  rfl
end
section
open Go.RowKit
theorem bs_toList (l : List UInt8) : (bs l).toList = l := ByteArray.toList_mk _
def PaR (w : World) (N : Nat) (c : List RunQ) (u i : Value) (wr : World) : Prop := ∃ k : Nat, k ≤ c.length ∧ i = .int .i64 k ∧ Hid (wr.ownsRow (N + 1) 38 3 u (c.take k).length (flatR runL (c.take k))) ∧ Hid (Blk wr N 9 (c.map txV)) ∧ Hid (Kp Nb w wr)
set_option maxRecDepth 100000 in
set_option maxHeartbeats 4000000 in
theorem parse_any (c : List RunQ) (w : World) (hr : rightC c = true) (hl : c.length ≤ 1000) (hm : Mx w) (ht : Tab w) :
    Calls Tryz.prog 99 #[.string (bs (textC c))] w fun e w' => ∃ v', e = .returned (.tuple #[v', .bool true]) ∧ ClSl w' v' c ∧ OwnV w v' w' ∧ Kp Nb w w' := by
  by_cases h0 : c.length = 0
  · have e0 : c = [] := List.length_eq_zero_iff.1 h0
    subst e0
    have e : (bs (textC [])) = ⟨#[45]⟩ := rfl
    rw [e]
    clear hm ht hr hl h0 e
    go_enter Tryz.func99, Tryz.ntmps99
    go_wp2
    go_ret2
    exact ⟨_, rfl, cl_nil _, (fun g hg => by simp [Value.ownBlock] at hg), Kp.refl _ _⟩
  · obtain ⟨L, hL⟩ : ∃ L, c.length = L := ⟨_, rfl⟩
    have HLE := hid hL
    have HBG : Hid (L ≤ 1000) := hid (by omega)
    have HG : Hid (∀ q ∈ c, goodR q = true) := hid (right_good hr)
    have HMX := hid hm
    have HTB := hid ht
    have hok : ∀ q ∈ c, RunOk q := fun q hq => by have := goodR_of.1 (HG.out q hq); unfold RunOk I64; omega
    have HOKS := hid hok
    obtain ⟨S, hS⟩ : ∃ S, bs (textC c) = S := ⟨_, rfl⟩
    have hne := textC_ne hr h0
    obtain ⟨N, hN⟩ : ∃ N, w.heap.size = N := ⟨_, rfl⟩
    obtain ⟨W, hW⟩ : ∃ W, W = w.alloc (.cells (c.map txV).toArray 9) := ⟨_, rfl⟩
    have HB0 : Hid (Blk W N 9 (c.map txV)) := hid (by rw [hW, ← hN]; exact Blk.new w _ _)
    have K0 : Hid (Kp Nb w W) := hid (by rw [hW]; exact (Kp.refl Nb w).alloc _)
    have HNW : Hid (w.heap.size = N) := hid hN
    have CS : Hid (Calls Tryz.prog 112 #[.string S, .string ⟨#[32]⟩] w fun e w' => e = .returned (.slice (some ⟨N, 0, none⟩) L L) ∧ w' = W) := hid (by
      obtain ⟨s1, s2⟩ := textC_split hr h0
      obtain ⟨m, hm⟩ := hm
      have hsz : (bs (textC c)).size < 4294967281 := by
        have e3 : textC c = Lib.join (c.map textR) [32] := by unfold textC; rw [hr, if_neg h0]; rfl
        have := join_len [32] (c.map textR) (fun x hx => by
          obtain ⟨q, hq, rfl⟩ := List.mem_map.1 hx
          exact textR_len q (hok q hq))
        rw [List.length_map] at this
        simp only [List.length_singleton] at this
        show (textC c).toArray.size < _
        rw [List.size_toArray, e3]
        omega
      have h := Tryz.strings_Split (bs (textC c)) (bs [32]) m w hsz hm (by decide)
      rw [s1, s2, hS, hN, hL] at h
      rw [hW]
      exact h)
    have CT : Hid (∀ v' wx, ClSl wx v' c → Tab wx → Calls Tryz.prog 78 #[v'] wx fun e w' => e = .returned (.string S) ∧ Kp Nb wx w') := hid (fun v' wx h1 h2 => by rw [← hS]; exact dtext_any v' c wx h1 (by omega) h2)
    have hq : (S.toList == [45]) = false := by
      rw [← hS, bs_toList, beq_eq_false_iff_ne]
      exact fun e => hne (by rw [e])
    rw [hS] at hne ⊢
    clear hm ht hr hl h0 hL hok hS hN hW
    go_enter Tryz.func99, Tryz.ntmps99
    go_wp2_with fail
    refine CS.out.mono ?_
    rintro r w1 ⟨rfl, rfl⟩
    clear hne hq
    go_wp2_with fail
    go_loopw [4, 14] (PaR w N c) (fun _ i _ => L - (intOf i).toNat)
    case atStart => exact ⟨0, Nat.zero_le _, rfl, hid (by rw [List.take_zero]; exact World.ownsRow_nil _ _ _ _), HB0, K0⟩
    case round =>
      obtain ⟨k, hk, rfl, HO, HB, HK⟩ := hrel
      rw [HLE.out] at hk
      obtain ⟨a4, c4, rfl⟩ := own_shape HO.out
      have htl : (c.take k).length = k := by rw [List.length_take, HLE.out]; omega
      by_cases hlt : k < L
      · have HLT := hid hlt
        obtain ⟨⟨qn, qf, qt⟩, hq⟩ : ∃ q, runAt c k = q := ⟨_, rfl⟩
        have hkc : k < c.length := by rw [HLE.out]; exact hlt
        have HGQ : Hid (goodR (qn, qf, qt) = true) := hid (by rw [← hq]; exact HG.out _ (runAt_mem hkc))
        have HSN : Hid (c.take (k + 1) = c.take k ++ [(qn, qf, qt)]) := hid (by rw [take_snocR c k hkc, hq])
        obtain ⟨tv, htv⟩ : ∃ s, bs (textR (qn, qf, qt)) = s := ⟨_, rfl⟩
        have ck : wr.cell? ⟨N, k, none⟩ = some (.string tv) := by
          rw [HB.out.cell k, List.getElem?_map]
          have : c[k]? = some (qn, qf, qt) := by
            rw [List.getElem?_eq_getElem hkc]
            unfold runAt at hq
            rw [List.getElem?_eq_getElem hkc] at hq
            rw [← hq]; rfl
          rw [this, ← htv]; rfl
        have CP : Hid (∀ wx, Mx wx → Calls Tryz.prog 113 #[.string tv] wx fun e w' => e = .returned (.tuple #[runV (qn, qf, qt), .bool true]) ∧ Kp Nb wx w') := hid (fun wx h => by rw [← htv]; exact parserun_any _ wx HGQ.out h)
        have HM2 := hid (HMX.out.kept HK.out)
        clear hq htv hkc
        rw [htl]
        go_wp2_with fail
        refine (CP.out wr HM2.out).mono ?_
        rintro r w6 ⟨rfl, k6⟩
        have HO6 := hid (ownsRow_kpD HO.out k6)
        have HB6 := hid (HB.out.kept k6 (fun h => h))
        have HK6 := hid (HK.out.trans k6 (fun _ _ h => h))
        clear k6 ck
        obtain ⟨M, hM⟩ : ∃ M, w6.heap.size = M := ⟨_, rfl⟩
        obtain ⟨W8, hW8⟩ : ∃ W, W = (w6.alloc (.cells (runL (0, 0, 0)).toArray 38)).setCells M 0 (runL (qn, qf, qt)) := ⟨_, rfl⟩
        have hz := Blk.new w6 38 (runL (0, 0, 0))
        rw [hM] at hz
        have KW8 : Hid (Kp Nb w6 W8) := hid (by rw [hW8]; exact Kp.setCells (fun h => absurd h (by omega)) _ 0 _ ((Kp.refl Nb w6).alloc _))
        have TH := hid (run_there (q := (qn, qf, qt)) hz)
        have HZ8 : Hid (Blk W8 M 38 (runL (qn, qf, qt))) := hid (by rw [hW8]; exact row_set hz rfl)
        have RZ := hid (range_ofR HZ8.out)
        have HO8 := hid (ownsRow_kpD HO6.out KW8.out)
        have HB8 := hid (HB6.out.kept KW8.out (fun h => h))
        have HK8 := hid (HK6.out.trans KW8.out (fun _ _ h => h))
        have MK := hid (make_run1 W8 qn qf qt)
        obtain ⟨fs, hfs⟩ := under_run
        obtain ⟨i0, zz, hi, hz0, hz1, hz2, hz3⟩ := run_info3
        rw [htl] at HO8
        have B2 : Hid (k + [(qn, qf, qt)].length ≤ maxLen ∧ (k + [(qn, qf, qt)].length) * 24 ≤ 140737488355328 ∧ N + 1 ≤ (W8.alloc (.cells #[.int .i64 qn, .int .i64 qf, .int .i64 qt] 38 (0, 0))).heap.size) := hid (by
          have h1 := HB8.out.lt
          have h2 := ((Kp.refl Nb W8).alloc (.cells #[.int .i64 qn, .int .i64 qf, .int .i64 qt] 38 (0, 0))).size
          refine ⟨?_, ?_, by omega⟩ <;> rw [List.length_singleton]
          · unfold maxLen; have := HBG.out; omega
          · have := HBG.out; omega)
        clear hz
        go_upto_region 8 with (first
          | (refine wpList_store_mid (by rfl) 38 (.tmp 7) (.tmp 21) (by rfl) M 0 (runL (qn, qf, qt)).toArray (by rfl) (by rfl) TH.out (run_infoA (qn, qf, qt)) (run_one (qn, qf, qt)) ?_))
        rw [show (w6.alloc (.cells #[.int .i64 0, .int .i64 0, .int .i64 0] 38)).setCells M 0 (runL (qn, qf, qt)) = W8 from hW8.symm]
        clear hW8 hM TH
        go_wp2_with (first
          | (refine wpList_load_mid (by rfl) 38 (.tmp 7) (by rfl) M 0 (by rfl) (runL (qn, qf, qt)) _ RZ.out hfs rfl (run_infoL (qn, qf, qt)) ?_)
          | (refine wpList_val (by rfl) _ _ (exec_buildSliceD rfl (qs := #[(0, .agg #[.int .i64 qn, .int .i64 qf, .int .i64 qt])]) (by simp [Act.eval, Act.put]) MK.out) ?_)
          | (at_builtin; refine wpList_append_rows (f := runL) (z := (0, 0, 0)) (c := 3) rfl _ _ 25 rfl (N + 1) 38 i0 zz 24 under_clock hi hz0 hz1 hz2 hz3 (by decide) _ _ _ rfl (ownsRow_kpD HO8.out ((Kp.refl Nb _).alloc _)) _ [(qn, qf, qt)] rfl (rows_oneR (Blk.new _ _ _)) (fun x hx => rfl) (fun x _ => run_one' x) B2.out.1 B2.out.2.1 B2.out.2.2 ?_))
        intro v10 w10 hown hgrow
        have HK10 : Hid (Kp Nb w w10) := hid ((HK8.out.trans ((Kp.refl Nb W8).alloc (.cells #[.int .i64 qn, .int .i64 qf, .int .i64 qt] 38 (0, 0))) (fun _ _ h => h)).grown hgrow (fun g hg h => by have := (row_cells HO8.out hg).1; have := HNW.out; omega))
        have HB10 : Hid (Blk w10 N 9 (c.map txV)) := hid ((hgrow.block N (HB8.out.alloc _).lt (fun h => by have := (row_cells HO8.out h.symm).1; omega)).trans (HB8.out.alloc _))
        have HO10 : Hid (w10.ownsRow (N + 1) 38 3 v10 (c.take (k + 1)).length (flatR runL (c.take (k + 1)))) := hid (by rw [HSN.out, List.length_append, htl, flatR_append]; exact hown)
        obtain ⟨a10, c10, rfl⟩ := own_shape hown
        clear hown hgrow
        have hb9 := HBG.out
        go_wp2
        go_roundw
        case rel => exact ⟨k + 1, by rw [HLE.out]; exact HLT.out, by go_num, HO10, HB10, HK10⟩
        case measure => have := HLT.out; simp [intOf]; omega
      · obtain rfl : k = L := by omega
        have hck : c.take k = c := by rw [← HLE.out, List.take_length]
        have HOX := HO.out
        rw [hck] at HOX
        have HCL : Hid (ClSl wr (.slice a4 c.length c4) c) := hid (cl_owned HOX HOKS.out)
        have HOW : Hid (∀ g, (Value.slice a4 c.length c4).ownBlock = some g → w.heap.size ≤ g ∧ g < wr.heap.size) := hid (fun g hg => by obtain ⟨h1, o, ho, -⟩ := row_cells HOX hg; exact ⟨by have := HNW.out; omega, (Array.getElem?_eq_some_iff.1 ho).1⟩)
        have C9 := hid (CT.out _ wr HCL.out (HTB.out.kept HK.out))
        rw [hck]
        rw [HLE.out] at C9 HCL HOW
        clear HOX
        rw [HLE.out]
        go_wp2_with fail
        refine C9.out.mono ?_
        rintro r w9 ⟨rfl, k9⟩
        have HK9 := hid (HK.out.trans k9 (fun _ _ h => h))
        have HC9 := hid (HCL.out.kept k9)
        have HS9 := hid k9.size
        clear k9
        go_wp2
        go_ret2
        exact ⟨_, rfl, HC9.out, fun g hg => by have h1 := HOW.out g hg; have h2 := HS9.out; exact ⟨h1.1, by omega⟩, HK9.out⟩
end
section
open Go.RowKit
theorem spl_some (c : UInt8) (s : List UInt8) : ∃ q0 R, splL c s = q0 :: R := by
  cases h : splL c s with
  | nil => exfalso; have := congrArg List.length h; unfold splL at this; simp at this
  | cons q0 R => exact ⟨q0, R, rfl⟩
def ParOut (w : World) (x : Option (List RunQ)) (e : Ending) (w' : World) : Prop := ∃ v', e = .returned (.tuple #[v', .bool x.isSome]) ∧ ClSl w' v' (x.getD []) ∧ Kp Nb w w'
end
section
open Go.RowKit
/-- The library's two errors lie in memory. -/
def Ev (w : World) : Prop := (∃ t p, w.cell? ⟨1, 0, none⟩ = some (.iface t p)) ∧ (∃ t p, w.cell? ⟨2, 0, none⟩ = some (.iface t p))
theorem Ev.keptS {S : Nat → Prop} {w w' : World} (h : Ev w) (k : Kp S w w') (h1 : ¬ S 1) (h2 : ¬ S 2) : Ev w' := by
  obtain ⟨⟨t, p, h⟩, ⟨u, q, g⟩⟩ := h
  exact ⟨⟨t, p, k.cell h h1⟩, ⟨u, q, k.cell g h2⟩⟩
theorem Ev.kept {w w' : World} (h : Ev w) (k : Kp Nb w w') : Ev w' := h.keptS k (fun h => h) (fun h => h)
theorem atoi_i64 {s : List UInt8} {v : Int} (h : Lib.atoiAll s = .ok v) : I64 v ∧ s ≠ [] := by
  unfold Lib.atoiAll at h
  split at h
  · cases h
  · dsimp only at h
    refine ⟨?_, by simp⟩
    split at h
    · cases h
    · cases h
    · split at h
      · cases h
      · split at h
        · cases h
        · rename_i h1 h2
          injection h with h
          unfold I64
          split at h <;> omega
theorem atoi_sat (s : List UInt8) : I64 (Lib.atoiSat s) := by unfold Lib.atoiSat I64; split <;> omega
theorem atoi_weak (s : List UInt8) (w : World) (hv : Ev w) (hl : s.length ≤ 1000000) :
    Calls Tryz.prog 128 #[.string (bs s)] w fun e w' => ∃ n, I64 n ∧ Kp Nb w w' ∧ ((e = .returned (.tuple #[.int .i64 n, .nilIface]) ∧ s ≠ []) ∨ ∃ N, e = .returned (.tuple #[.int .i64 n, .iface 174 (.pointer (some ⟨N, 0, none⟩))])) := by
  obtain ⟨⟨t1, p1, h1⟩, ⟨t2, p2, h2⟩⟩ := hv
  have hz : (bs s).size ≤ 1000000 := by rw [bs_size]; exact hl
  cases hA : Lib.atoiAll s
  · rename_i v
    obtain ⟨i1, i2⟩ := atoi_i64 hA
    refine Calls.mono (Any.strconv_Atoi_ok Tryz.laysC172 (bs s) (by omega) v hA w) ?_
    rintro e w' ⟨rfl, hw⟩
    refine ⟨v, i1, ?_, .inl ⟨rfl, i2⟩⟩
    rcases hw with rfl | ⟨t, rfl⟩
    · exact Kp.refl _ _
    · exact kp_below (Go.Joins.below_bytesWorld _ w _ t (Nat.le_refl _))
  · refine Calls.mono (Any.strconv_Atoi_syntax Tryz.laysC172 (bs s) (by omega) hA (.iface t1 p1) w h1 (.inr ⟨_, _, rfl⟩)) ?_
    rintro e w' ⟨N, rfl, -, -, hb⟩
    exact ⟨0, by unfold I64; omega, kp_below hb, .inr ⟨N, rfl⟩⟩
  · refine Calls.mono (Any.strconv_Atoi_range Tryz.laysC172 (bs s) (by omega) hA (.iface t2 p2) w h2 (.inr ⟨_, _, rfl⟩)) ?_
    rintro e w' ⟨N, rfl, -, -, hb⟩
    exact ⟨_, atoi_sat s, kp_below hb, .inr ⟨N, rfl⟩⟩
theorem cut_len {s sep a b : List UInt8} {t : Bool} (h : Lib.cut s sep = (a, b, t)) : a.length ≤ s.length ∧ b.length ≤ s.length := by
  unfold Lib.cut at h
  split at h
  · simp only [Prod.mk.injEq] at h
    obtain ⟨rfl, rfl, -⟩ := h
    rw [List.length_take, List.length_drop]
    omega
  · simp only [Prod.mk.injEq] at h
    obtain ⟨rfl, rfl, -⟩ := h
    exact ⟨Nat.le_refl _, Nat.zero_le _⟩
def PwR (w : World) (N M : Nat) (s : List UInt8) (i : Value) (wr : World) : Prop := ∃ (k : Nat) (x0 x1 x2 : Int), k ≤ 3 ∧ i = .int .i64 k ∧ Hid (I64 x0 ∧ I64 x1 ∧ I64 x2) ∧ Hid (0 < k → s ≠ []) ∧ Hid (Blk wr M 157 [.int .i64 x0, .int .i64 x1, .int .i64 x2]) ∧ Hid (Blk wr N 38 (runL (0, 0, 0))) ∧ Hid (Kp Nb w wr)
def RunOut (w : World) (s : List UInt8) (e : Ending) (w' : World) : Prop := ∃ (q : RunQ) (b : Bool), RunOk q ∧ (b = true → s ≠ []) ∧ e = .returned (.tuple #[runV q, .bool b]) ∧ Kp Nb w w'
set_option maxRecDepth 100000 in
set_option maxHeartbeats 4000000 in
theorem prun_weak (s : List UInt8) (w : World) (hl : s.length ≤ 1000000) (hm : Mx w) (hv : Ev w) : Calls Tryz.prog 113 #[.string (bs s)] w (RunOut w s) := by
  obtain ⟨⟨la, ld, b1⟩, hc1⟩ : ∃ x, Lib.cut s [58] = x := ⟨_, rfl⟩
  obtain ⟨⟨lf, lt, b2⟩, hc2⟩ : ∃ x, Lib.cut ld [45] = x := ⟨_, rfl⟩
  have l1 := cut_len hc1
  have l2 := cut_len hc2
  have hne : la ≠ [] → s ≠ [] := fun h e => by
    subst e
    exact h (List.length_eq_zero_iff.1 (by have := l1.1; rw [List.length_nil] at this; omega))
  have HNE := hid hne
  have HMX := hid hm
  have HEV := hid hv
  have A1 : Hid (∀ wx, Ev wx → Calls Tryz.prog 128 #[.string (bs la)] wx fun e w' => ∃ n, I64 n ∧ Kp Nb wx w' ∧ ((e = .returned (.tuple #[.int .i64 n, .nilIface]) ∧ la ≠ []) ∨ ∃ N, e = .returned (.tuple #[.int .i64 n, .iface 174 (.pointer (some ⟨N, 0, none⟩))]))) := hid (fun wx h => atoi_weak la wx h (by omega))
  have A2 : Hid (∀ wx, Ev wx → Calls Tryz.prog 128 #[.string (bs lf)] wx fun e w' => ∃ n, I64 n ∧ Kp Nb wx w' ∧ ((e = .returned (.tuple #[.int .i64 n, .nilIface]) ∧ lf ≠ []) ∨ ∃ N, e = .returned (.tuple #[.int .i64 n, .iface 174 (.pointer (some ⟨N, 0, none⟩))]))) := hid (fun wx h => atoi_weak lf wx h (by omega))
  have A3 : Hid (∀ wx, Ev wx → Calls Tryz.prog 128 #[.string (bs lt)] wx fun e w' => ∃ n, I64 n ∧ Kp Nb wx w' ∧ ((e = .returned (.tuple #[.int .i64 n, .nilIface]) ∧ lt ≠ []) ∨ ∃ N, e = .returned (.tuple #[.int .i64 n, .iface 174 (.pointer (some ⟨N, 0, none⟩))]))) := hid (fun wx h => atoi_weak lt wx h (by omega))
  have C1 : Hid (∀ wx, Mx wx → Calls Tryz.prog 73 #[.string (bs s), .string ⟨#[58]⟩] wx fun e w' => e = .returned (.tuple #[.string (bs la), .string (bs ld), .bool b1]) ∧ Kp Nb wx w') := hid (fun wx h => cut_any _ [58] _ _ _ wx h (by omega) hc1)
  have C2 : Hid (∀ wx, Mx wx → Calls Tryz.prog 73 #[.string (bs ld), .string ⟨#[45]⟩] wx fun e w' => e = .returned (.tuple #[.string (bs lf), .string (bs lt), .bool b2]) ∧ Kp Nb wx w') := hid (fun wx h => cut_any _ [45] _ _ _ wx h (by omega) hc2)
  obtain ⟨S, hS⟩ : ∃ x, bs s = x := ⟨_, rfl⟩
  obtain ⟨sr, hsr⟩ : ∃ x, bs ld = x := ⟨_, rfl⟩
  obtain ⟨sn, hsn⟩ : ∃ x, bs la = x := ⟨_, rfl⟩
  obtain ⟨sf, hsf⟩ : ∃ x, bs lf = x := ⟨_, rfl⟩
  obtain ⟨st', hst⟩ : ∃ x, bs lt = x := ⟨_, rfl⟩
  rw [hS, hsn, hsr] at C1
  rw [hsr, hsf, hst] at C2
  rw [hsn] at A1
  rw [hsf] at A2
  rw [hst] at A3
  rw [hS]
  clear hm hv hS hsr hsn hsf hst hc1 hc2 l1 l2 hne hl
  obtain ⟨N, hN⟩ : ∃ N, w.heap.size = N := ⟨_, rfl⟩
  obtain ⟨W, hW⟩ : ∃ W, W = w.alloc (.cells #[.int .i64 0, .int .i64 0, .int .i64 0] 38) := ⟨_, rfl⟩
  have HB0 : Hid (Blk W N 38 (runL (0, 0, 0))) := hid (by rw [hW, ← hN]; exact Blk.new w _ _)
  have K0 : Hid (Kp Nb w W) := hid (by rw [hW]; exact (Kp.refl Nb w).alloc _)
  have HM0 := hid (HMX.out.kept K0.out)
  have HNW : Hid (w.heap.size = N) := hid hN
  go_enter Tryz.func113, Tryz.ntmps113
  go_upto_region 1 with fail
  rw [← hW]
  clear hW hN
  go_wp2_with fail
  refine (C1.out W HM0.out).mono ?_
  rintro r w1 ⟨rfl, k1⟩
  have B1 := hid (HB0.out.kept k1 (fun h => h))
  have K1 := hid (K0.out.trans k1 (fun _ _ h => h))
  have M1 := hid (HM0.out.kept k1)
  clear k1
  go_wp2_with fail
  refine (C2.out w1 M1.out).mono ?_
  rintro r w2 ⟨rfl, k2⟩
  have B2 := hid (B1.out.kept k2 (fun h => h))
  have K2 := hid (K1.out.trans k2 (fun _ _ h => h))
  clear k2
  obtain ⟨M, hM⟩ : ∃ M, w2.heap.size = M := ⟨_, rfl⟩
  obtain ⟨W3, hW3⟩ : ∃ W, W = w2.alloc (.cells #[.int .i64 0, .int .i64 0, .int .i64 0] 157) := ⟨_, rfl⟩
  have HZ3 : Hid (Blk W3 M 157 [.int .i64 0, .int .i64 0, .int .i64 0]) := hid (by rw [hW3, ← hM]; exact Blk.new w2 _ _)
  have HB3 : Hid (Blk W3 N 38 (runL (0, 0, 0))) := hid (by rw [hW3]; exact B2.out.alloc _)
  have K3 : Hid (Kp Nb w W3) := hid (by rw [hW3]; exact K2.out.alloc _)
  have HMN : Hid (N ≠ M ∧ w.heap.size ≤ N ∧ w.heap.size ≤ M) := hid (by have := B2.out.lt; have := K2.out.size; have := HNW.out; omega)
  have HZI : Hid (I64 0 ∧ I64 0 ∧ I64 0) := hid (by unfold I64; omega)
  cases b2 with
  | true =>
    go_upto_region 6 with fail
    rw [← hW3]
    clear hW3 hM
    go_wp2
    go_loopw [34] (PwR w N M s) (fun i _ => 3 - (intOf i).toNat)
    case atStart => exact ⟨0, 0, 0, 0, by omega, rfl, HZI, hid (fun h => absurd h (by omega)), HZ3, HB3, K3⟩
    case round =>
      obtain ⟨k, x0, x1, x2, hk, rfl, HI, HSN, HZ, HN, HK⟩ := hrel
      obtain rfl | rfl | rfl | rfl : k = 0 ∨ k = 1 ∨ k = 2 ∨ k = 3 := by omega
      · have ix := idx3_0 sn sf st'
        have e2 : 2 < 3 := by decide
        have cz : wr.cell? ⟨M, 0, none⟩ = some (.int .i64 x0) := HZ.out.cell 0
        go_wp2_with fail
        refine (A1.out wr (HEV.out.kept HK.out)).mono ?_
        rintro r w5 ⟨n, hn, k5, he⟩
        have HNN := hid hn
        have HZ5 := hid (HZ.out.kept k5 (fun h => h))
        have HN5 := hid (HN.out.kept k5 (fun h => h))
        have HK5 := hid (HK.out.trans k5 (fun _ _ h => h))
        clear k5 hn cz
        rcases he with ⟨rfl, hs⟩ | ⟨NE, rfl⟩
        · have HSX : Hid (0 < 0 + 1 → s ≠ []) := hid (fun _ => HNE.out hs)
          have fz := HZ5.out.frozen 0
          have ck : w5.cell? ⟨M, 0, none⟩ = some (.int .i64 x0) := HZ5.out.cell 0
          have HZ6 : Hid (Blk (w5.setCell ⟨M, 0, none⟩ (.int .i64 n)) M 157 [.int .i64 n, .int .i64 x1, .int .i64 x2]) := hid (HZ5.out.set 0 _)
          have HN6 : Hid (Blk (w5.setCell ⟨M, 0, none⟩ (.int .i64 n)) N 38 (runL (0, 0, 0))) := hid (HN5.out.kept (S := Jb M) ((Kp.refl (Jb M) w5).set 0 _) (fun h => HMN.out.1 h))
          have HK6 : Hid (Kp Nb w (w5.setCell ⟨M, 0, none⟩ (.int .i64 n))) := hid (HK5.out.setCell (p := ⟨M, 0, none⟩) (fun h => by have := HMN.out; dsimp only at h; omega) _)
          have HI6 : Hid (I64 n ∧ I64 x1 ∧ I64 x2) := hid ⟨HNN.out, HI.out.2.1, HI.out.2.2⟩
          go_wp2
          go_roundw
          case rel => exact ⟨0 + 1, n, x1, x2, by omega, by go_num, HI6, HSX, HZ6, HN6, HK6⟩
          case measure => simp [intOf]
        · have TH := hid (run_there (q := (0, 0, 0)) HN5.out)
          have HW := hid (row_set (vs := runL (0, 0, 0)) (cs := runL (0, 0, 0)) HN5.out rfl)
          have HKW : Hid (Kp Nb w (w5.setCells N 0 (runL (0, 0, 0)))) := hid (Kp.setCells (fun h => absurd h (by have := HMN.out; omega)) _ 0 _ HK5.out)
          obtain ⟨fs, hfs⟩ := under_run
          go_wp2_with (first
            | (refine wpList_store_mid (by rfl) 38 (.tmp 2) (.tmp 45) (by rfl) N 0 (runL (0, 0, 0)).toArray (by rfl) (by rfl) TH.out (run_infoA (0, 0, 0)) (run_one (0, 0, 0)) ?_))
          refine bodyPost_ret (results_ctD rfl _ N (by rfl) (runV (0, 0, 0)) (.bool false) (by rfl) (row_loadVar Tryz.underlying38 rfl (run_infoL (0, 0, 0)) HW.out 0 (fun j _ => by rw [Nat.zero_add]))) rfl ⟨(0, 0, 0), false, HZI.out, (fun h => by cases h), rfl, HKW.out⟩
      · have ix := idx3_1 sn sf st'
        have e2 : 2 < 3 := by decide
        have cz : wr.cell? ⟨M, 1, none⟩ = some (.int .i64 x1) := HZ.out.cell 1
        go_wp2_with fail
        refine (A2.out wr (HEV.out.kept HK.out)).mono ?_
        rintro r w5 ⟨n, hn, k5, he⟩
        have HNN := hid hn
        have HZ5 := hid (HZ.out.kept k5 (fun h => h))
        have HN5 := hid (HN.out.kept k5 (fun h => h))
        have HK5 := hid (HK.out.trans k5 (fun _ _ h => h))
        clear k5 hn cz
        rcases he with ⟨rfl, hs⟩ | ⟨NE, rfl⟩
        · have HSX : Hid (0 < 1 + 1 → s ≠ []) := hid (fun _ => HSN.out (by omega))
          have fz := HZ5.out.frozen 1
          have ck : w5.cell? ⟨M, 1, none⟩ = some (.int .i64 x1) := HZ5.out.cell 1
          have HZ6 : Hid (Blk (w5.setCell ⟨M, 1, none⟩ (.int .i64 n)) M 157 [.int .i64 x0, .int .i64 n, .int .i64 x2]) := hid (HZ5.out.set 1 _)
          have HN6 : Hid (Blk (w5.setCell ⟨M, 1, none⟩ (.int .i64 n)) N 38 (runL (0, 0, 0))) := hid (HN5.out.kept (S := Jb M) ((Kp.refl (Jb M) w5).set 1 _) (fun h => HMN.out.1 h))
          have HK6 : Hid (Kp Nb w (w5.setCell ⟨M, 1, none⟩ (.int .i64 n))) := hid (HK5.out.setCell (p := ⟨M, 1, none⟩) (fun h => by have := HMN.out; dsimp only at h; omega) _)
          have HI6 : Hid (I64 x0 ∧ I64 n ∧ I64 x2) := hid ⟨HI.out.1, HNN.out, HI.out.2.2⟩
          go_wp2
          go_roundw
          case rel => exact ⟨1 + 1, x0, n, x2, by omega, by go_num, HI6, HSX, HZ6, HN6, HK6⟩
          case measure => simp [intOf]
        · have TH := hid (run_there (q := (0, 0, 0)) HN5.out)
          have HW := hid (row_set (vs := runL (0, 0, 0)) (cs := runL (0, 0, 0)) HN5.out rfl)
          have HKW : Hid (Kp Nb w (w5.setCells N 0 (runL (0, 0, 0)))) := hid (Kp.setCells (fun h => absurd h (by have := HMN.out; omega)) _ 0 _ HK5.out)
          obtain ⟨fs, hfs⟩ := under_run
          go_wp2_with (first
            | (refine wpList_store_mid (by rfl) 38 (.tmp 2) (.tmp 45) (by rfl) N 0 (runL (0, 0, 0)).toArray (by rfl) (by rfl) TH.out (run_infoA (0, 0, 0)) (run_one (0, 0, 0)) ?_))
          refine bodyPost_ret (results_ctD rfl _ N (by rfl) (runV (0, 0, 0)) (.bool false) (by rfl) (row_loadVar Tryz.underlying38 rfl (run_infoL (0, 0, 0)) HW.out 0 (fun j _ => by rw [Nat.zero_add]))) rfl ⟨(0, 0, 0), false, HZI.out, (fun h => by cases h), rfl, HKW.out⟩
      · have ix := idx3_2 sn sf st'
        have e2 : 2 < 3 := by decide
        have cz : wr.cell? ⟨M, 2, none⟩ = some (.int .i64 x2) := HZ.out.cell 2
        go_wp2_with fail
        refine (A3.out wr (HEV.out.kept HK.out)).mono ?_
        rintro r w5 ⟨n, hn, k5, he⟩
        have HNN := hid hn
        have HZ5 := hid (HZ.out.kept k5 (fun h => h))
        have HN5 := hid (HN.out.kept k5 (fun h => h))
        have HK5 := hid (HK.out.trans k5 (fun _ _ h => h))
        clear k5 hn cz
        rcases he with ⟨rfl, hs⟩ | ⟨NE, rfl⟩
        · have HSX : Hid (0 < 2 + 1 → s ≠ []) := hid (fun _ => HSN.out (by omega))
          have fz := HZ5.out.frozen 2
          have ck : w5.cell? ⟨M, 2, none⟩ = some (.int .i64 x2) := HZ5.out.cell 2
          have HZ6 : Hid (Blk (w5.setCell ⟨M, 2, none⟩ (.int .i64 n)) M 157 [.int .i64 x0, .int .i64 x1, .int .i64 n]) := hid (HZ5.out.set 2 _)
          have HN6 : Hid (Blk (w5.setCell ⟨M, 2, none⟩ (.int .i64 n)) N 38 (runL (0, 0, 0))) := hid (HN5.out.kept (S := Jb M) ((Kp.refl (Jb M) w5).set 2 _) (fun h => HMN.out.1 h))
          have HK6 : Hid (Kp Nb w (w5.setCell ⟨M, 2, none⟩ (.int .i64 n))) := hid (HK5.out.setCell (p := ⟨M, 2, none⟩) (fun h => by have := HMN.out; dsimp only at h; omega) _)
          have HI6 : Hid (I64 x0 ∧ I64 x1 ∧ I64 n) := hid ⟨HI.out.1, HI.out.2.1, HNN.out⟩
          go_wp2
          go_roundw
          case rel => exact ⟨2 + 1, x0, x1, n, by omega, by go_num, HI6, HSX, HZ6, HN6, HK6⟩
          case measure => simp [intOf]
        · have TH := hid (run_there (q := (0, 0, 0)) HN5.out)
          have HW := hid (row_set (vs := runL (0, 0, 0)) (cs := runL (0, 0, 0)) HN5.out rfl)
          have HKW : Hid (Kp Nb w (w5.setCells N 0 (runL (0, 0, 0)))) := hid (Kp.setCells (fun h => absurd h (by have := HMN.out; omega)) _ 0 _ HK5.out)
          obtain ⟨fs, hfs⟩ := under_run
          go_wp2_with (first
            | (refine wpList_store_mid (by rfl) 38 (.tmp 2) (.tmp 45) (by rfl) N 0 (runL (0, 0, 0)).toArray (by rfl) (by rfl) TH.out (run_infoA (0, 0, 0)) (run_one (0, 0, 0)) ?_))
          refine bodyPost_ret (results_ctD rfl _ N (by rfl) (runV (0, 0, 0)) (.bool false) (by rfl) (row_loadVar Tryz.underlying38 rfl (run_infoL (0, 0, 0)) HW.out 0 (fun j _ => by rw [Nat.zero_add]))) rfl ⟨(0, 0, 0), false, HZI.out, (fun h => by cases h), rfl, HKW.out⟩
      · have c0 : wr.cell? ⟨M, 0, none⟩ = some (.int .i64 x0) := HZ.out.cell 0
        have c1 : wr.cell? ⟨M, 1, none⟩ = some (.int .i64 x1) := HZ.out.cell 1
        have c2 : wr.cell? ⟨M, 2, none⟩ = some (.int .i64 x2) := HZ.out.cell 2
        have TH := hid (run_there (q := (x0, x1, x2)) HN.out)
        have HW := hid (row_set (vs := runL (0, 0, 0)) (cs := runL (x0, x1, x2)) HN.out rfl)
        have HKW : Hid (Kp Nb w (wr.setCells N 0 (runL (x0, x1, x2)))) := hid (Kp.setCells (fun h => absurd h (by have := HMN.out; omega)) _ 0 _ HK.out)
        obtain ⟨fs, hfs⟩ := under_run
        go_wp2_with (first
          | (refine wpList_store_mid (by rfl) 38 (.tmp 2) (.tmp 56) (by rfl) N 0 (runL (x0, x1, x2)).toArray (by rfl) (by rfl) TH.out (run_infoA (x0, x1, x2)) (run_one (x0, x1, x2)) ?_))
        refine bodyPost_ret (results_ctD rfl _ N (by rfl) (runV (x0, x1, x2)) (.bool true) (by rfl) (row_loadVar Tryz.underlying38 rfl (run_infoL (x0, x1, x2)) HW.out 0 (fun j _ => by rw [Nat.zero_add]))) rfl ⟨(x0, x1, x2), true, HI.out, (fun _ => HSN.out (by omega)), rfl, HKW.out⟩
  | false =>
    go_upto_region 6 with fail
    rw [← hW3]
    clear hW3 hM
    go_wp2
    go_loopw [34] (PwR w N M s) (fun i _ => 3 - (intOf i).toNat)
    case atStart => exact ⟨0, 0, 0, 0, by omega, rfl, HZI, hid (fun h => absurd h (by omega)), HZ3, HB3, K3⟩
    case round =>
      obtain ⟨k, x0, x1, x2, hk, rfl, HI, HSN, HZ, HN, HK⟩ := hrel
      obtain rfl | rfl | rfl | rfl : k = 0 ∨ k = 1 ∨ k = 2 ∨ k = 3 := by omega
      · have ix := idx3_0 sn sf sf
        have e2 : 2 < 3 := by decide
        have cz : wr.cell? ⟨M, 0, none⟩ = some (.int .i64 x0) := HZ.out.cell 0
        go_wp2_with fail
        refine (A1.out wr (HEV.out.kept HK.out)).mono ?_
        rintro r w5 ⟨n, hn, k5, he⟩
        have HNN := hid hn
        have HZ5 := hid (HZ.out.kept k5 (fun h => h))
        have HN5 := hid (HN.out.kept k5 (fun h => h))
        have HK5 := hid (HK.out.trans k5 (fun _ _ h => h))
        clear k5 hn cz
        rcases he with ⟨rfl, hs⟩ | ⟨NE, rfl⟩
        · have HSX : Hid (0 < 0 + 1 → s ≠ []) := hid (fun _ => HNE.out hs)
          have fz := HZ5.out.frozen 0
          have ck : w5.cell? ⟨M, 0, none⟩ = some (.int .i64 x0) := HZ5.out.cell 0
          have HZ6 : Hid (Blk (w5.setCell ⟨M, 0, none⟩ (.int .i64 n)) M 157 [.int .i64 n, .int .i64 x1, .int .i64 x2]) := hid (HZ5.out.set 0 _)
          have HN6 : Hid (Blk (w5.setCell ⟨M, 0, none⟩ (.int .i64 n)) N 38 (runL (0, 0, 0))) := hid (HN5.out.kept (S := Jb M) ((Kp.refl (Jb M) w5).set 0 _) (fun h => HMN.out.1 h))
          have HK6 : Hid (Kp Nb w (w5.setCell ⟨M, 0, none⟩ (.int .i64 n))) := hid (HK5.out.setCell (p := ⟨M, 0, none⟩) (fun h => by have := HMN.out; dsimp only at h; omega) _)
          have HI6 : Hid (I64 n ∧ I64 x1 ∧ I64 x2) := hid ⟨HNN.out, HI.out.2.1, HI.out.2.2⟩
          go_wp2
          go_roundw
          case rel => exact ⟨0 + 1, n, x1, x2, by omega, by go_num, HI6, HSX, HZ6, HN6, HK6⟩
          case measure => simp [intOf]
        · have TH := hid (run_there (q := (0, 0, 0)) HN5.out)
          have HW := hid (row_set (vs := runL (0, 0, 0)) (cs := runL (0, 0, 0)) HN5.out rfl)
          have HKW : Hid (Kp Nb w (w5.setCells N 0 (runL (0, 0, 0)))) := hid (Kp.setCells (fun h => absurd h (by have := HMN.out; omega)) _ 0 _ HK5.out)
          obtain ⟨fs, hfs⟩ := under_run
          go_wp2_with (first
            | (refine wpList_store_mid (by rfl) 38 (.tmp 2) (.tmp 45) (by rfl) N 0 (runL (0, 0, 0)).toArray (by rfl) (by rfl) TH.out (run_infoA (0, 0, 0)) (run_one (0, 0, 0)) ?_))
          refine bodyPost_ret (results_ctD rfl _ N (by rfl) (runV (0, 0, 0)) (.bool false) (by rfl) (row_loadVar Tryz.underlying38 rfl (run_infoL (0, 0, 0)) HW.out 0 (fun j _ => by rw [Nat.zero_add]))) rfl ⟨(0, 0, 0), false, HZI.out, (fun h => by cases h), rfl, HKW.out⟩
      · have ix := idx3_1 sn sf sf
        have e2 : 2 < 3 := by decide
        have cz : wr.cell? ⟨M, 1, none⟩ = some (.int .i64 x1) := HZ.out.cell 1
        go_wp2_with fail
        refine (A2.out wr (HEV.out.kept HK.out)).mono ?_
        rintro r w5 ⟨n, hn, k5, he⟩
        have HNN := hid hn
        have HZ5 := hid (HZ.out.kept k5 (fun h => h))
        have HN5 := hid (HN.out.kept k5 (fun h => h))
        have HK5 := hid (HK.out.trans k5 (fun _ _ h => h))
        clear k5 hn cz
        rcases he with ⟨rfl, hs⟩ | ⟨NE, rfl⟩
        · have HSX : Hid (0 < 1 + 1 → s ≠ []) := hid (fun _ => HSN.out (by omega))
          have fz := HZ5.out.frozen 1
          have ck : w5.cell? ⟨M, 1, none⟩ = some (.int .i64 x1) := HZ5.out.cell 1
          have HZ6 : Hid (Blk (w5.setCell ⟨M, 1, none⟩ (.int .i64 n)) M 157 [.int .i64 x0, .int .i64 n, .int .i64 x2]) := hid (HZ5.out.set 1 _)
          have HN6 : Hid (Blk (w5.setCell ⟨M, 1, none⟩ (.int .i64 n)) N 38 (runL (0, 0, 0))) := hid (HN5.out.kept (S := Jb M) ((Kp.refl (Jb M) w5).set 1 _) (fun h => HMN.out.1 h))
          have HK6 : Hid (Kp Nb w (w5.setCell ⟨M, 1, none⟩ (.int .i64 n))) := hid (HK5.out.setCell (p := ⟨M, 1, none⟩) (fun h => by have := HMN.out; dsimp only at h; omega) _)
          have HI6 : Hid (I64 x0 ∧ I64 n ∧ I64 x2) := hid ⟨HI.out.1, HNN.out, HI.out.2.2⟩
          go_wp2
          go_roundw
          case rel => exact ⟨1 + 1, x0, n, x2, by omega, by go_num, HI6, HSX, HZ6, HN6, HK6⟩
          case measure => simp [intOf]
        · have TH := hid (run_there (q := (0, 0, 0)) HN5.out)
          have HW := hid (row_set (vs := runL (0, 0, 0)) (cs := runL (0, 0, 0)) HN5.out rfl)
          have HKW : Hid (Kp Nb w (w5.setCells N 0 (runL (0, 0, 0)))) := hid (Kp.setCells (fun h => absurd h (by have := HMN.out; omega)) _ 0 _ HK5.out)
          obtain ⟨fs, hfs⟩ := under_run
          go_wp2_with (first
            | (refine wpList_store_mid (by rfl) 38 (.tmp 2) (.tmp 45) (by rfl) N 0 (runL (0, 0, 0)).toArray (by rfl) (by rfl) TH.out (run_infoA (0, 0, 0)) (run_one (0, 0, 0)) ?_))
          refine bodyPost_ret (results_ctD rfl _ N (by rfl) (runV (0, 0, 0)) (.bool false) (by rfl) (row_loadVar Tryz.underlying38 rfl (run_infoL (0, 0, 0)) HW.out 0 (fun j _ => by rw [Nat.zero_add]))) rfl ⟨(0, 0, 0), false, HZI.out, (fun h => by cases h), rfl, HKW.out⟩
      · have ix := idx3_2 sn sf sf
        have e2 : 2 < 3 := by decide
        have cz : wr.cell? ⟨M, 2, none⟩ = some (.int .i64 x2) := HZ.out.cell 2
        go_wp2_with fail
        refine (A2.out wr (HEV.out.kept HK.out)).mono ?_
        rintro r w5 ⟨n, hn, k5, he⟩
        have HNN := hid hn
        have HZ5 := hid (HZ.out.kept k5 (fun h => h))
        have HN5 := hid (HN.out.kept k5 (fun h => h))
        have HK5 := hid (HK.out.trans k5 (fun _ _ h => h))
        clear k5 hn cz
        rcases he with ⟨rfl, hs⟩ | ⟨NE, rfl⟩
        · have HSX : Hid (0 < 2 + 1 → s ≠ []) := hid (fun _ => HSN.out (by omega))
          have fz := HZ5.out.frozen 2
          have ck : w5.cell? ⟨M, 2, none⟩ = some (.int .i64 x2) := HZ5.out.cell 2
          have HZ6 : Hid (Blk (w5.setCell ⟨M, 2, none⟩ (.int .i64 n)) M 157 [.int .i64 x0, .int .i64 x1, .int .i64 n]) := hid (HZ5.out.set 2 _)
          have HN6 : Hid (Blk (w5.setCell ⟨M, 2, none⟩ (.int .i64 n)) N 38 (runL (0, 0, 0))) := hid (HN5.out.kept (S := Jb M) ((Kp.refl (Jb M) w5).set 2 _) (fun h => HMN.out.1 h))
          have HK6 : Hid (Kp Nb w (w5.setCell ⟨M, 2, none⟩ (.int .i64 n))) := hid (HK5.out.setCell (p := ⟨M, 2, none⟩) (fun h => by have := HMN.out; dsimp only at h; omega) _)
          have HI6 : Hid (I64 x0 ∧ I64 x1 ∧ I64 n) := hid ⟨HI.out.1, HI.out.2.1, HNN.out⟩
          go_wp2
          go_roundw
          case rel => exact ⟨2 + 1, x0, x1, n, by omega, by go_num, HI6, HSX, HZ6, HN6, HK6⟩
          case measure => simp [intOf]
        · have TH := hid (run_there (q := (0, 0, 0)) HN5.out)
          have HW := hid (row_set (vs := runL (0, 0, 0)) (cs := runL (0, 0, 0)) HN5.out rfl)
          have HKW : Hid (Kp Nb w (w5.setCells N 0 (runL (0, 0, 0)))) := hid (Kp.setCells (fun h => absurd h (by have := HMN.out; omega)) _ 0 _ HK5.out)
          obtain ⟨fs, hfs⟩ := under_run
          go_wp2_with (first
            | (refine wpList_store_mid (by rfl) 38 (.tmp 2) (.tmp 45) (by rfl) N 0 (runL (0, 0, 0)).toArray (by rfl) (by rfl) TH.out (run_infoA (0, 0, 0)) (run_one (0, 0, 0)) ?_))
          refine bodyPost_ret (results_ctD rfl _ N (by rfl) (runV (0, 0, 0)) (.bool false) (by rfl) (row_loadVar Tryz.underlying38 rfl (run_infoL (0, 0, 0)) HW.out 0 (fun j _ => by rw [Nat.zero_add]))) rfl ⟨(0, 0, 0), false, HZI.out, (fun h => by cases h), rfl, HKW.out⟩
      · have c0 : wr.cell? ⟨M, 0, none⟩ = some (.int .i64 x0) := HZ.out.cell 0
        have c1 : wr.cell? ⟨M, 1, none⟩ = some (.int .i64 x1) := HZ.out.cell 1
        have c2 : wr.cell? ⟨M, 2, none⟩ = some (.int .i64 x2) := HZ.out.cell 2
        have TH := hid (run_there (q := (x0, x1, x2)) HN.out)
        have HW := hid (row_set (vs := runL (0, 0, 0)) (cs := runL (x0, x1, x2)) HN.out rfl)
        have HKW : Hid (Kp Nb w (wr.setCells N 0 (runL (x0, x1, x2)))) := hid (Kp.setCells (fun h => absurd h (by have := HMN.out; omega)) _ 0 _ HK.out)
        obtain ⟨fs, hfs⟩ := under_run
        go_wp2_with (first
          | (refine wpList_store_mid (by rfl) 38 (.tmp 2) (.tmp 56) (by rfl) N 0 (runL (x0, x1, x2)).toArray (by rfl) (by rfl) TH.out (run_infoA (x0, x1, x2)) (run_one (x0, x1, x2)) ?_))
        refine bodyPost_ret (results_ctD rfl _ N (by rfl) (runV (x0, x1, x2)) (.bool true) (by rfl) (row_loadVar Tryz.underlying38 rfl (run_infoL (x0, x1, x2)) HW.out 0 (fun j _ => by rw [Nat.zero_add]))) rfl ⟨(x0, x1, x2), true, HI.out, (fun _ => HSN.out (by omega)), rfl, HKW.out⟩
theorem spl_no (c : UInt8) : ∀ (s : List UInt8) (p : List (List UInt8) × List UInt8), (∀ y ∈ p.1 ++ [p.2], c ∉ y) → ∀ y ∈ (s.foldl (splF c) p).1 ++ [(s.foldl (splF c) p).2], c ∉ y
  | [], p, h => h
  | b :: s, p, h => by
    rw [List.foldl_cons]
    refine spl_no c s _ ?_
    unfold splF
    split
    · intro y hy
      dsimp only at hy
      rcases List.mem_append.1 hy with hy | hy
      · exact h y hy
      · rw [List.mem_singleton.1 hy]; simp
    · rename_i hb
      intro y hy
      dsimp only at hy
      rcases List.mem_append.1 hy with hy | hy
      · exact h y (List.mem_append.2 (.inl hy))
      · rw [List.mem_singleton.1 hy]
        intro hm
        rcases List.mem_append.1 hm with hm | hm
        · exact h p.2 (by simp) hm
        · exact hb (List.mem_singleton.1 hm).symm
theorem splL_no (c : UInt8) (s : List UInt8) : ∀ y ∈ splL c s, c ∉ y := spl_no c s ([], []) (by simp)
abbrev strV (l : List UInt8) : Value := .string (bs l)
theorem dsplit_any (s : List UInt8) (w : World) (hm : Mx w) (hl : s.length ≤ 1000000) :
    Calls Tryz.prog 112 #[.string (bs s), .string ⟨#[32]⟩] w fun e w' => e = .returned (.slice (some ⟨w.heap.size, 0, none⟩) (splL 32 s).length (splL 32 s).length) ∧ w' = w.alloc (.cells ((splL 32 s).map strV).toArray 9) := by
  obtain ⟨m, hm⟩ := hm
  obtain ⟨q0, R, hq⟩ := spl_some 32 s
  have hno := splL_no 32 s
  have hj := spl_join 32 s
  rw [hq] at hno hj ⊢
  obtain ⟨s1, s2⟩ := split_join 32 q0 R hno
  rw [hj] at s1 s2
  have h := Tryz.strings_Split (bs s) (bs [32]) m w (by rw [bs_size]; omega) hm (by decide)
  rw [s1, s2, List.map_map] at h
  rw [List.length_cons]
  exact h
def PdR (w : World) (N : Nat) (ws : List (List UInt8)) (s : List UInt8) (u i : Value) (wr : World) : Prop := ∃ (k : Nat) (c : List RunQ), k ≤ ws.length ∧ i = .int .i64 k ∧ Hid (c.length = k) ∧ Hid (0 < k → s ≠ []) ∧ Hid (wr.ownsRow (N + 1) 38 3 u c.length (flatR runL c)) ∧ Hid (∀ q ∈ c, RunOk q) ∧ Hid (Blk wr N 9 (ws.map strV)) ∧ Hid (Kp Nb w wr)
set_option maxRecDepth 100000 in
set_option maxHeartbeats 4000000 in
theorem dparse_none (s : List UInt8) (w : World) (hl : s.length ≤ 1000) (hno : parT s = none) (hm : Mx w) (hv : Ev w) (ht : Tab w) :
    Calls Tryz.prog 99 #[.string (bs s)] w fun e w' => e = .returned (.tuple #[.slice none 0 0, .bool false]) ∧ Kp Nb w w' := by
  have h0 : s ≠ [45] := fun e => by rw [e] at hno; cases hno
  have HNC : Hid (∀ c, s ≠ [] → textC c ≠ s) := hid (fun c hs e => by
    cases hr : rightC c with
    | true => have := (parT_iff s c).2 ⟨hr, e⟩; rw [hno] at this; cases this
    | false => unfold textC at e; rw [hr] at e; exact hs e.symm)
  obtain ⟨ws, hws⟩ : ∃ ws, splL 32 s = ws := ⟨_, rfl⟩
  have HMEM : Hid (∀ x ∈ ws, x.length ≤ 1000 ∧ (x ≠ [] → s ≠ [])) := hid (fun x hx => by
    have h := spl_mem (c := 32) (s := s) (x := x) (by rw [hws]; exact hx)
    refine ⟨by omega, fun hx0 e => hx0 (List.length_eq_zero_iff.1 ?_)⟩
    rw [e, List.length_nil] at h
    omega)
  have hwl : ws.length ≤ 1001 := by rw [← hws]; unfold splL; rw [List.length_append, List.length_singleton]; have := (splS_len 32 s).1; omega
  have hw0 : 0 < ws.length := by rw [← hws]; unfold splL; simp
  obtain ⟨L, hL⟩ : ∃ L, ws.length = L := ⟨_, rfl⟩
  have HLE := hid hL
  have HBG : Hid (0 < L ∧ L ≤ 1001) := hid (by omega)
  have HMX := hid hm
  have HEV := hid hv
  have HTB := hid ht
  obtain ⟨N, hN⟩ : ∃ N, w.heap.size = N := ⟨_, rfl⟩
  obtain ⟨W, hW⟩ : ∃ W, W = w.alloc (.cells (ws.map strV).toArray 9) := ⟨_, rfl⟩
  have HB0 : Hid (Blk W N 9 (ws.map strV)) := hid (by rw [hW, ← hN]; exact Blk.new w _ _)
  have K0 : Hid (Kp Nb w W) := hid (by rw [hW]; exact (Kp.refl Nb w).alloc _)
  have HNW : Hid (w.heap.size = N) := hid hN
  have CS : Hid (Calls Tryz.prog 112 #[.string (bs s), .string ⟨#[32]⟩] w fun e w' => e = .returned (.slice (some ⟨N, 0, none⟩) L L) ∧ w' = W) := hid (by
    have h := dsplit_any s w hm (by omega)
    rw [hws, hN, hL, ← hW] at h
    exact h)
  have hne : bs s ≠ ⟨#[45]⟩ := fun e => h0 (by have := congrArg (fun x : ByteArray => x.data.toList) e; exact this)
  have hq : ((bs s).toList == [45]) = false := by
    rw [bs_toList, beq_eq_false_iff_ne]
    exact h0
  obtain ⟨S, hS⟩ : ∃ S, bs s = S := ⟨_, rfl⟩
  have HTN : Hid (∀ c, s ≠ [] → bs (textC c) ≠ S ∧ ((bs (textC c)).toList == S.toList) = false) := hid (fun c hs => by
    have h := HNC.out c hs
    rw [← hS]
    refine ⟨fun e => h (by have := congrArg (fun x : ByteArray => x.data.toList) e; exact this), ?_⟩
    rw [bs_toList, bs_toList, beq_eq_false_iff_ne]
    exact h)
  rw [hS] at CS hne hq ⊢
  clear hm hv ht hno h0 hws hwl hw0 hL hN hW hS HNC hl
  go_enter Tryz.func99, Tryz.ntmps99
  go_wp2_with fail
  refine CS.out.mono ?_
  rintro r w1 ⟨rfl, rfl⟩
  clear hne hq
  go_wp2_with fail
  go_loopw [4, 14] (PdR w N ws s) (fun _ i _ => L - (intOf i).toNat)
  case atStart => exact ⟨0, [], Nat.zero_le _, rfl, hid rfl, hid (fun h => absurd h (by omega)), hid (World.ownsRow_nil _ _ _ _), hid (by simp), HB0, K0⟩
  case round =>
    obtain ⟨k, c, hk, rfl, HCL, HSN, HO, HOKS, HB, HK⟩ := hrel
    rw [HLE.out] at hk
    rw [HCL.out] at HO
    obtain ⟨a4, c4, rfl⟩ := own_shape HO.out
    by_cases hlt : k < L
    · have HLT := hid hlt
      have hkc : k < ws.length := by rw [HLE.out]; exact hlt
      obtain ⟨wk, hwk⟩ : ∃ x, ws[k]? = some x := ⟨_, List.getElem?_eq_getElem hkc⟩
      have hmk := HMEM.out wk (List.mem_of_getElem? hwk)
      have HWE := hid hmk.2
      have ck : wr.cell? ⟨N, k, none⟩ = some (.string (bs wk)) := by
        rw [HB.out.cell k, List.getElem?_map, hwk]
        rfl
      have CP := hid (prun_weak wk wr (by omega) (HMX.out.kept HK.out) (HEV.out.kept HK.out))
      obtain ⟨tv, htv⟩ : ∃ s, bs wk = s := ⟨_, rfl⟩
      rw [htv] at CP ck
      clear htv hwk hkc hmk
      go_wp2_with fail
      refine CP.out.mono ?_
      rintro r w6 ⟨⟨qn, qf, qt⟩, b, hqo, hqb, rfl, k6⟩
      have HQO := hid hqo
      have HQB := hid hqb
      have HO6 := hid (ownsRow_kpD HO.out k6)
      have HB6 := hid (HB.out.kept k6 (fun h => h))
      have HK6 := hid (HK.out.trans k6 (fun _ _ h => h))
      clear k6 ck hqo hqb CP
      obtain ⟨M, hM⟩ : ∃ M, w6.heap.size = M := ⟨_, rfl⟩
      obtain ⟨W8, hW8⟩ : ∃ W, W = (w6.alloc (.cells (runL (0, 0, 0)).toArray 38)).setCells M 0 (runL (qn, qf, qt)) := ⟨_, rfl⟩
      have hz := Blk.new w6 38 (runL (0, 0, 0))
      rw [hM] at hz
      have KW8 : Hid (Kp Nb w6 W8) := hid (by rw [hW8]; exact Kp.setCells (fun h => absurd h (by omega)) _ 0 _ ((Kp.refl Nb w6).alloc _))
      have TH := hid (run_there (q := (qn, qf, qt)) hz)
      have HZ8 : Hid (Blk W8 M 38 (runL (qn, qf, qt))) := hid (by rw [hW8]; exact row_set hz rfl)
      have RZ := hid (range_ofR HZ8.out)
      have HO8 := hid (ownsRow_kpD HO6.out KW8.out)
      have HB8 := hid (HB6.out.kept KW8.out (fun h => h))
      have HK8 := hid (HK6.out.trans KW8.out (fun _ _ h => h))
      have MK := hid (make_run1 W8 qn qf qt)
      obtain ⟨fs, hfs⟩ := under_run
      clear hz
      go_upto_region 8 with (first
        | (refine wpList_store_mid (by rfl) 38 (.tmp 7) (.tmp 21) (by rfl) M 0 (runL (qn, qf, qt)).toArray (by rfl) (by rfl) TH.out (run_infoA (qn, qf, qt)) (run_one (qn, qf, qt)) ?_))
      rw [show (w6.alloc (.cells #[.int .i64 0, .int .i64 0, .int .i64 0] 38)).setCells M 0 (runL (qn, qf, qt)) = W8 from hW8.symm]
      clear hW8 hM TH
      cases b with
      | false =>
        go_wp2
        go_ret2
        exact ⟨rfl, HK8.out⟩
      | true =>
        obtain ⟨i0, zz, hi, hz0, hz1, hz2, hz3⟩ := run_info3
        have B2 : Hid (k + [(qn, qf, qt)].length ≤ maxLen ∧ (k + [(qn, qf, qt)].length) * 24 ≤ 140737488355328 ∧ N + 1 ≤ (W8.alloc (.cells #[.int .i64 qn, .int .i64 qf, .int .i64 qt] 38 (0, 0))).heap.size) := hid (by
          have h1 := HB8.out.lt
          have h2 := ((Kp.refl Nb W8).alloc (.cells #[.int .i64 qn, .int .i64 qf, .int .i64 qt] 38 (0, 0))).size
          refine ⟨?_, ?_, by omega⟩ <;> rw [List.length_singleton]
          · unfold maxLen; have := HBG.out; omega
          · have := HBG.out; omega)
        go_wp2_with (first
          | (refine wpList_load_mid (by rfl) 38 (.tmp 7) (by rfl) M 0 (by rfl) (runL (qn, qf, qt)) _ RZ.out hfs rfl (run_infoL (qn, qf, qt)) ?_)
          | (refine wpList_val (by rfl) _ _ (exec_buildSliceD rfl (qs := #[(0, .agg #[.int .i64 qn, .int .i64 qf, .int .i64 qt])]) (by simp [Act.eval, Act.put]) MK.out) ?_)
          | (at_builtin; refine wpList_append_rows (f := runL) (z := (0, 0, 0)) (c := 3) rfl _ _ 25 rfl (N + 1) 38 i0 zz 24 under_clock hi hz0 hz1 hz2 hz3 (by decide) _ _ _ rfl (ownsRow_kpD HO8.out ((Kp.refl Nb _).alloc _)) _ [(qn, qf, qt)] rfl (rows_oneR (Blk.new _ _ _)) (fun x hx => rfl) (fun x _ => run_one' x) B2.out.1 B2.out.2.1 B2.out.2.2 ?_))
        intro v10 w10 hown hgrow
        have HK10 : Hid (Kp Nb w w10) := hid ((HK8.out.trans ((Kp.refl Nb W8).alloc (.cells #[.int .i64 qn, .int .i64 qf, .int .i64 qt] 38 (0, 0))) (fun _ _ h => h)).grown hgrow (fun g hg h => by have := (row_cells HO8.out hg).1; have := HNW.out; omega))
        have HB10 : Hid (Blk w10 N 9 (ws.map strV)) := hid ((hgrow.block N (HB8.out.alloc _).lt (fun h => by have := (row_cells HO8.out h.symm).1; omega)).trans (HB8.out.alloc _))
        have HO10 : Hid (w10.ownsRow (N + 1) 38 3 v10 (c ++ [(qn, qf, qt)]).length (flatR runL (c ++ [(qn, qf, qt)]))) := hid (by rw [List.length_append, HCL.out, flatR_append]; exact hown)
        have HOK10 : Hid (∀ q ∈ c ++ [(qn, qf, qt)], RunOk q) := hid (fun q hq => by
          rcases List.mem_append.1 hq with hq | hq
          · exact HOKS.out q hq
          · rw [List.mem_singleton.1 hq]; exact HQO.out)
        have HCL10 : Hid ((c ++ [(qn, qf, qt)]).length = k + 1) := hid (by rw [List.length_append, HCL.out]; rfl)
        have HSN10 : Hid (0 < k + 1 → s ≠ []) := hid (fun _ => HWE.out (HQB.out (by trivial)))
        obtain ⟨a10, c10, rfl⟩ := own_shape hown
        clear hown hgrow
        have hb9 := HBG.out
        go_wp2
        go_roundw
        case rel => exact ⟨k + 1, c ++ [(qn, qf, qt)], by rw [HLE.out]; exact HLT.out, by go_num, HCL10, HSN10, HO10, HOK10, HB10, HK10⟩
        case measure => have := HLT.out; simp [intOf]; omega
    · obtain rfl : k = L := by omega
      have HM : Hid (ClSl wr (.slice a4 k c4) c) := hid (by
        have h := HO.out
        rw [← HCL.out] at h ⊢
        exact cl_owned h HOKS.out)
      have C9 := hid (dtext_any (.slice a4 k c4) c wr HM.out (by have := HCL.out; have := HBG.out; omega) (HTB.out.kept HK.out))
      obtain ⟨tn1, tn2⟩ := HTN.out c (HSN.out HBG.out.1)
      obtain ⟨T, hT⟩ : ∃ T, bs (textC c) = T := ⟨_, rfl⟩
      rw [hT] at C9 tn1 tn2
      clear hT
      go_wp2_with fail
      refine C9.out.mono ?_
      rintro r w9 ⟨rfl, k9⟩
      have HK9 := hid (HK.out.trans k9 (fun _ _ h => h))
      clear k9
      go_wp2
      go_ret2
      exact ⟨rfl, HK9.out⟩
theorem dparse_any (s : List UInt8) (w : World) (hl : s.length ≤ 1000) (hm : Mx w) (hv : Ev w) (ht : Tab w) : Calls Tryz.prog 99 #[.string (bs s)] w (ParOut w (parT s)) := by
  cases hp : parT s with
  | none =>
    refine (dparse_none s w hl hp hm hv ht).mono ?_
    rintro e w' ⟨rfl, k⟩
    exact ⟨_, rfl, cl_nil _, k⟩
  | some c =>
    obtain ⟨hr, hs⟩ := (parT_iff s c).1 hp
    have h := parse_any c w hr (by have := parT_len hp; omega) hm ht
    rw [hs] at h
    refine h.mono ?_
    rintro e w' ⟨v', rfl, h1, -, h3⟩
    exact ⟨v', rfl, h1, h3⟩
end
section
open Go.ChangeShapes Go.WideShapes Go.ChangeAt Go.RowKit
theorem cells_byte : Tryz.prog.cellsOf 5 = 1 := by kernel_rfl
/-- A slice's cell, whatever its type: its block is there. -/
theorem cell_in {P : Program} {W : World} {base : Nat} {u : TypeId} {a : Addr} {n c : Nat} (h : Cell.okWide P W .any base u (.slice (some a) n c)) : a.block < W.heap.size := by
  have hs : ∃ row cells, W.shape? a.block = some (row, cells) := by
    cases hu : P.underlying u with
    | none => simp [Cell.okWide, Cell.ok, hu] at h
    | some td =>
      cases td <;> simp only [Cell.okWide, Cell.ok, hu] at h
      obtain ⟨_, _, row, cells, hs, _⟩ := h.2.2
      exact ⟨row, cells, hs⟩
  obtain ⟨row, cells, hs⟩ := hs
  rcases Nat.lt_or_ge a.block W.heap.size with h | h
  · exact h
  · exfalso
    have : W.heap[a.block]? = none := Array.getElem?_eq_none h
    simp [World.shape?, this] at hs
theorem agg_in {P : Program} {W : World} {base : Nat} {t : TypeId} {fs : Array Field} {cs : Array Value} (hu : P.underlying t = some (.struct fs)) (hv : Value.okWide P W .any base t (.agg cs)) {i : Nat} {y : Option Addr} {n c : Nat} (hi : cs[i]? = some (.slice y n c)) :
    ∀ g, (Value.slice y n c).ownBlock = some g → g < W.heap.size := by
  unfold Value.okWide at hv
  rw [hu] at hv
  obtain ⟨cs', e, _, ts, _, _, hall⟩ := hv
  injection e with e
  subst e
  obtain ⟨u, _, hok⟩ := hall i _ hi
  intro g hg
  cases y with
  | none => simp [Value.ownBlock] at hg
  | some a =>
    have e : a.block = g := by simpa [Value.ownBlock] using hg
    subst e
    exact cell_in hok
theorem iface_of_trod {H : Type} {enc : TypeId × Value → H} {P : Program} {w : World} {base : Nat} {sp : Nat → Bool} {held : Bool} {fuel : Nat} {t : TypeId} {cs : List Value} {ms : Array (String × TypeId)} {nm : String} {d : DataW H} {p : List MemPlace}
    (hu : P.underlying t = some (.interface ms)) (h : DataW.trod enc P w base sp held fuel t cs = some (.iface nm d, p)) : ∃ u v, cs = [.iface u v] := by
  cases fuel with
  | zero => simp [DataW.trod] at h
  | succ fuel =>
    unfold DataW.trod at h
    rw [hu] at h
    rcases cs with _ | ⟨c, _ | ⟨c2, r⟩⟩
    · simp at h
    · cases c <;> first | exact ⟨_, _, rfl⟩ | (simp at h)
    · cases c <;> simp at h
theorem gSyn : Tryz.prog.globalNamed "strconv.ErrSyntax" = some 1 ∧ (Tryz.prog.globals[1]?).map (·.type) = some 145 := ⟨by kernel_rfl, by kernel_rfl⟩
theorem gRan : Tryz.prog.globalNamed "strconv.ErrRange" = some 2 ∧ (Tryz.prog.globals[2]?).map (·.type) = some 145 := ⟨by kernel_rfl, by kernel_rfl⟩
set_option maxRecDepth 100000 in
theorem ev_of_laid {W : World} (h : laidMetH Tryz.prog dtLaid W) : Ev W := by
  rw [MakeChecks.laidMetH_plain _ _ _ (by kernel_rfl)] at h
  obtain ⟨ps, ⟨g0, t0, cs0, f0, p0, q0, hg0, ht0, hv0, hd0, ⟨g1, t1, cs1, f1, p1, q1, hg1, ht1, hv1, hd1, ⟨g2, t2, cs2, f2, p2, q2, hg2, ht2, hv2, hd2, ⟨g3, t3, cs3, f3, p3, q3, hg3, ht3, hv3, hd3, ⟨g4, t4, cs4, f4, p4, q4, hg4, ht4, hv4, hd4, ⟨g5, t5, cs5, f5, p5, q5, hg5, ht5, hv5, hd5, _, _⟩, _⟩, _⟩, _⟩, _⟩, _⟩, _, _⟩ := h
  obtain rfl := Option.some.inj (gRan.1.symm.trans hg4)
  obtain rfl := Option.some.inj (gRan.2.symm.trans ht4)
  obtain rfl := Option.some.inj (gSyn.1.symm.trans hg5)
  obtain rfl := Option.some.inj (gSyn.2.symm.trans ht5)
  obtain ⟨u, x, e4⟩ := iface_of_trod Tryz.underlying145 hd4
  obtain ⟨u', x', e5⟩ := iface_of_trod Tryz.underlying145 hd5
  have k4 := World.var?_cell gRan.1 hv4 0
  have k5 := World.var?_cell gSyn.1 hv5 0
  rw [show cs4 = #[.iface u x] from Array.toList_inj.1 e4] at k4
  rw [show cs5 = #[.iface u' x'] from Array.toList_inj.1 e5] at k5
  exact ⟨⟨u', x', by simpa using k5⟩, ⟨u, x, by simpa using k4⟩⟩
end

end Go.Proofs.YtogoophofgkboaaGreatDoor
