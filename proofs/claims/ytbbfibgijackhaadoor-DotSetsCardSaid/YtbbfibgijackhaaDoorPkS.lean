/-
  Layer 3: DotSets' law. Conditions: a case and a list of dots in memory; the library's tables stand in memory.
  Layer 3's arguments opened: clocks, lists of dots, a case; what the listed tables and the world's shape give; the start's own heap; the wrap that hands both on. No condition.
  Layer 3's arguments opened: lists of dots, a case. No condition.
  PROVED: 'DotSetsCardSaid': whatever was sent, DotSets returns true and the input reads as it did. Conditions: the listed package-level variables start as the program's text lays them (the card ties them).
-/
import Derived.Test.YtbbfibgijackhaaDoorPkY
import Derived.Test.YtbbfibgijackhaaDoorPkO
import Derived.Test.YtbbfibgijackhaaDoorPkM
import Derived.Test.YtbbfibgijackhaaDoorRows
import Derived.Handed
import Derived.LaidMore
import Derived.Lay
import Derived.Stop.Joined
import Derived.Lib.LaidTab
import Derived.Test.YtbbfibgijackhaaDoorCards
import Derived.Test.YtbbfibgijackhaaDoorTie
import Derived.ChangeSame
import Derived.ChangeVars
import Derived.SevenTiedAt
namespace Go.Proofs.YtbbfibgijackhaaDoor
open Go.RowKit
attribute [-go_sem] run_max_int2
attribute [local go_sem] run_max2M

structure Dss (w : World) (va vb vl : Value) (a b : List RunQ) (l : List DotQ) (D : Nat) (dn dd nd : Int) (W : World) : Prop where
  ha : ClSl W va a
  hb : ClSl W vb b
  hl : RowsSl dotL (0, 0) 2 W vl l
  box : Blk W D 27 (caseL va vb dn dd nd)
  k : Kp Nb w W
theorem RowsSl.keptN {α : Type} {f : α → List Value} {z : α} {c : Nat} {w w' : World} {v : Value} {qs : List α} (h : RowsSl f z c w v qs) (k : Kp Nb w w') : RowsSl f z c w' v qs := h.kept k
theorem Dss.step {w W W' : World} {va vb vl : Value} {a b : List RunQ} {l : List DotQ} {D : Nat} {dn dd nd : Int} (h : Dss w va vb vl a b l D dn dd nd W) (k : Kp Nb W W') : Dss w va vb vl a b l D dn dd nd W' :=
  ⟨h.ha.kept k, h.hb.kept k, h.hl.keptN k, h.box.kept k (fun h => h), h.k.trans k (fun _ _ h => h)⟩
theorem with_len (a : List RunQ) (n d : Int) : (withC a n d).length ≤ a.length + 1 := by
  unfold withC
  split
  · have := joinC_len a [(n, d, d)]
    rwa [List.length_singleton] at this
  · exact Nat.zero_le _
theorem of_len (a : List RunQ) (n : Int) : (ofC a n).length ≤ a.length := by
  unfold ofC ofF
  split
  · exact List.length_filter_le _ _
  · exact Nat.zero_le _
/-- The three clocks that the law makes. -/
structure Trs (vj vv vo : Value) (J Wt O : List RunQ) (W : World) : Prop where
  hj : ClSl W vj J
  hw : ClSl W vv Wt
  ho : ClSl W vo O
theorem Trs.kept {W W' : World} {vj vv vo : Value} {J Wt O : List RunQ} (h : Trs vj vv vo J Wt O W) (k : Kp Nb W W') : Trs vj vv vo J Wt O W' := ⟨h.hj.kept k, h.hw.kept k, h.ho.kept k⟩
def SeR (w : World) (n : Nat) (i : Value) (wr : World) : Prop := ∃ k : Nat, k ≤ n ∧ i = .int .i64 k ∧ Hid (Kp Nb w wr)
set_option maxRecDepth 100000 in
set_option maxHeartbeats 100000000 in
theorem dsets_any (va vb vl : Value) (a b : List RunQ) (l : List DotQ) (dn dd nd : Int) (w : World) (ha : ClSl w va a) (hb : ClSl w vb b) (hl : RowsSl dotL (0, 0) 2 w vl l) (hn : I64 dn) (hd : I64 dd) (ht : Tab w) (hm : Mx w) :
    Calls Tryd.prog 5 #[caseV va vb dn dd nd, vl] w fun e w' => e = .returned (.bool true) ∧ Kp Nb w w' := by
  have HT := hid ht
  have HM := hid hm
  have HID := hid (show I64 dn ∧ I64 dd from ⟨hn, hd⟩)
  obtain ⟨pa, da, rfl⟩ := ha.shape
  obtain ⟨pb, db, rfl⟩ := hb.shape
  obtain ⟨pl, dl, rfl⟩ := hl.shape
  obtain ⟨nA, hnA⟩ : ∃ n, a.length = n := ⟨_, rfl⟩
  obtain ⟨nB, hnB⟩ : ∃ n, b.length = n := ⟨_, rfl⟩
  obtain ⟨nL, hnL⟩ : ∃ n, l.length = n := ⟨_, rfl⟩
  have HL := hid (show a.length = nA ∧ b.length = nB ∧ l.length = nL from ⟨hnA, hnB, hnL⟩)
  obtain ⟨D, hD⟩ : ∃ D, w.heap.size = D := ⟨_, rfl⟩
  obtain ⟨W0, hW0⟩ : ∃ W, W = w.alloc (.cells #[.slice pa a.length da, .slice pb b.length db, .int .i64 dn, .int .i64 dd, .int .i64 nd] 27) := ⟨_, rfl⟩
  have HF : Hid (Dss w (.slice pa a.length da) (.slice pb b.length db) (.slice pl l.length dl) a b l D dn dd nd W0) := hid (by
    have k0 : Kp Nb w W0 := by rw [hW0]; exact (Kp.refl Nb w).alloc _
    exact ⟨ha.kept k0, hb.kept k0, hl.keptN k0, by rw [hW0, ← hD]; exact Blk.new w _ (caseL (.slice pa a.length da) (.slice pb b.length db) dn dd nd), k0⟩)
  rw [hnA, hnB, hnL] at HF
  rw [hnA, hnB] at hW0
  rw [hnA, hnB, hnL]
  clear ha hb hl hnA hnB hnL ht hm hn hd
  unfold caseV
  go_enter Tryd.func5, Tryd.ntmps5
  go_upto_region 1 with fail
  rw [← hW0]
  clear hW0 hD
  go_wp2_with fail
  refine (dfirst_any W0 (HT.out.kept HF.out.k) (HM.out.kept HF.out.k)).mono ?_
  rintro r w1 ⟨rfl, k⟩
  have HF := hid (HF.out.step k)
  clear k
  have c0 : World.cell? w1 ⟨D, 0, none⟩ = some (.slice pa nA da) := HF.out.box.cell 0
  have c1 : World.cell? w1 ⟨D, 1, none⟩ = some (.slice pb nB db) := HF.out.box.cell 1
  have c2 : World.cell? w1 ⟨D, 2, none⟩ = some (.int .i64 dn) := HF.out.box.cell 2
  have c3 : World.cell? w1 ⟨D, 3, none⟩ = some (.int .i64 dd) := HF.out.box.cell 3
  have c4 : World.cell? w1 ⟨D, 4, none⟩ = some (.int .i64 nd) := HF.out.box.cell 4
  obtain ⟨G, hG⟩ : ∃ x, decide (40 < nA ∨ 40 < nB) = x := ⟨_, rfl⟩
  have HG := hid hG
  go_wp2_with fail
  have C := great_any pa pb nA nB da db dn dd nd w1
  rw [hG] at C
  clear hG
  unfold caseV at C
  refine C.mono ?_
  rintro r w2 ⟨rfl, k⟩
  have HF := hid (HF.out.step k)
  clear C k
  clear c0 c1 c2 c3 c4
  cases G with
  | true =>
    go_wp2
    go_ret
    exact ⟨rfl, HF.out.k⟩
  | false =>
    have HLE : Hid (a.length ≤ 40 ∧ b.length ≤ 40) := hid (by have h1 := of_decide_eq_false HG.out; have := HL.out; omega)
    by_cases hl60 : 60 < nL
    · have d1 : (60 : Int) < (nL : Int) := by omega
      go_wp2
      go_ret
      exact ⟨rfl, HF.out.k⟩
    have d1 : ¬ (60 : Int) < (nL : Int) := by omega
    have HLL : Hid (l.length ≤ 60) := hid (by have := HL.out; omega)
    clear hl60
    obtain ⟨ra, hra⟩ : ∃ x, rightC a = x := ⟨_, rfl⟩
    obtain ⟨rb, hrb⟩ : ∃ x, rightC b = x := ⟨_, rfl⟩
    have HRA := hid hra
    have HRB := hid hrb
    clear hra hrb
    have c0 : World.cell? w2 ⟨D, 0, none⟩ = some (.slice pa nA da) := HF.out.box.cell 0
    have c1 : World.cell? w2 ⟨D, 1, none⟩ = some (.slice pb nB db) := HF.out.box.cell 1
    have c2 : World.cell? w2 ⟨D, 2, none⟩ = some (.int .i64 dn) := HF.out.box.cell 2
    have c3 : World.cell? w2 ⟨D, 3, none⟩ = some (.int .i64 dd) := HF.out.box.cell 3
    have c4 : World.cell? w2 ⟨D, 4, none⟩ = some (.int .i64 nd) := HF.out.box.cell 4
    go_wp2_with fail
    have C := dright_any _ a w2 HF.out.ha (by have := HLE.out; omega)
    rw [HRA.out] at C
    refine C.mono ?_
    rintro r w3 ⟨rfl, k⟩
    have HF := hid (HF.out.step k)
    clear C k
    clear c0 c1 c2 c3 c4
    cases ra with
    | false =>
      go_wp2
      go_ret
      exact ⟨rfl, HF.out.k⟩
    | true =>
      have c0 : World.cell? w3 ⟨D, 0, none⟩ = some (.slice pa nA da) := HF.out.box.cell 0
      have c1 : World.cell? w3 ⟨D, 1, none⟩ = some (.slice pb nB db) := HF.out.box.cell 1
      have c2 : World.cell? w3 ⟨D, 2, none⟩ = some (.int .i64 dn) := HF.out.box.cell 2
      have c3 : World.cell? w3 ⟨D, 3, none⟩ = some (.int .i64 dd) := HF.out.box.cell 3
      have c4 : World.cell? w3 ⟨D, 4, none⟩ = some (.int .i64 nd) := HF.out.box.cell 4
      go_wp2_with fail
      have C := dright_any _ b w3 HF.out.hb (by have := HLE.out; omega)
      rw [HRB.out] at C
      refine C.mono ?_
      rintro r w4 ⟨rfl, k⟩
      have HF := hid (HF.out.step k)
      clear C k
      clear c0 c1 c2 c3 c4
      cases rb with
      | false =>
        go_wp2
        go_ret
        exact ⟨rfl, HF.out.k⟩
      | true =>
        have HTA : Hid (Rt a) := hid (rightC_rt.1 HRA.out)
        have HTB : Hid (Rt b) := hid (rightC_rt.1 HRB.out)
        obtain ⟨J, hJ⟩ : ∃ c, joinC a b = c := ⟨_, rfl⟩
        obtain ⟨Wt, hWt⟩ : ∃ c, withC a dn dd = c := ⟨_, rfl⟩
        obtain ⟨O, hO⟩ : ∃ c, ofC a nd = c := ⟨_, rfl⟩
        have HJE := hid hJ
        have HWE := hid hWt
        have HOE := hid hO
        have HJL : Hid (J.length ≤ 80) := hid (by rw [← hJ]; have := joinC_len a b; have := HLE.out; omega)
        have HWL : Hid (Wt.length ≤ 80) := hid (by rw [← hWt]; exact Nat.le_trans (with_len a dn dd) (by have := HLE.out; omega))
        have HOL : Hid (O.length ≤ 80) := hid (by rw [← hO]; exact Nat.le_trans (of_len a nd) (by have := HLE.out; omega))
        clear hJ hWt hO
        have CJ : Hid (∀ wq, Kp Nb w4 wq → Calls Tryd.prog 12 #[.slice pa nA da, .slice pb nB db] wq fun e w' => ∃ y d, e = .returned (.slice y J.length d) ∧ ClSl w' (.slice y J.length d) J ∧ Kp Nb wq w') := hid (fun wq k =>
          (join_any _ _ a b wq (HF.out.ha.kept k) (HF.out.hb.kept k) (by have := HLE.out; omega) (by have := HLE.out; omega)).mono fun e w' ⟨v, h1, h2, _, h4⟩ => by
            rw [HJE.out] at h2
            obtain ⟨y, d, rfl⟩ := h2.shape
            exact ⟨y, d, h1, h2, h4⟩)
        have CW : Hid (∀ wq, Kp Nb w4 wq → Calls Tryd.prog 22 #[.slice pa nA da, .agg #[.int .i64 dn, .int .i64 dd]] wq fun e w' => ∃ y d, e = .returned (.slice y Wt.length d) ∧ ClSl w' (.slice y Wt.length d) Wt ∧ Kp Nb wq w') := hid (fun wq k =>
          (with_any _ a dn dd wq (HF.out.ha.kept k) (by have := HLE.out; omega) HID.out.1 HID.out.2).mono fun e w' ⟨v, h1, h2, _, h4⟩ => by
            rw [HWE.out] at h2
            obtain ⟨y, d, rfl⟩ := h2.shape
            exact ⟨y, d, h1, h2, h4⟩)
        have CO : Hid (∀ wq, Kp Nb w4 wq → Calls Tryd.prog 23 #[.slice pa nA da, .int .i64 nd] wq fun e w' => ∃ y d, e = .returned (.slice y O.length d) ∧ ClSl w' (.slice y O.length d) O ∧ Kp Nb wq w') := hid (fun wq k =>
          (of_any _ a nd wq (HF.out.ha.kept k) (by have := HLE.out; omega)).mono fun e w' ⟨v, h1, h2, _, h4⟩ => by
            rw [HOE.out] at h2
            obtain ⟨y, d, rfl⟩ := h2.shape
            exact ⟨y, d, h1, h2, h4⟩)
        obtain ⟨nJ, hnJ⟩ : ∃ n, J.length = n := ⟨_, rfl⟩
        obtain ⟨nW, hnW⟩ : ∃ n, Wt.length = n := ⟨_, rfl⟩
        obtain ⟨nO, hnO⟩ : ∃ n, O.length = n := ⟨_, rfl⟩
        rw [hnJ] at CJ
        rw [hnW] at CW
        rw [hnO] at CO
        clear hnJ hnW hnO
        have HB0 := hid HF.out.box
        have kh := hid (Kp.refl Nb w4)
        obtain ⟨nQ, hnQ⟩ : ∃ n, nL + 1 = n := ⟨_, rfl⟩
        have HNQ := hid hnQ
        clear hnQ
        go_wp2_with fail
        go_region_held3 (fun w' => Hid (Kp Nb w4 w') ∧ w'.cell? ⟨D, 0, none⟩ = some (.slice pa nA da) ∧ w'.cell? ⟨D, 1, none⟩ = some (.slice pb nB db) ∧ w'.cell? ⟨D, 2, none⟩ = some (.int .i64 dn) ∧ w'.cell? ⟨D, 3, none⟩ = some (.int .i64 dd) ∧ w'.cell? ⟨D, 4, none⟩ = some (.int .i64 nd))
          (first | exact ⟨hid (kh.out.drew), (HB0.out.kept (kh.out.drew) (fun h => h)).cell 0, (HB0.out.kept (kh.out.drew) (fun h => h)).cell 1, (HB0.out.kept (kh.out.drew) (fun h => h)).cell 2, (HB0.out.kept (kh.out.drew) (fun h => h)).cell 3, (HB0.out.kept (kh.out.drew) (fun h => h)).cell 4⟩ | exact ⟨hid (kh.out), (HB0.out.kept (kh.out) (fun h => h)).cell 0, (HB0.out.kept (kh.out) (fun h => h)).cell 1, (HB0.out.kept (kh.out) (fun h => h)).cell 2, (HB0.out.kept (kh.out) (fun h => h)).cell 3, (HB0.out.kept (kh.out) (fun h => h)).cell 4⟩)
          (first
            | (go_at_call 12; refine (CJ.out _ (by first | exact Kp.drew kh.out | exact kh.out)).mono ?_; rintro e wy ⟨yJ, dJ, rfl, hx, kk⟩; have kh := hid (Kp.trans (by first | exact Kp.drew kh.out | exact kh.out) kk (fun _ _ h => h)); have HJ := hid hx; clear hx kk)
            | (go_at_call 22; refine (CW.out _ (by first | exact Kp.drew kh.out | exact kh.out)).mono ?_; rintro e wy ⟨yW, dW, rfl, hx, kk⟩; have kh := hid (Kp.trans (by first | exact Kp.drew kh.out | exact kh.out) kk (fun _ _ h => h)); have HJ := hid (HJ.out.kept (Kp.trans (by first | exact (Kp.refl Nb _).drew | exact Kp.refl Nb _) kk (fun _ _ h => h))); have HW := hid hx; clear hx kk)
            | (go_at_call 23; refine (CO.out _ (by first | exact Kp.drew kh.out | exact kh.out)).mono ?_; rintro e wy ⟨yO, dO, rfl, hx, kk⟩; have kh := hid (Kp.trans (by first | exact Kp.drew kh.out | exact kh.out) kk (fun _ _ h => h)); have HJ := hid (HJ.out.kept (Kp.trans (by first | exact (Kp.refl Nb _).drew | exact Kp.refl Nb _) kk (fun _ _ h => h))); have HW := hid (HW.out.kept (Kp.trans (by first | exact (Kp.refl Nb _).drew | exact Kp.refl Nb _) kk (fun _ _ h => h))); have HO := hid hx; clear hx kk))
        have K5 := hid kh.out
        have HF := hid (HF.out.step K5.out)
        have HR : Hid (Trs (.slice yJ nJ dJ) (.slice yW nW dW) (.slice yO nO dO) J Wt O wy) := hid ⟨HJ.out, HW.out, HO.out⟩
        clear HJ HW HO kh HB0 CJ CW CO K5
        have HB6 := hid HF.out.box
        go_wp2_with fail
        refine region_ghost (g0 := ((undef, undef, undef, none, 0) : Value × Value × Value × Option Addr × Nat)) [none, none, none, none, none, none, none, none, none, none, none, none, none, none, none, none, none, none, none, none, none, none, none, none, none, none, none, none, none, none, none, none, none, none, none, none, none, none, none, none, none, none, none, none, none, none, none, none, none, some 0, some 1, some 2, some 3, some 4, some 5, some 6, some 7, some 8, none, none, none, none, none, none, none, none, none, none, none, none, none, none, none, none, none, none, none, none, none, none, none, none, none, none, none, none, none, none, none, none, none, none, none, none, none, none, none, none, none, none, none, none, none, none, none, none, none, none, none, none, none, none, none, none, none, none, none, none, none, none, none, none, none, none, none, none, none, none, none, none, none, none, none, none, none, none, none, none, none, none, none, none, none, none, none, none, none, none, none, none, none, none, none, none, none, none, none, none] [[], [(1, none)], [(49, some 0), (50, some 1)], [(2, none)], [(52, some 3)], [(53, some 4)], [(51, some 2), (54, some 5)], [(55, some 6)], []] [some 49, some 50, some 51, some 52, some 53, some 54, some 55, some 56, some 57] (fun g => [g.1, .slice pl nL dl, g.2.1, .pointer (some ⟨D, 2, none⟩), .agg #[.int .i64 dn, .int .i64 dd], g.2.2.1, .slice g.2.2.2.1 nQ g.2.2.2.2, .int .i64 (nQ : Int), .int .i64 0]) [0, 2, 5, 6] (fun bs g wq => Hid (DsS wy l (dn, dd) bs g wq)) (by kernel_rfl) (by kernel_rfl) (fun g => by kernel_rfl) (by kernel_rfl) ?hS (GFrom.all (n := 9) (by kernel_rfl) ?hstep) ?hend
        case hstep =>
          refine GFrom.cons (GStep.make _ rfl _ rfl (fun _ => trivial) (fun Lx g ev wq hL hd hcl hS he hr => ?_)) ?_
          · clear hr he
            have e : bitsAt [0, 2, 5, 6] Lx = [false, Lx 2, Lx 5, Lx 6] := by simp [bitsAt, hL]
            have e2 : bitsAt [0, 2, 5, 6] (upd Lx 0) = [true, Lx 2, Lx 5, Lx 6] := by simp [bitsAt, upd, hL]
            rw [e] at hS
            exact ⟨.slice (some ⟨wq.heap.size, 0, none⟩) 0 0, (.slice (some ⟨wq.heap.size, 0, none⟩) 0 0, g.2), _, exec_buildSliceD (qs := #[]) rfl (by simp) (make_dot0 wq), rfl, old_setD _ hL rfl, by rw [e2]; exact hid hS.out.made0⟩
          refine GFrom.cons (GStep.val _ rfl rfl _ rfl (fun g => .slice pl nL dl) (fun _ => rfl) (fun _ => trivial) (fun bs g ev wq hS he hr => ?_)) ?_
          · have r0 : ev (.tmp 1) = .slice pl nL dl := hr (1, none) (by simp); have hk := he.1; clear hr he
            go_simp
          refine GFrom.cons (GStep.make _ rfl _ rfl (fun _ => trivial) (fun Lx g ev wq hL hd hcl hS he hr => ?_)) ?_
          · have r0 : ev (.tmp 49) = g.1 := hr (49, some 0) (by simp); have r1 : ev (.tmp 50) = .slice pl nL dl := hr (50, some 1) (by simp); clear hr he
            have l0 : Lx 0 = true := hd 0 (by kernel_rfl)
            have l6 : Lx 6 = false := by cases h : Lx 6 with | false => rfl | true => (have := hcl 6 _ rfl h 2 (by kernel_rfl); rw [hL] at this; cases this)
            have e : bitsAt [0, 2, 5, 6] Lx = [true, false, Lx 5, false] := by simp [bitsAt, hL, l0, l6]
            have e2 : bitsAt [0, 2, 5, 6] (upd Lx 2) = [true, true, Lx 5, false] := by simp [bitsAt, upd, l0, l6]
            rw [e] at hS
            obtain ⟨v', w', hrun, ho, hg⟩ := app_dots (ty := 30) (hS.out.r0 rfl rfl) (HF.out.hl.keptN hS.out.kp) (by have := HLL.out; omega) hS.out.kp.size
            exact ⟨v', (g.1, v', g.2.2), w', exec_appendD rfl r0 r1 hrun, rfl, old_setD v' hL rfl, by rw [e2]; exact hid (hS.out.put1 ho hg)⟩
          refine GFrom.cons (GStep.val _ rfl rfl _ rfl (fun g => .pointer (some ⟨D, 2, none⟩)) (fun _ => rfl) (fun _ => trivial) (fun bs g ev wq hS he hr => ?_)) ?_
          · have r0 : ev (.tmp 2) = .pointer (some ⟨D, 0, none⟩) := hr (2, none) (by simp); have hk := he.1; clear hr he
            go_simp
          refine GFrom.cons (GStep.val _ rfl rfl _ rfl (fun g => .agg #[.int .i64 dn, .int .i64 dd]) (fun _ => rfl) (fun _ => trivial) (fun bs g ev wq hS he hr => ?_)) ?_
          · have r0 : ev (.tmp 52) = .pointer (some ⟨D, 2, none⟩) := hr (52, some 3) (by simp); have hk := he.1; clear hr he
            have c0 : wq.cell? ⟨D, 2, none⟩ = some (.int .i64 dn) := (HB6.out.kept hS.out.kp (fun h => h)).cell 2
            have c1 : wq.cell? ⟨D, 3, none⟩ = some (.int .i64 dd) := (HB6.out.kept hS.out.kp (fun h => h)).cell 3
            go_simp
          refine GFrom.cons (GStep.make _ rfl _ rfl (fun _ => trivial) (fun Lx g ev wq hL hd hcl hS he hr => ?_)) ?_
          · have r0 : ev (.tmp 53) = .agg #[.int .i64 dn, .int .i64 dd] := hr (53, some 4) (by simp); clear hr he
            have e : bitsAt [0, 2, 5, 6] Lx = [Lx 0, Lx 2, false, Lx 6] := by simp [bitsAt, hL]
            have e2 : bitsAt [0, 2, 5, 6] (upd Lx 5) = [Lx 0, Lx 2, true, Lx 6] := by simp [bitsAt, upd, hL]
            rw [e] at hS
            exact ⟨.slice (some ⟨wq.heap.size, 0, none⟩) 1 1, (g.1, g.2.1, .slice (some ⟨wq.heap.size, 0, none⟩) 1 1, g.2.2.2), _, exec_buildSliceD (qs := #[(0, .agg #[.int .i64 dn, .int .i64 dd])]) rfl (by simp [r0]) (make_dot1 wq dn dd), rfl, old_setD _ hL rfl, by rw [e2]; exact hid hS.out.made2⟩
          refine GFrom.cons (GStep.make _ rfl _ rfl (fun _ => trivial) (fun Lx g ev wq hL hd hcl hS he hr => ?_)) ?_
          · have r0 : ev (.tmp 51) = g.2.1 := hr (51, some 2) (by simp); have r1 : ev (.tmp 54) = g.2.2.1 := hr (54, some 5) (by simp); clear hr he
            have l2 : Lx 2 = true := hd 2 (by kernel_rfl)
            have l5 : Lx 5 = true := hd 5 (by kernel_rfl)
            have l0 : Lx 0 = true := hcl 2 _ rfl l2 0 (by kernel_rfl)
            have e : bitsAt [0, 2, 5, 6] Lx = [true, true, true, false] := by simp [bitsAt, hL, l0, l2, l5]
            have e2 : bitsAt [0, 2, 5, 6] (upd Lx 6) = [true, true, true, true] := by simp [bitsAt, upd, l0, l2, l5]
            rw [e] at hS
            obtain ⟨B, hB, hB2, -⟩ := hS.out.mb rfl rfl
            obtain ⟨v', w', hrun, ho, hg⟩ := app_dot1 (ty := 30) (hS.out.r1 rfl rfl) hB2 (by have := HLL.out; omega) hS.out.kp.size
            obtain ⟨y6, c6, rfl⟩ := own_shape ho
            rw [HL.out.2.2, HNQ.out] at hrun
            exact ⟨_, (g.1, g.2.1, g.2.2.1, y6, c6), w', exec_appendD rfl r0 (r1.trans hB) hrun, rfl, old_setD _ hL rfl, by rw [e2]; exact hid (hS.out.put3 ho hg)⟩
          refine GFrom.cons (GStep.val _ rfl rfl _ rfl (fun g => .int .i64 (nQ : Int)) (fun _ => rfl) (fun _ => trivial) (fun bs g ev wq hS he hr => ?_)) ?_
          · have r0 : ev (.tmp 55) = .slice g.2.2.2.1 nQ g.2.2.2.2 := hr (55, some 6) (by simp); have hk := he.1; clear hr he
            exact exec_lenD rfl r0
          refine GFrom.cons (GStep.val _ rfl rfl _ rfl (fun g => .int .i64 0) (fun _ => rfl) (fun _ => trivial) (fun bs g ev wq hS he hr => ?_)) ?_
          · have hk := he.1; clear hr he
            go_simp
          exact GFrom.nil
        case hS => exact hid DsS.start
        case hend =>
          intro g w6 h6
          obtain ⟨g0, g1, g2, y6, c6⟩ := g
          have HR6 : Hid (w6.ownsRow wy.heap.size 25 2 (.slice y6 nQ c6) nQ (flatR dotL l ++ dotL (dn, dd))) := hid (by have h := h6.out.r3 rfl; rwa [HL.out.2.2, HNQ.out] at h)
          have K6 := hid h6.out.kp
          have HF := hid (HF.out.step K6.out)
          have HR := hid (HR.out.kept K6.out)
          clear h6 HB6
          simp only [putAll, List.zip_cons_cons, List.zip_nil_right, List.foldl_cons, List.foldl_nil, Act.put, List.setIfInBounds_toArray, List.set_cons_zero, List.set_cons_succ]
          obtain ⟨q, hq⟩ : ∃ q : List DotQ, l ++ [(dn, dd)] = q := ⟨_, rfl⟩
          have HQ := hid hq
          have HQL : Hid (q.length = nQ) := hid (by rw [← hq, List.length_append, List.length_singleton, HL.out.2.2, HNQ.out])
          have HRQ : Hid (RowsSl dotL (0, 0) 2 w6 (.slice y6 nQ c6) q) := hid (ds_owned (base := wy.heap.size) (by
            rw [HQL.out, ← hq]
            have h := HR6.out
            rwa [show flatR dotL (l ++ [(dn, dd)]) = flatR dotL l ++ dotL (dn, dd) from by simp [flatR]]))
          clear HR6 hq
          go_wp2_with fail
          go_loopw [57] (SeR w6 nQ) (fun i _ => nQ - (intOf i).toNat)
          case atStart => exact ⟨0, Nat.zero_le _, rfl, hid (Kp.refl _ _)⟩
          case round =>
            obtain ⟨k, hk, rfl, HK⟩ := hrel
            have HFR := hid (HF.out.step HK.out)
            by_cases hlt : k < nQ
            · obtain ⟨blk, off, cap, e1, hc, hm2, hcell⟩ := ds_shape (HRQ.out.keptN HK.out) (by intro h; have := HQL.out; rw [h, List.length_nil] at this; omega)
              rw [HQL.out] at e1 hc hcell
              injection e1 with e1 _ e2
              subst e1 e2
              have HRr := hid (hcell k hlt)
              obtain ⟨⟨xn, xd⟩, hx⟩ : ∃ x, dotAt q k = x := ⟨_, rfl⟩
              rw [hx] at HRr
              obtain ⟨M, hM⟩ : ∃ M, wr.heap.size = M := ⟨_, rfl⟩
              obtain ⟨W2, hW2⟩ : ∃ W, W = (wr.alloc (.cells (dotL (0, 0)).toArray 25)).setCells M 0 (dotL (xn, xd)) := ⟨_, rfl⟩
              have hz := Blk.new wr 25 (dotL (0, 0))
              rw [hM] at hz
              have KW : Hid (Kp Nb wr W2) := hid (by rw [hW2]; exact Kp.setCells (fun h => absurd h (by omega)) _ 0 _ ((Kp.refl Nb wr).alloc _))
              have TH := hid (dot_there (q := (xn, xd)) hz)
              have HZ : Hid (Blk W2 M 25 (dotL (xn, xd))) := hid (by rw [hW2]; exact row_set hz rfl)
              have HFS := hid (HFR.out.step KW.out)
              have HK2 := hid (HK.out.trans KW.out (fun _ _ h => h))
              have HRS := hid (HR.out.kept HK2.out)
              unfold maxLen at hm2
              obtain ⟨fs, hfs⟩ := under_dot
              clear hz hcell hx KW HFR
              go_upto_region 9 with (first
                | (refine wpList_load_mid (by rfl) 25 (.tmp 59) (by rfl) blk (off + k * 2) (by rfl) (dotL (xn, xd)) _ HRr.out hfs rfl (dot_infoL (xn, xd)) ?_)
                | (refine wpList_store_mid (by rfl) 25 (.tmp 9) (.tmp 60) (by rfl) M 0 (dotL (xn, xd)).toArray (by rfl) (by rfl) TH.out (dot_infoA (xn, xd)) (dot_one (xn, xd)) ?_))
              rw [show (wr.alloc (.cells #[.int .i64 0, .int .i64 0] 25)).setCells M 0 (dotL (xn, xd)) = W2 from hW2.symm]
              clear hW2 TH hM HRr
              have c0 : W2.cell? ⟨D, 0, none⟩ = some (.slice pa nA da) := HFS.out.box.cell 0
              have e0 : W2.cell? ⟨M, 0, none⟩ = some (.int .i64 xn) := HZ.out.cell 0
              have e1 : W2.cell? ⟨M, 1, none⟩ = some (.int .i64 xd) := HZ.out.cell 1
              obtain ⟨hi, hhi⟩ : ∃ x, hasC a xn xd = x := ⟨_, rfl⟩
              obtain ⟨hB, hhB⟩ : ∃ x, hasC b xn xd = x := ⟨_, rfl⟩
              obtain ⟨gd, hgd⟩ : ∃ x, goodB dn dd = x := ⟨_, rfl⟩
              obtain ⟨eD, heD⟩ : ∃ x, decide (((xn, xd) : DotQ) = (dn, dd)) = x := ⟨_, rfl⟩
              obtain ⟨eN, heN⟩ : ∃ x, decide (xn = nd) = x := ⟨_, rfl⟩
              obtain ⟨tp, htp⟩ : ∃ x, topC a xn = x := ⟨_, rfl⟩
              have HHI := hid hhi
              have HHB := hid hhB
              have HGD := hid hgd
              have HED := hid heD
              have HEN : Hid ((xn == nd) = eN) := hid (by rw [← heN]; rfl)
              have HTP := hid htp
              have HHJ : Hid (hasC J xn xd = (hi || hB)) := hid (by rw [← HJE.out, has_join HTA.out HTB.out, hhi, hhB])
              have HHW : Hid (gd = true → hasC Wt xn xd = (hi || eD)) := hid (fun h => by rw [← HWE.out, has_with HTA.out (hgd.trans h), hhi, ← heD]; congr 1; simp only [Prod.mk.injEq, Bool.decide_and])
              have HHO : Hid (hasC O xn xd = (hi && eN)) := hid (by rw [← HOE.out, has_of HTA.out, hhi, heN])
              have HTL : Hid (hi = true → decide (tp < xd) = false) := hid (fun h => decide_eq_false (by rw [← htp]; exact has_top HTA.out (hhi.trans h)))
              clear hhi hhB hgd heD heN htp
              go_wp2_with fail
              have C := has_any _ a xn xd W2 HFS.out.ha (by have := HLE.out; omega)
              rw [HHI.out] at C
              refine C.mono ?_
              rintro r w7 ⟨rfl, k7⟩
              have HF7 := hid (HFS.out.step k7)
              have HR7 := hid (HRS.out.kept k7)
              have HZ7 := hid (HZ.out.kept k7 (fun h => h))
              have HK7 := hid (HK2.out.trans k7 (fun _ _ h => h))
              clear C k7 c0 e0 e1 HFS HRS HZ HK2
              have CH : Hid (∀ wq v c, Kp Nb w7 wq → ClSl w7 v c → c.length ≤ 80 → Calls Tryd.prog 24 #[v, .agg #[.int .i64 xn, .int .i64 xd]] wq fun e w' => e = .returned (.bool (hasC c xn xd)) ∧ Kp Nb wq w') := hid (fun wq v c k h hl => has_any v c xn xd wq (h.kept k) (by omega))
              have CG : Hid (∀ wq, Calls Tryd.prog 25 #[.agg #[.int .i64 dn, .int .i64 dd]] wq fun e w' => e = .returned (.bool gd) ∧ Kp Nb wq w') := hid (fun wq => by rw [← HGD.out]; exact good_any dn dd wq)
              have CT : Hid (∀ wq, Kp Nb w7 wq → Calls Tryd.prog 26 #[.slice pa nA da, .int .i64 xn] wq fun e w' => e = .returned (.int .i64 tp) ∧ Kp Nb wq w') := hid (fun wq k => by rw [← HTP.out]; exact top_any _ a xn wq (HF7.out.ha.kept k) (by have := HLE.out; omega))
              have CHJ : Hid (∀ wq, Kp Nb w7 wq → Calls Tryd.prog 24 #[.slice yJ nJ dJ, .agg #[.int .i64 xn, .int .i64 xd]] wq fun e w' => e = .returned (.bool (hi || hB)) ∧ Kp Nb wq w') := hid (fun wq k => by rw [← HHJ.out]; exact CH.out wq _ J k HR7.out.hj HJL.out)
              have CHB : Hid (∀ wq, Kp Nb w7 wq → Calls Tryd.prog 24 #[.slice pb nB db, .agg #[.int .i64 xn, .int .i64 xd]] wq fun e w' => e = .returned (.bool hB) ∧ Kp Nb wq w') := hid (fun wq k => by rw [← HHB.out]; exact CH.out wq _ b k HF7.out.hb (by have := HLE.out; omega))
              have CHW : Hid (gd = true → ∀ wq, Kp Nb w7 wq → Calls Tryd.prog 24 #[.slice yW nW dW, .agg #[.int .i64 xn, .int .i64 xd]] wq fun e w' => e = .returned (.bool (hi || eD)) ∧ Kp Nb wq w') := hid (fun h wq k => by rw [← HHW.out h]; exact CH.out wq _ Wt k HR7.out.hw HWL.out)
              have CHO : Hid (∀ wq, Kp Nb w7 wq → Calls Tryd.prog 24 #[.slice yO nO dO, .agg #[.int .i64 xn, .int .i64 xd]] wq fun e w' => e = .returned (.bool (hi && eN)) ∧ Kp Nb wq w') := hid (fun wq k => by rw [← HHO.out]; exact CH.out wq _ O k HR7.out.ho HOL.out)
              have HDD : Hid (decide (((xn, xd) : DotQ) = (dn, dd)) = eD) := HED
              clear HHI HHB HGD HED HTP HHJ HHW HHO CH
              go_wp2_with fail
              cases hi with
              | true =>
                simp only [Bool.true_or, Bool.true_and] at CHJ CHW CHO
                cases gd with
                | true =>
                  refine V3.region_vals2 [none, none, none, none, none, none, none, none, none, none, none, none, none, none, none, none, none, none, none, none, none, none, none, none, none, none, none, none, none, none, none, none, none, none, none, none, none, none, none, none, none, none, none, none, none, none, none, none, none, none, none, none, none, none, none, none, none, none, none, none, none, none, none, none, none, some 0, some 1, some 2, some 3, some 4, some 5, some 6, some 7, some 8, some 9, some 10, some 11, some 12, some 13, some 14, some 15, some 16, some 17, some 18, some 19, some 20, some 21, some 22, some 23, some 24, some 25, some 26, some 27, some 28, some 29, some 30, some 31, some 32, some 33, some 34, some 35, some 36, some 37, some 38, some 39, some 40, some 41, some 42, some 43, some 44, some 45, some 46, some 47, some 48, some 49, some 50, some 51, some 52, some 53, some 54, some 55, none, none, none, none, none, none, none, none, none, none, none, none, none, none, none, none, none, none, none, none, none, none, none, none, none, none, none, none, none, none, none, none, none, none, none, none, none] [[(5, none)], [(9, none)], [(65, some 0), (66, some 1)], [(10, none)], [(68, some 3)], [(2, none)], [(70, some 5)], [(9, none)], [(71, some 6), (72, some 7)], [(69, some 4), (73, some 8)], [(67, some 2), (74, some 9)], [(75, some 10)], [(2, none)], [(77, some 12)], [(78, some 13)], [(79, some 14)], [(6, none)], [(9, none)], [(81, some 16), (82, some 17)], [(10, none)], [(84, some 19)], [(9, none)], [(2, none)], [(87, some 22)], [(86, some 21), (88, some 23)], [(85, some 20), (89, some 24)], [(83, some 18), (90, some 25)], [(80, some 15), (91, some 26)], [(76, some 11), (92, some 27)], [(93, some 28)], [(7, none)], [(9, none)], [(95, some 30), (96, some 31)], [(10, none)], [(98, some 33)], [(9, none)], [(100, some 35)], [(2, none)], [(102, some 37)], [(101, some 36), (103, some 38)], [(99, some 34), (104, some 39)], [(97, some 32), (105, some 40)], [(94, some 29), (106, some 41)], [(107, some 42)], [(10, none)], [(109, some 44)], [(2, none)], [(111, some 46)], [(9, none)], [(113, some 48)], [(112, some 47), (114, some 49)], [(9, none)], [(116, some 51)], [(115, some 50), (117, some 52)], [(110, some 45), (118, some 53)], [(108, some 43), (119, some 54)]] [some 65, some 66, some 67, some 68, some 69, some 70, some 71, some 72, some 73, some 74, some 75, some 76, some 77, some 78, some 79, some 80, some 81, some 82, some 83, some 84, some 85, some 86, some 87, some 88, some 89, some 90, some 91, some 92, some 93, some 94, some 95, some 96, some 97, some 98, some 99, some 100, some 101, some 102, some 103, some 104, some 105, some 106, some 107, some 108, some 109, some 110, some 111, some 112, some 113, some 114, some 115, some 116, some 117, some 118, some 119, some 120] [.slice yJ nJ dJ, .agg #[.int .i64 xn, .int .i64 xd], .bool true, .bool true, .bool true, undef, undef, undef, undef, .bool true, .bool false, .bool false, .pointer (some ⟨D, 2, none⟩), .agg #[.int .i64 dn, .int .i64 dd], .bool true, .bool true, .slice yW nW dW, .agg #[.int .i64 xn, .int .i64 xd], .bool true, .bool true, .bool true, undef, undef, undef, undef, .bool true, .bool false, .bool false, .bool false, .bool false, .slice yO nO dO, .agg #[.int .i64 xn, .int .i64 xd], .bool eN, .bool true, .bool true, .pointer (some ⟨M, 0, none⟩), .int .i64 xn, .pointer (some ⟨D, 4, none⟩), .int .i64 nd, .bool eN, .bool eN, .bool false, .bool false, .bool false, .bool true, .bool true, .pointer (some ⟨D, 0, none⟩), .slice pa nA da, .pointer (some ⟨M, 0, none⟩), .int .i64 xn, .int .i64 tp, .pointer (some ⟨M, 1, none⟩), .int .i64 xd, .bool false, .bool false, .bool false] (fun w' => Hid (Kp Nb w7 w')) (by kernel_rfl) (by kernel_rfl) (by kernel_rfl) ?hS (V3.VFrom.all (n := 56) (by kernel_rfl) ?hstep) ?hend
                  case hstep =>
                    refine V3.VFrom.cons (V3.VStep.val _ rfl _ rfl (.slice yJ nJ dJ) rfl trivial (fun ev wq hS he hr => ?_)) ?_
                    · have r0 : ev (.tmp 5) = .slice yJ nJ dJ := hr (5, none) (by simp); have hk := he.1; clear hr he
                      go_simp
                    refine V3.VFrom.cons (V3.VStep.val _ rfl _ rfl (.agg #[.int .i64 xn, .int .i64 xd]) rfl trivial (fun ev wq hS he hr => ?_)) ?_
                    · have r0 : ev (.tmp 9) = .pointer (some ⟨M, 0, none⟩) := hr (9, none) (by simp); have hk := he.1; clear hr he
                      have c0 := (show wq.cell? ⟨M, 0, none⟩ = some (.int .i64 xn) from (HZ7.out.kept hS.out (fun h => h)).cell 0)
                      have c1 := (show wq.cell? ⟨M, 1, none⟩ = some (.int .i64 xd) from (HZ7.out.kept hS.out (fun h => h)).cell 1)
                      go_simp
                    refine V3.VFrom.cons (V3.VStep.call _ rfl _ rfl (.bool true) rfl trivial 24 #[.slice yJ nJ dJ, .agg #[.int .i64 xn, .int .i64 xd]] (fun ev wq hS he hr => ?_) (fun wq hS => ?_)) ?_
                    · have r0 : ev (.tmp 65) = .slice yJ nJ dJ := hr (65, some 0) (by simp); have r1 : ev (.tmp 66) = .agg #[.int .i64 xn, .int .i64 xd] := hr (66, some 1) (by simp); have hk := he.1; have hf := he.2; clear hr he
                      go_simp
                    · exact (CHJ.out wq hS.out).mono fun e w' ⟨h1, h2⟩ => ⟨h1, hid (hS.out.trans h2 (fun _ _ h => h))⟩
                    refine V3.VFrom.cons (V3.VStep.val _ rfl _ rfl (.bool true) rfl trivial (fun ev wq hS he hr => ?_)) ?_
                    · have r0 : ev (.tmp 10) = .bool true := hr (10, none) (by simp); have hk := he.1; clear hr he
                      go_simp
                    refine V3.VFrom.cons (V3.VStep.val _ rfl _ rfl (.bool true) rfl trivial (fun ev wq hS he hr => ?_)) ?_
                    · have r0 : ev (.tmp 68) = .bool true := hr (68, some 3) (by simp); have hk := he.1; clear hr he
                      go_simp
                    refine V3.VFrom.cons (V3.VStep.skip _ rfl rfl rfl) ?_
                    refine V3.VFrom.cons (V3.VStep.skip _ rfl rfl rfl) ?_
                    refine V3.VFrom.cons (V3.VStep.skip _ rfl rfl rfl) ?_
                    refine V3.VFrom.cons (V3.VStep.skip _ rfl rfl rfl) ?_
                    refine V3.VFrom.cons (V3.VStep.val _ rfl _ rfl (.bool true) rfl trivial (fun ev wq hS he hr => ?_)) ?_
                    · have r0 : ev (.tmp 69) = .bool true := hr (69, some 4) (by simp); have r1 : ev (.tmp 73) = undef := hr (73, some 8) (by simp); have hk := he.1; clear hr he
                      go_simp
                    refine V3.VFrom.cons (V3.VStep.val _ rfl _ rfl (.bool false) rfl trivial (fun ev wq hS he hr => ?_)) ?_
                    · have r0 : ev (.tmp 67) = .bool true := hr (67, some 2) (by simp); have r1 : ev (.tmp 74) = .bool true := hr (74, some 9) (by simp); have hk := he.1; clear hr he
                      go_simp
                    refine V3.VFrom.cons (V3.VStep.val _ rfl _ rfl (.bool false) rfl trivial (fun ev wq hS he hr => ?_)) ?_
                    · have r0 : ev (.tmp 75) = .bool false := hr (75, some 10) (by simp); have hk := he.1; clear hr he
                      go_simp
                    refine V3.VFrom.cons (V3.VStep.val _ rfl _ rfl (.pointer (some ⟨D, 2, none⟩)) rfl rfl (fun ev wq hS he hr => ?_)) ?_
                    · have r0 : ev (.tmp 2) = .pointer (some ⟨D, 0, none⟩) := hr (2, none) (by simp); have hk := he.1; clear hr he
                      go_simp
                    refine V3.VFrom.cons (V3.VStep.val _ rfl _ rfl (.agg #[.int .i64 dn, .int .i64 dd]) rfl rfl (fun ev wq hS he hr => ?_)) ?_
                    · have r0 : ev (.tmp 77) = .pointer (some ⟨D, 2, none⟩) := hr (77, some 12) (by simp); have hk := he.1; clear hr he
                      have c0 := (show wq.cell? ⟨D, 2, none⟩ = some (.int .i64 dn) from (HF7.out.box.kept hS.out (fun h => h)).cell 2)
                      have c1 := (show wq.cell? ⟨D, 3, none⟩ = some (.int .i64 dd) from (HF7.out.box.kept hS.out (fun h => h)).cell 3)
                      go_simp
                    refine V3.VFrom.cons (V3.VStep.call _ rfl _ rfl (.bool true) rfl rfl 25 #[.agg #[.int .i64 dn, .int .i64 dd]] (fun ev wq hS he hr => ?_) (fun wq hS => ?_)) ?_
                    · have r0 : ev (.tmp 78) = .agg #[.int .i64 dn, .int .i64 dd] := hr (78, some 13) (by simp); have hk := he.1; have hf := he.2; clear hr he
                      go_simp
                    · exact (CG.out wq).mono fun e w' ⟨h1, h2⟩ => ⟨h1, hid (hS.out.trans h2 (fun _ _ h => h))⟩
                    refine V3.VFrom.cons (V3.VStep.val _ rfl _ rfl (.bool true) rfl rfl (fun ev wq hS he hr => ?_)) ?_
                    · have r0 : ev (.tmp 79) = .bool true := hr (79, some 14) (by simp); have hk := he.1; clear hr he
                      go_simp
                    refine V3.VFrom.cons (V3.VStep.val _ rfl _ rfl (.slice yW nW dW) rfl rfl (fun ev wq hS he hr => ?_)) ?_
                    · have r0 : ev (.tmp 6) = .slice yW nW dW := hr (6, none) (by simp); have hk := he.1; clear hr he
                      go_simp
                    refine V3.VFrom.cons (V3.VStep.val _ rfl _ rfl (.agg #[.int .i64 xn, .int .i64 xd]) rfl rfl (fun ev wq hS he hr => ?_)) ?_
                    · have r0 : ev (.tmp 9) = .pointer (some ⟨M, 0, none⟩) := hr (9, none) (by simp); have hk := he.1; clear hr he
                      have c0 := (show wq.cell? ⟨M, 0, none⟩ = some (.int .i64 xn) from (HZ7.out.kept hS.out (fun h => h)).cell 0)
                      have c1 := (show wq.cell? ⟨M, 1, none⟩ = some (.int .i64 xd) from (HZ7.out.kept hS.out (fun h => h)).cell 1)
                      go_simp
                    refine V3.VFrom.cons (V3.VStep.call _ rfl _ rfl (.bool true) rfl rfl 24 #[.slice yW nW dW, .agg #[.int .i64 xn, .int .i64 xd]] (fun ev wq hS he hr => ?_) (fun wq hS => ?_)) ?_
                    · have r0 : ev (.tmp 81) = .slice yW nW dW := hr (81, some 16) (by simp); have r1 : ev (.tmp 82) = .agg #[.int .i64 xn, .int .i64 xd] := hr (82, some 17) (by simp); have hk := he.1; have hf := he.2; clear hr he
                      go_simp
                    · exact (CHW.out rfl wq hS.out).mono fun e w' ⟨h1, h2⟩ => ⟨h1, hid (hS.out.trans h2 (fun _ _ h => h))⟩
                    refine V3.VFrom.cons (V3.VStep.val _ rfl _ rfl (.bool true) rfl rfl (fun ev wq hS he hr => ?_)) ?_
                    · have r0 : ev (.tmp 10) = .bool true := hr (10, none) (by simp); have hk := he.1; clear hr he
                      go_simp
                    refine V3.VFrom.cons (V3.VStep.val _ rfl _ rfl (.bool true) rfl rfl (fun ev wq hS he hr => ?_)) ?_
                    · have r0 : ev (.tmp 84) = .bool true := hr (84, some 19) (by simp); have hk := he.1; clear hr he
                      go_simp
                    refine V3.VFrom.cons (V3.VStep.skip _ rfl rfl rfl) ?_
                    refine V3.VFrom.cons (V3.VStep.skip _ rfl rfl rfl) ?_
                    refine V3.VFrom.cons (V3.VStep.skip _ rfl rfl rfl) ?_
                    refine V3.VFrom.cons (V3.VStep.skip _ rfl rfl rfl) ?_
                    refine V3.VFrom.cons (V3.VStep.val _ rfl _ rfl (.bool true) rfl rfl (fun ev wq hS he hr => ?_)) ?_
                    · have r0 : ev (.tmp 85) = .bool true := hr (85, some 20) (by simp); have r1 : ev (.tmp 89) = undef := hr (89, some 24) (by simp); have hk := he.1; clear hr he
                      go_simp
                    refine V3.VFrom.cons (V3.VStep.val _ rfl _ rfl (.bool false) rfl rfl (fun ev wq hS he hr => ?_)) ?_
                    · have r0 : ev (.tmp 83) = .bool true := hr (83, some 18) (by simp); have r1 : ev (.tmp 90) = .bool true := hr (90, some 25) (by simp); have hk := he.1; clear hr he
                      go_simp
                    refine V3.VFrom.cons (V3.VStep.val _ rfl _ rfl (.bool false) rfl rfl (fun ev wq hS he hr => ?_)) ?_
                    · have r0 : ev (.tmp 80) = .bool true := hr (80, some 15) (by simp); have r1 : ev (.tmp 91) = .bool false := hr (91, some 26) (by simp); have hk := he.1; clear hr he
                      go_simp
                    refine V3.VFrom.cons (V3.VStep.val _ rfl _ rfl (.bool false) rfl trivial (fun ev wq hS he hr => ?_)) ?_
                    · have r0 : ev (.tmp 76) = .bool false := hr (76, some 11) (by simp); have r1 : ev (.tmp 92) = .bool false := hr (92, some 27) (by simp); have hk := he.1; clear hr he
                      go_simp
                    refine V3.VFrom.cons (V3.VStep.val _ rfl _ rfl (.bool false) rfl trivial (fun ev wq hS he hr => ?_)) ?_
                    · have r0 : ev (.tmp 93) = .bool false := hr (93, some 28) (by simp); have hk := he.1; clear hr he
                      go_simp
                    refine V3.VFrom.cons (V3.VStep.val _ rfl _ rfl (.slice yO nO dO) rfl rfl (fun ev wq hS he hr => ?_)) ?_
                    · have r0 : ev (.tmp 7) = .slice yO nO dO := hr (7, none) (by simp); have hk := he.1; clear hr he
                      go_simp
                    refine V3.VFrom.cons (V3.VStep.val _ rfl _ rfl (.agg #[.int .i64 xn, .int .i64 xd]) rfl rfl (fun ev wq hS he hr => ?_)) ?_
                    · have r0 : ev (.tmp 9) = .pointer (some ⟨M, 0, none⟩) := hr (9, none) (by simp); have hk := he.1; clear hr he
                      have c0 := (show wq.cell? ⟨M, 0, none⟩ = some (.int .i64 xn) from (HZ7.out.kept hS.out (fun h => h)).cell 0)
                      have c1 := (show wq.cell? ⟨M, 1, none⟩ = some (.int .i64 xd) from (HZ7.out.kept hS.out (fun h => h)).cell 1)
                      go_simp
                    refine V3.VFrom.cons (V3.VStep.call _ rfl _ rfl (.bool eN) rfl rfl 24 #[.slice yO nO dO, .agg #[.int .i64 xn, .int .i64 xd]] (fun ev wq hS he hr => ?_) (fun wq hS => ?_)) ?_
                    · have r0 : ev (.tmp 95) = .slice yO nO dO := hr (95, some 30) (by simp); have r1 : ev (.tmp 96) = .agg #[.int .i64 xn, .int .i64 xd] := hr (96, some 31) (by simp); have hk := he.1; have hf := he.2; clear hr he
                      go_simp
                    · exact (CHO.out wq hS.out).mono fun e w' ⟨h1, h2⟩ => ⟨h1, hid (hS.out.trans h2 (fun _ _ h => h))⟩
                    refine V3.VFrom.cons (V3.VStep.val _ rfl _ rfl (.bool true) rfl rfl (fun ev wq hS he hr => ?_)) ?_
                    · have r0 : ev (.tmp 10) = .bool true := hr (10, none) (by simp); have hk := he.1; clear hr he
                      go_simp
                    refine V3.VFrom.cons (V3.VStep.val _ rfl _ rfl (.bool true) rfl rfl (fun ev wq hS he hr => ?_)) ?_
                    · have r0 : ev (.tmp 98) = .bool true := hr (98, some 33) (by simp); have hk := he.1; clear hr he
                      go_simp
                    refine V3.VFrom.cons (V3.VStep.val _ rfl _ rfl (.pointer (some ⟨M, 0, none⟩)) rfl rfl (fun ev wq hS he hr => ?_)) ?_
                    · have r0 : ev (.tmp 9) = .pointer (some ⟨M, 0, none⟩) := hr (9, none) (by simp); have hk := he.1; clear hr he
                      go_simp
                    refine V3.VFrom.cons (V3.VStep.val _ rfl _ rfl (.int .i64 xn) rfl rfl (fun ev wq hS he hr => ?_)) ?_
                    · have r0 : ev (.tmp 100) = .pointer (some ⟨M, 0, none⟩) := hr (100, some 35) (by simp); have hk := he.1; clear hr he
                      have c0 := (show wq.cell? ⟨M, 0, none⟩ = some (.int .i64 xn) from (HZ7.out.kept hS.out (fun h => h)).cell 0)
                      go_simp
                    refine V3.VFrom.cons (V3.VStep.val _ rfl _ rfl (.pointer (some ⟨D, 4, none⟩)) rfl rfl (fun ev wq hS he hr => ?_)) ?_
                    · have r0 : ev (.tmp 2) = .pointer (some ⟨D, 0, none⟩) := hr (2, none) (by simp); have hk := he.1; clear hr he
                      go_simp
                    refine V3.VFrom.cons (V3.VStep.val _ rfl _ rfl (.int .i64 nd) rfl rfl (fun ev wq hS he hr => ?_)) ?_
                    · have r0 : ev (.tmp 102) = .pointer (some ⟨D, 4, none⟩) := hr (102, some 37) (by simp); have hk := he.1; clear hr he
                      have c0 := (show wq.cell? ⟨D, 4, none⟩ = some (.int .i64 nd) from (HF7.out.box.kept hS.out (fun h => h)).cell 4)
                      go_simp
                    refine V3.VFrom.cons (V3.VStep.val _ rfl _ rfl (.bool eN) rfl rfl (fun ev wq hS he hr => ?_)) ?_
                    · have r0 : ev (.tmp 101) = .int .i64 xn := hr (101, some 36) (by simp); have r1 : ev (.tmp 103) = .int .i64 nd := hr (103, some 38) (by simp); have hk := he.1; clear hr he
                      have e1 := HEN.out
                      go_simp
                    refine V3.VFrom.cons (V3.VStep.val _ rfl _ rfl (.bool eN) rfl rfl (fun ev wq hS he hr => ?_)) ?_
                    · have r0 : ev (.tmp 99) = .bool true := hr (99, some 34) (by simp); have r1 : ev (.tmp 104) = .bool eN := hr (104, some 39) (by simp); have hk := he.1; clear hr he
                      go_simp
                    refine V3.VFrom.cons (V3.VStep.val _ rfl _ rfl (.bool false) rfl rfl (fun ev wq hS he hr => ?_)) ?_
                    · have r0 : ev (.tmp 97) = .bool eN := hr (97, some 32) (by simp); have r1 : ev (.tmp 105) = .bool eN := hr (105, some 40) (by simp); have hk := he.1; clear hr he
                      go_simp
                    refine V3.VFrom.cons (V3.VStep.val _ rfl _ rfl (.bool false) rfl trivial (fun ev wq hS he hr => ?_)) ?_
                    · have r0 : ev (.tmp 94) = .bool false := hr (94, some 29) (by simp); have r1 : ev (.tmp 106) = .bool false := hr (106, some 41) (by simp); have hk := he.1; clear hr he
                      go_simp
                    refine V3.VFrom.cons (V3.VStep.val _ rfl _ rfl (.bool false) rfl trivial (fun ev wq hS he hr => ?_)) ?_
                    · have r0 : ev (.tmp 107) = .bool false := hr (107, some 42) (by simp); have hk := he.1; clear hr he
                      go_simp
                    refine V3.VFrom.cons (V3.VStep.val _ rfl _ rfl (.bool true) rfl rfl (fun ev wq hS he hr => ?_)) ?_
                    · have r0 : ev (.tmp 10) = .bool true := hr (10, none) (by simp); have hk := he.1; clear hr he
                      go_simp
                    refine V3.VFrom.cons (V3.VStep.val _ rfl _ rfl (.bool true) rfl rfl (fun ev wq hS he hr => ?_)) ?_
                    · have r0 : ev (.tmp 109) = .bool true := hr (109, some 44) (by simp); have hk := he.1; clear hr he
                      go_simp
                    refine V3.VFrom.cons (V3.VStep.val _ rfl _ rfl (.pointer (some ⟨D, 0, none⟩)) rfl rfl (fun ev wq hS he hr => ?_)) ?_
                    · have r0 : ev (.tmp 2) = .pointer (some ⟨D, 0, none⟩) := hr (2, none) (by simp); have hk := he.1; clear hr he
                      go_simp
                    refine V3.VFrom.cons (V3.VStep.val _ rfl _ rfl (.slice pa nA da) rfl rfl (fun ev wq hS he hr => ?_)) ?_
                    · have r0 : ev (.tmp 111) = .pointer (some ⟨D, 0, none⟩) := hr (111, some 46) (by simp); have hk := he.1; clear hr he
                      have c0 := (show wq.cell? ⟨D, 0, none⟩ = some (.slice pa nA da) from (HF7.out.box.kept hS.out (fun h => h)).cell 0)
                      go_simp
                    refine V3.VFrom.cons (V3.VStep.val _ rfl _ rfl (.pointer (some ⟨M, 0, none⟩)) rfl rfl (fun ev wq hS he hr => ?_)) ?_
                    · have r0 : ev (.tmp 9) = .pointer (some ⟨M, 0, none⟩) := hr (9, none) (by simp); have hk := he.1; clear hr he
                      go_simp
                    refine V3.VFrom.cons (V3.VStep.val _ rfl _ rfl (.int .i64 xn) rfl rfl (fun ev wq hS he hr => ?_)) ?_
                    · have r0 : ev (.tmp 113) = .pointer (some ⟨M, 0, none⟩) := hr (113, some 48) (by simp); have hk := he.1; clear hr he
                      have c0 := (show wq.cell? ⟨M, 0, none⟩ = some (.int .i64 xn) from (HZ7.out.kept hS.out (fun h => h)).cell 0)
                      go_simp
                    refine V3.VFrom.cons (V3.VStep.call _ rfl _ rfl (.int .i64 tp) rfl rfl 26 #[.slice pa nA da, .int .i64 xn] (fun ev wq hS he hr => ?_) (fun wq hS => ?_)) ?_
                    · have r0 : ev (.tmp 112) = .slice pa nA da := hr (112, some 47) (by simp); have r1 : ev (.tmp 114) = .int .i64 xn := hr (114, some 49) (by simp); have hk := he.1; have hf := he.2; clear hr he
                      go_simp
                    · exact (CT.out wq hS.out).mono fun e w' ⟨h1, h2⟩ => ⟨h1, hid (hS.out.trans h2 (fun _ _ h => h))⟩
                    refine V3.VFrom.cons (V3.VStep.val _ rfl _ rfl (.pointer (some ⟨M, 1, none⟩)) rfl rfl (fun ev wq hS he hr => ?_)) ?_
                    · have r0 : ev (.tmp 9) = .pointer (some ⟨M, 0, none⟩) := hr (9, none) (by simp); have hk := he.1; clear hr he
                      go_simp
                    refine V3.VFrom.cons (V3.VStep.val _ rfl _ rfl (.int .i64 xd) rfl rfl (fun ev wq hS he hr => ?_)) ?_
                    · have r0 : ev (.tmp 116) = .pointer (some ⟨M, 1, none⟩) := hr (116, some 51) (by simp); have hk := he.1; clear hr he
                      have c0 := (show wq.cell? ⟨M, 1, none⟩ = some (.int .i64 xd) from (HZ7.out.kept hS.out (fun h => h)).cell 1)
                      go_simp
                    refine V3.VFrom.cons (V3.VStep.val _ rfl _ rfl (.bool false) rfl rfl (fun ev wq hS he hr => ?_)) ?_
                    · have r0 : ev (.tmp 115) = .int .i64 tp := hr (115, some 50) (by simp); have r1 : ev (.tmp 117) = .int .i64 xd := hr (117, some 52) (by simp); have hk := he.1; clear hr he
                      have e1 := HTL.out rfl
                      go_simp
                    refine V3.VFrom.cons (V3.VStep.val _ rfl _ rfl (.bool false) rfl rfl (fun ev wq hS he hr => ?_)) ?_
                    · have r0 : ev (.tmp 110) = .bool true := hr (110, some 45) (by simp); have r1 : ev (.tmp 118) = .bool false := hr (118, some 53) (by simp); have hk := he.1; clear hr he
                      go_simp
                    refine V3.VFrom.cons (V3.VStep.val _ rfl _ rfl (.bool false) rfl trivial (fun ev wq hS he hr => ?_)) ?_
                    · have r0 : ev (.tmp 108) = .bool false := hr (108, some 43) (by simp); have r1 : ev (.tmp 119) = .bool false := hr (119, some 54) (by simp); have hk := he.1; clear hr he
                      go_simp
                    exact V3.VFrom.nil
                  case hS => exact hid (Kp.refl Nb w7).drew
                  case hend =>
                    intro wz hy
                    have KY := hid (HK7.out.trans hy.out (fun _ _ h => h))
                    clear hy
                    simp only [V3.putAll, List.zip_cons_cons, List.zip_nil_right, List.foldl_cons, List.foldl_nil, Act.put, List.setIfInBounds_toArray, List.set_cons_zero, List.set_cons_succ]
                    go_wp2
                    go_roundw
                    case rel => exact ⟨k + 1, by omega, by go_num, KY⟩
                    case measure => simp [intOf]; omega
                | false =>
                  refine V3.region_vals2 [none, none, none, none, none, none, none, none, none, none, none, none, none, none, none, none, none, none, none, none, none, none, none, none, none, none, none, none, none, none, none, none, none, none, none, none, none, none, none, none, none, none, none, none, none, none, none, none, none, none, none, none, none, none, none, none, none, none, none, none, none, none, none, none, none, some 0, some 1, some 2, some 3, some 4, some 5, some 6, some 7, some 8, some 9, some 10, some 11, some 12, some 13, some 14, some 15, some 16, some 17, some 18, some 19, some 20, some 21, some 22, some 23, some 24, some 25, some 26, some 27, some 28, some 29, some 30, some 31, some 32, some 33, some 34, some 35, some 36, some 37, some 38, some 39, some 40, some 41, some 42, some 43, some 44, some 45, some 46, some 47, some 48, some 49, some 50, some 51, some 52, some 53, some 54, some 55, none, none, none, none, none, none, none, none, none, none, none, none, none, none, none, none, none, none, none, none, none, none, none, none, none, none, none, none, none, none, none, none, none, none, none, none, none] [[(5, none)], [(9, none)], [(65, some 0), (66, some 1)], [(10, none)], [(68, some 3)], [(2, none)], [(70, some 5)], [(9, none)], [(71, some 6), (72, some 7)], [(69, some 4), (73, some 8)], [(67, some 2), (74, some 9)], [(75, some 10)], [(2, none)], [(77, some 12)], [(78, some 13)], [(79, some 14)], [(6, none)], [(9, none)], [(81, some 16), (82, some 17)], [(10, none)], [(84, some 19)], [(9, none)], [(2, none)], [(87, some 22)], [(86, some 21), (88, some 23)], [(85, some 20), (89, some 24)], [(83, some 18), (90, some 25)], [(80, some 15), (91, some 26)], [(76, some 11), (92, some 27)], [(93, some 28)], [(7, none)], [(9, none)], [(95, some 30), (96, some 31)], [(10, none)], [(98, some 33)], [(9, none)], [(100, some 35)], [(2, none)], [(102, some 37)], [(101, some 36), (103, some 38)], [(99, some 34), (104, some 39)], [(97, some 32), (105, some 40)], [(94, some 29), (106, some 41)], [(107, some 42)], [(10, none)], [(109, some 44)], [(2, none)], [(111, some 46)], [(9, none)], [(113, some 48)], [(112, some 47), (114, some 49)], [(9, none)], [(116, some 51)], [(115, some 50), (117, some 52)], [(110, some 45), (118, some 53)], [(108, some 43), (119, some 54)]] [some 65, some 66, some 67, some 68, some 69, some 70, some 71, some 72, some 73, some 74, some 75, some 76, some 77, some 78, some 79, some 80, some 81, some 82, some 83, some 84, some 85, some 86, some 87, some 88, some 89, some 90, some 91, some 92, some 93, some 94, some 95, some 96, some 97, some 98, some 99, some 100, some 101, some 102, some 103, some 104, some 105, some 106, some 107, some 108, some 109, some 110, some 111, some 112, some 113, some 114, some 115, some 116, some 117, some 118, some 119, some 120] [.slice yJ nJ dJ, .agg #[.int .i64 xn, .int .i64 xd], .bool true, .bool true, .bool true, undef, undef, undef, undef, .bool true, .bool false, .bool false, .pointer (some ⟨D, 2, none⟩), .agg #[.int .i64 dn, .int .i64 dd], .bool false, .bool false, undef, undef, undef, undef, undef, undef, undef, undef, undef, undef, undef, .bool false, .bool false, .bool false, .slice yO nO dO, .agg #[.int .i64 xn, .int .i64 xd], .bool eN, .bool true, .bool true, .pointer (some ⟨M, 0, none⟩), .int .i64 xn, .pointer (some ⟨D, 4, none⟩), .int .i64 nd, .bool eN, .bool eN, .bool false, .bool false, .bool false, .bool true, .bool true, .pointer (some ⟨D, 0, none⟩), .slice pa nA da, .pointer (some ⟨M, 0, none⟩), .int .i64 xn, .int .i64 tp, .pointer (some ⟨M, 1, none⟩), .int .i64 xd, .bool false, .bool false, .bool false] (fun w' => Hid (Kp Nb w7 w')) (by kernel_rfl) (by kernel_rfl) (by kernel_rfl) ?hS (V3.VFrom.all (n := 56) (by kernel_rfl) ?hstep) ?hend
                  case hstep =>
                    refine V3.VFrom.cons (V3.VStep.val _ rfl _ rfl (.slice yJ nJ dJ) rfl trivial (fun ev wq hS he hr => ?_)) ?_
                    · have r0 : ev (.tmp 5) = .slice yJ nJ dJ := hr (5, none) (by simp); have hk := he.1; clear hr he
                      go_simp
                    refine V3.VFrom.cons (V3.VStep.val _ rfl _ rfl (.agg #[.int .i64 xn, .int .i64 xd]) rfl trivial (fun ev wq hS he hr => ?_)) ?_
                    · have r0 : ev (.tmp 9) = .pointer (some ⟨M, 0, none⟩) := hr (9, none) (by simp); have hk := he.1; clear hr he
                      have c0 := (show wq.cell? ⟨M, 0, none⟩ = some (.int .i64 xn) from (HZ7.out.kept hS.out (fun h => h)).cell 0)
                      have c1 := (show wq.cell? ⟨M, 1, none⟩ = some (.int .i64 xd) from (HZ7.out.kept hS.out (fun h => h)).cell 1)
                      go_simp
                    refine V3.VFrom.cons (V3.VStep.call _ rfl _ rfl (.bool true) rfl trivial 24 #[.slice yJ nJ dJ, .agg #[.int .i64 xn, .int .i64 xd]] (fun ev wq hS he hr => ?_) (fun wq hS => ?_)) ?_
                    · have r0 : ev (.tmp 65) = .slice yJ nJ dJ := hr (65, some 0) (by simp); have r1 : ev (.tmp 66) = .agg #[.int .i64 xn, .int .i64 xd] := hr (66, some 1) (by simp); have hk := he.1; have hf := he.2; clear hr he
                      go_simp
                    · exact (CHJ.out wq hS.out).mono fun e w' ⟨h1, h2⟩ => ⟨h1, hid (hS.out.trans h2 (fun _ _ h => h))⟩
                    refine V3.VFrom.cons (V3.VStep.val _ rfl _ rfl (.bool true) rfl trivial (fun ev wq hS he hr => ?_)) ?_
                    · have r0 : ev (.tmp 10) = .bool true := hr (10, none) (by simp); have hk := he.1; clear hr he
                      go_simp
                    refine V3.VFrom.cons (V3.VStep.val _ rfl _ rfl (.bool true) rfl trivial (fun ev wq hS he hr => ?_)) ?_
                    · have r0 : ev (.tmp 68) = .bool true := hr (68, some 3) (by simp); have hk := he.1; clear hr he
                      go_simp
                    refine V3.VFrom.cons (V3.VStep.skip _ rfl rfl rfl) ?_
                    refine V3.VFrom.cons (V3.VStep.skip _ rfl rfl rfl) ?_
                    refine V3.VFrom.cons (V3.VStep.skip _ rfl rfl rfl) ?_
                    refine V3.VFrom.cons (V3.VStep.skip _ rfl rfl rfl) ?_
                    refine V3.VFrom.cons (V3.VStep.val _ rfl _ rfl (.bool true) rfl trivial (fun ev wq hS he hr => ?_)) ?_
                    · have r0 : ev (.tmp 69) = .bool true := hr (69, some 4) (by simp); have r1 : ev (.tmp 73) = undef := hr (73, some 8) (by simp); have hk := he.1; clear hr he
                      go_simp
                    refine V3.VFrom.cons (V3.VStep.val _ rfl _ rfl (.bool false) rfl trivial (fun ev wq hS he hr => ?_)) ?_
                    · have r0 : ev (.tmp 67) = .bool true := hr (67, some 2) (by simp); have r1 : ev (.tmp 74) = .bool true := hr (74, some 9) (by simp); have hk := he.1; clear hr he
                      go_simp
                    refine V3.VFrom.cons (V3.VStep.val _ rfl _ rfl (.bool false) rfl trivial (fun ev wq hS he hr => ?_)) ?_
                    · have r0 : ev (.tmp 75) = .bool false := hr (75, some 10) (by simp); have hk := he.1; clear hr he
                      go_simp
                    refine V3.VFrom.cons (V3.VStep.val _ rfl _ rfl (.pointer (some ⟨D, 2, none⟩)) rfl rfl (fun ev wq hS he hr => ?_)) ?_
                    · have r0 : ev (.tmp 2) = .pointer (some ⟨D, 0, none⟩) := hr (2, none) (by simp); have hk := he.1; clear hr he
                      go_simp
                    refine V3.VFrom.cons (V3.VStep.val _ rfl _ rfl (.agg #[.int .i64 dn, .int .i64 dd]) rfl rfl (fun ev wq hS he hr => ?_)) ?_
                    · have r0 : ev (.tmp 77) = .pointer (some ⟨D, 2, none⟩) := hr (77, some 12) (by simp); have hk := he.1; clear hr he
                      have c0 := (show wq.cell? ⟨D, 2, none⟩ = some (.int .i64 dn) from (HF7.out.box.kept hS.out (fun h => h)).cell 2)
                      have c1 := (show wq.cell? ⟨D, 3, none⟩ = some (.int .i64 dd) from (HF7.out.box.kept hS.out (fun h => h)).cell 3)
                      go_simp
                    refine V3.VFrom.cons (V3.VStep.call _ rfl _ rfl (.bool false) rfl rfl 25 #[.agg #[.int .i64 dn, .int .i64 dd]] (fun ev wq hS he hr => ?_) (fun wq hS => ?_)) ?_
                    · have r0 : ev (.tmp 78) = .agg #[.int .i64 dn, .int .i64 dd] := hr (78, some 13) (by simp); have hk := he.1; have hf := he.2; clear hr he
                      go_simp
                    · exact (CG.out wq).mono fun e w' ⟨h1, h2⟩ => ⟨h1, hid (hS.out.trans h2 (fun _ _ h => h))⟩
                    refine V3.VFrom.cons (V3.VStep.val _ rfl _ rfl (.bool false) rfl rfl (fun ev wq hS he hr => ?_)) ?_
                    · have r0 : ev (.tmp 79) = .bool false := hr (79, some 14) (by simp); have hk := he.1; clear hr he
                      go_simp
                    refine V3.VFrom.cons (V3.VStep.skip _ rfl rfl rfl) ?_
                    refine V3.VFrom.cons (V3.VStep.skip _ rfl rfl rfl) ?_
                    refine V3.VFrom.cons (V3.VStep.skip _ rfl rfl rfl) ?_
                    refine V3.VFrom.cons (V3.VStep.skip _ rfl rfl rfl) ?_
                    refine V3.VFrom.cons (V3.VStep.skip _ rfl rfl rfl) ?_
                    refine V3.VFrom.cons (V3.VStep.skipU _ rfl rfl rfl) ?_
                    refine V3.VFrom.cons (V3.VStep.skipU _ rfl rfl rfl) ?_
                    refine V3.VFrom.cons (V3.VStep.skipU _ rfl rfl rfl) ?_
                    refine V3.VFrom.cons (V3.VStep.skipU _ rfl rfl rfl) ?_
                    refine V3.VFrom.cons (V3.VStep.skip _ rfl rfl rfl) ?_
                    refine V3.VFrom.cons (V3.VStep.skip _ rfl rfl rfl) ?_
                    refine V3.VFrom.cons (V3.VStep.val _ rfl _ rfl (.bool false) rfl rfl (fun ev wq hS he hr => ?_)) ?_
                    · have r0 : ev (.tmp 80) = .bool false := hr (80, some 15) (by simp); have r1 : ev (.tmp 91) = undef := hr (91, some 26) (by simp); have hk := he.1; clear hr he
                      go_simp
                    refine V3.VFrom.cons (V3.VStep.val _ rfl _ rfl (.bool false) rfl trivial (fun ev wq hS he hr => ?_)) ?_
                    · have r0 : ev (.tmp 76) = .bool false := hr (76, some 11) (by simp); have r1 : ev (.tmp 92) = .bool false := hr (92, some 27) (by simp); have hk := he.1; clear hr he
                      go_simp
                    refine V3.VFrom.cons (V3.VStep.val _ rfl _ rfl (.bool false) rfl trivial (fun ev wq hS he hr => ?_)) ?_
                    · have r0 : ev (.tmp 93) = .bool false := hr (93, some 28) (by simp); have hk := he.1; clear hr he
                      go_simp
                    refine V3.VFrom.cons (V3.VStep.val _ rfl _ rfl (.slice yO nO dO) rfl rfl (fun ev wq hS he hr => ?_)) ?_
                    · have r0 : ev (.tmp 7) = .slice yO nO dO := hr (7, none) (by simp); have hk := he.1; clear hr he
                      go_simp
                    refine V3.VFrom.cons (V3.VStep.val _ rfl _ rfl (.agg #[.int .i64 xn, .int .i64 xd]) rfl rfl (fun ev wq hS he hr => ?_)) ?_
                    · have r0 : ev (.tmp 9) = .pointer (some ⟨M, 0, none⟩) := hr (9, none) (by simp); have hk := he.1; clear hr he
                      have c0 := (show wq.cell? ⟨M, 0, none⟩ = some (.int .i64 xn) from (HZ7.out.kept hS.out (fun h => h)).cell 0)
                      have c1 := (show wq.cell? ⟨M, 1, none⟩ = some (.int .i64 xd) from (HZ7.out.kept hS.out (fun h => h)).cell 1)
                      go_simp
                    refine V3.VFrom.cons (V3.VStep.call _ rfl _ rfl (.bool eN) rfl rfl 24 #[.slice yO nO dO, .agg #[.int .i64 xn, .int .i64 xd]] (fun ev wq hS he hr => ?_) (fun wq hS => ?_)) ?_
                    · have r0 : ev (.tmp 95) = .slice yO nO dO := hr (95, some 30) (by simp); have r1 : ev (.tmp 96) = .agg #[.int .i64 xn, .int .i64 xd] := hr (96, some 31) (by simp); have hk := he.1; have hf := he.2; clear hr he
                      go_simp
                    · exact (CHO.out wq hS.out).mono fun e w' ⟨h1, h2⟩ => ⟨h1, hid (hS.out.trans h2 (fun _ _ h => h))⟩
                    refine V3.VFrom.cons (V3.VStep.val _ rfl _ rfl (.bool true) rfl rfl (fun ev wq hS he hr => ?_)) ?_
                    · have r0 : ev (.tmp 10) = .bool true := hr (10, none) (by simp); have hk := he.1; clear hr he
                      go_simp
                    refine V3.VFrom.cons (V3.VStep.val _ rfl _ rfl (.bool true) rfl rfl (fun ev wq hS he hr => ?_)) ?_
                    · have r0 : ev (.tmp 98) = .bool true := hr (98, some 33) (by simp); have hk := he.1; clear hr he
                      go_simp
                    refine V3.VFrom.cons (V3.VStep.val _ rfl _ rfl (.pointer (some ⟨M, 0, none⟩)) rfl rfl (fun ev wq hS he hr => ?_)) ?_
                    · have r0 : ev (.tmp 9) = .pointer (some ⟨M, 0, none⟩) := hr (9, none) (by simp); have hk := he.1; clear hr he
                      go_simp
                    refine V3.VFrom.cons (V3.VStep.val _ rfl _ rfl (.int .i64 xn) rfl rfl (fun ev wq hS he hr => ?_)) ?_
                    · have r0 : ev (.tmp 100) = .pointer (some ⟨M, 0, none⟩) := hr (100, some 35) (by simp); have hk := he.1; clear hr he
                      have c0 := (show wq.cell? ⟨M, 0, none⟩ = some (.int .i64 xn) from (HZ7.out.kept hS.out (fun h => h)).cell 0)
                      go_simp
                    refine V3.VFrom.cons (V3.VStep.val _ rfl _ rfl (.pointer (some ⟨D, 4, none⟩)) rfl rfl (fun ev wq hS he hr => ?_)) ?_
                    · have r0 : ev (.tmp 2) = .pointer (some ⟨D, 0, none⟩) := hr (2, none) (by simp); have hk := he.1; clear hr he
                      go_simp
                    refine V3.VFrom.cons (V3.VStep.val _ rfl _ rfl (.int .i64 nd) rfl rfl (fun ev wq hS he hr => ?_)) ?_
                    · have r0 : ev (.tmp 102) = .pointer (some ⟨D, 4, none⟩) := hr (102, some 37) (by simp); have hk := he.1; clear hr he
                      have c0 := (show wq.cell? ⟨D, 4, none⟩ = some (.int .i64 nd) from (HF7.out.box.kept hS.out (fun h => h)).cell 4)
                      go_simp
                    refine V3.VFrom.cons (V3.VStep.val _ rfl _ rfl (.bool eN) rfl rfl (fun ev wq hS he hr => ?_)) ?_
                    · have r0 : ev (.tmp 101) = .int .i64 xn := hr (101, some 36) (by simp); have r1 : ev (.tmp 103) = .int .i64 nd := hr (103, some 38) (by simp); have hk := he.1; clear hr he
                      have e1 := HEN.out
                      go_simp
                    refine V3.VFrom.cons (V3.VStep.val _ rfl _ rfl (.bool eN) rfl rfl (fun ev wq hS he hr => ?_)) ?_
                    · have r0 : ev (.tmp 99) = .bool true := hr (99, some 34) (by simp); have r1 : ev (.tmp 104) = .bool eN := hr (104, some 39) (by simp); have hk := he.1; clear hr he
                      go_simp
                    refine V3.VFrom.cons (V3.VStep.val _ rfl _ rfl (.bool false) rfl rfl (fun ev wq hS he hr => ?_)) ?_
                    · have r0 : ev (.tmp 97) = .bool eN := hr (97, some 32) (by simp); have r1 : ev (.tmp 105) = .bool eN := hr (105, some 40) (by simp); have hk := he.1; clear hr he
                      go_simp
                    refine V3.VFrom.cons (V3.VStep.val _ rfl _ rfl (.bool false) rfl trivial (fun ev wq hS he hr => ?_)) ?_
                    · have r0 : ev (.tmp 94) = .bool false := hr (94, some 29) (by simp); have r1 : ev (.tmp 106) = .bool false := hr (106, some 41) (by simp); have hk := he.1; clear hr he
                      go_simp
                    refine V3.VFrom.cons (V3.VStep.val _ rfl _ rfl (.bool false) rfl trivial (fun ev wq hS he hr => ?_)) ?_
                    · have r0 : ev (.tmp 107) = .bool false := hr (107, some 42) (by simp); have hk := he.1; clear hr he
                      go_simp
                    refine V3.VFrom.cons (V3.VStep.val _ rfl _ rfl (.bool true) rfl rfl (fun ev wq hS he hr => ?_)) ?_
                    · have r0 : ev (.tmp 10) = .bool true := hr (10, none) (by simp); have hk := he.1; clear hr he
                      go_simp
                    refine V3.VFrom.cons (V3.VStep.val _ rfl _ rfl (.bool true) rfl rfl (fun ev wq hS he hr => ?_)) ?_
                    · have r0 : ev (.tmp 109) = .bool true := hr (109, some 44) (by simp); have hk := he.1; clear hr he
                      go_simp
                    refine V3.VFrom.cons (V3.VStep.val _ rfl _ rfl (.pointer (some ⟨D, 0, none⟩)) rfl rfl (fun ev wq hS he hr => ?_)) ?_
                    · have r0 : ev (.tmp 2) = .pointer (some ⟨D, 0, none⟩) := hr (2, none) (by simp); have hk := he.1; clear hr he
                      go_simp
                    refine V3.VFrom.cons (V3.VStep.val _ rfl _ rfl (.slice pa nA da) rfl rfl (fun ev wq hS he hr => ?_)) ?_
                    · have r0 : ev (.tmp 111) = .pointer (some ⟨D, 0, none⟩) := hr (111, some 46) (by simp); have hk := he.1; clear hr he
                      have c0 := (show wq.cell? ⟨D, 0, none⟩ = some (.slice pa nA da) from (HF7.out.box.kept hS.out (fun h => h)).cell 0)
                      go_simp
                    refine V3.VFrom.cons (V3.VStep.val _ rfl _ rfl (.pointer (some ⟨M, 0, none⟩)) rfl rfl (fun ev wq hS he hr => ?_)) ?_
                    · have r0 : ev (.tmp 9) = .pointer (some ⟨M, 0, none⟩) := hr (9, none) (by simp); have hk := he.1; clear hr he
                      go_simp
                    refine V3.VFrom.cons (V3.VStep.val _ rfl _ rfl (.int .i64 xn) rfl rfl (fun ev wq hS he hr => ?_)) ?_
                    · have r0 : ev (.tmp 113) = .pointer (some ⟨M, 0, none⟩) := hr (113, some 48) (by simp); have hk := he.1; clear hr he
                      have c0 := (show wq.cell? ⟨M, 0, none⟩ = some (.int .i64 xn) from (HZ7.out.kept hS.out (fun h => h)).cell 0)
                      go_simp
                    refine V3.VFrom.cons (V3.VStep.call _ rfl _ rfl (.int .i64 tp) rfl rfl 26 #[.slice pa nA da, .int .i64 xn] (fun ev wq hS he hr => ?_) (fun wq hS => ?_)) ?_
                    · have r0 : ev (.tmp 112) = .slice pa nA da := hr (112, some 47) (by simp); have r1 : ev (.tmp 114) = .int .i64 xn := hr (114, some 49) (by simp); have hk := he.1; have hf := he.2; clear hr he
                      go_simp
                    · exact (CT.out wq hS.out).mono fun e w' ⟨h1, h2⟩ => ⟨h1, hid (hS.out.trans h2 (fun _ _ h => h))⟩
                    refine V3.VFrom.cons (V3.VStep.val _ rfl _ rfl (.pointer (some ⟨M, 1, none⟩)) rfl rfl (fun ev wq hS he hr => ?_)) ?_
                    · have r0 : ev (.tmp 9) = .pointer (some ⟨M, 0, none⟩) := hr (9, none) (by simp); have hk := he.1; clear hr he
                      go_simp
                    refine V3.VFrom.cons (V3.VStep.val _ rfl _ rfl (.int .i64 xd) rfl rfl (fun ev wq hS he hr => ?_)) ?_
                    · have r0 : ev (.tmp 116) = .pointer (some ⟨M, 1, none⟩) := hr (116, some 51) (by simp); have hk := he.1; clear hr he
                      have c0 := (show wq.cell? ⟨M, 1, none⟩ = some (.int .i64 xd) from (HZ7.out.kept hS.out (fun h => h)).cell 1)
                      go_simp
                    refine V3.VFrom.cons (V3.VStep.val _ rfl _ rfl (.bool false) rfl rfl (fun ev wq hS he hr => ?_)) ?_
                    · have r0 : ev (.tmp 115) = .int .i64 tp := hr (115, some 50) (by simp); have r1 : ev (.tmp 117) = .int .i64 xd := hr (117, some 52) (by simp); have hk := he.1; clear hr he
                      have e1 := HTL.out rfl
                      go_simp
                    refine V3.VFrom.cons (V3.VStep.val _ rfl _ rfl (.bool false) rfl rfl (fun ev wq hS he hr => ?_)) ?_
                    · have r0 : ev (.tmp 110) = .bool true := hr (110, some 45) (by simp); have r1 : ev (.tmp 118) = .bool false := hr (118, some 53) (by simp); have hk := he.1; clear hr he
                      go_simp
                    refine V3.VFrom.cons (V3.VStep.val _ rfl _ rfl (.bool false) rfl trivial (fun ev wq hS he hr => ?_)) ?_
                    · have r0 : ev (.tmp 108) = .bool false := hr (108, some 43) (by simp); have r1 : ev (.tmp 119) = .bool false := hr (119, some 54) (by simp); have hk := he.1; clear hr he
                      go_simp
                    exact V3.VFrom.nil
                  case hS => exact hid (Kp.refl Nb w7).drew
                  case hend =>
                    intro wz hy
                    have KY := hid (HK7.out.trans hy.out (fun _ _ h => h))
                    clear hy
                    simp only [V3.putAll, List.zip_cons_cons, List.zip_nil_right, List.foldl_cons, List.foldl_nil, Act.put, List.setIfInBounds_toArray, List.set_cons_zero, List.set_cons_succ]
                    go_wp2
                    go_roundw
                    case rel => exact ⟨k + 1, by omega, by go_num, KY⟩
                    case measure => simp [intOf]; omega
              | false =>
                simp only [Bool.false_or, Bool.false_and] at CHJ CHW CHO
                cases gd with
                | true =>
                  refine V3.region_vals2 [none, none, none, none, none, none, none, none, none, none, none, none, none, none, none, none, none, none, none, none, none, none, none, none, none, none, none, none, none, none, none, none, none, none, none, none, none, none, none, none, none, none, none, none, none, none, none, none, none, none, none, none, none, none, none, none, none, none, none, none, none, none, none, none, none, some 0, some 1, some 2, some 3, some 4, some 5, some 6, some 7, some 8, some 9, some 10, some 11, some 12, some 13, some 14, some 15, some 16, some 17, some 18, some 19, some 20, some 21, some 22, some 23, some 24, some 25, some 26, some 27, some 28, some 29, some 30, some 31, some 32, some 33, some 34, some 35, some 36, some 37, some 38, some 39, some 40, some 41, some 42, some 43, some 44, some 45, some 46, some 47, some 48, some 49, some 50, some 51, some 52, some 53, some 54, some 55, none, none, none, none, none, none, none, none, none, none, none, none, none, none, none, none, none, none, none, none, none, none, none, none, none, none, none, none, none, none, none, none, none, none, none, none, none] [[(5, none)], [(9, none)], [(65, some 0), (66, some 1)], [(10, none)], [(68, some 3)], [(2, none)], [(70, some 5)], [(9, none)], [(71, some 6), (72, some 7)], [(69, some 4), (73, some 8)], [(67, some 2), (74, some 9)], [(75, some 10)], [(2, none)], [(77, some 12)], [(78, some 13)], [(79, some 14)], [(6, none)], [(9, none)], [(81, some 16), (82, some 17)], [(10, none)], [(84, some 19)], [(9, none)], [(2, none)], [(87, some 22)], [(86, some 21), (88, some 23)], [(85, some 20), (89, some 24)], [(83, some 18), (90, some 25)], [(80, some 15), (91, some 26)], [(76, some 11), (92, some 27)], [(93, some 28)], [(7, none)], [(9, none)], [(95, some 30), (96, some 31)], [(10, none)], [(98, some 33)], [(9, none)], [(100, some 35)], [(2, none)], [(102, some 37)], [(101, some 36), (103, some 38)], [(99, some 34), (104, some 39)], [(97, some 32), (105, some 40)], [(94, some 29), (106, some 41)], [(107, some 42)], [(10, none)], [(109, some 44)], [(2, none)], [(111, some 46)], [(9, none)], [(113, some 48)], [(112, some 47), (114, some 49)], [(9, none)], [(116, some 51)], [(115, some 50), (117, some 52)], [(110, some 45), (118, some 53)], [(108, some 43), (119, some 54)]] [some 65, some 66, some 67, some 68, some 69, some 70, some 71, some 72, some 73, some 74, some 75, some 76, some 77, some 78, some 79, some 80, some 81, some 82, some 83, some 84, some 85, some 86, some 87, some 88, some 89, some 90, some 91, some 92, some 93, some 94, some 95, some 96, some 97, some 98, some 99, some 100, some 101, some 102, some 103, some 104, some 105, some 106, some 107, some 108, some 109, some 110, some 111, some 112, some 113, some 114, some 115, some 116, some 117, some 118, some 119, some 120] [.slice yJ nJ dJ, .agg #[.int .i64 xn, .int .i64 xd], .bool hB, .bool false, .bool false, .pointer (some ⟨D, 1, none⟩), .slice pb nB db, .agg #[.int .i64 xn, .int .i64 xd], .bool hB, .bool hB, .bool false, .bool false, .pointer (some ⟨D, 2, none⟩), .agg #[.int .i64 dn, .int .i64 dd], .bool true, .bool true, .slice yW nW dW, .agg #[.int .i64 xn, .int .i64 xd], .bool eD, .bool false, .bool false, .agg #[.int .i64 xn, .int .i64 xd], .pointer (some ⟨D, 2, none⟩), .agg #[.int .i64 dn, .int .i64 dd], .bool eD, .bool eD, .bool false, .bool false, .bool false, .bool false, .slice yO nO dO, .agg #[.int .i64 xn, .int .i64 xd], .bool false, .bool false, .bool false, undef, undef, undef, undef, undef, .bool false, .bool false, .bool false, .bool false, .bool false, .bool false, undef, undef, undef, undef, undef, undef, undef, undef, .bool false, .bool false] (fun w' => Hid (Kp Nb w7 w')) (by kernel_rfl) (by kernel_rfl) (by kernel_rfl) ?hS (V3.VFrom.all (n := 56) (by kernel_rfl) ?hstep) ?hend
                  case hstep =>
                    refine V3.VFrom.cons (V3.VStep.val _ rfl _ rfl (.slice yJ nJ dJ) rfl trivial (fun ev wq hS he hr => ?_)) ?_
                    · have r0 : ev (.tmp 5) = .slice yJ nJ dJ := hr (5, none) (by simp); have hk := he.1; clear hr he
                      go_simp
                    refine V3.VFrom.cons (V3.VStep.val _ rfl _ rfl (.agg #[.int .i64 xn, .int .i64 xd]) rfl trivial (fun ev wq hS he hr => ?_)) ?_
                    · have r0 : ev (.tmp 9) = .pointer (some ⟨M, 0, none⟩) := hr (9, none) (by simp); have hk := he.1; clear hr he
                      have c0 := (show wq.cell? ⟨M, 0, none⟩ = some (.int .i64 xn) from (HZ7.out.kept hS.out (fun h => h)).cell 0)
                      have c1 := (show wq.cell? ⟨M, 1, none⟩ = some (.int .i64 xd) from (HZ7.out.kept hS.out (fun h => h)).cell 1)
                      go_simp
                    refine V3.VFrom.cons (V3.VStep.call _ rfl _ rfl (.bool hB) rfl trivial 24 #[.slice yJ nJ dJ, .agg #[.int .i64 xn, .int .i64 xd]] (fun ev wq hS he hr => ?_) (fun wq hS => ?_)) ?_
                    · have r0 : ev (.tmp 65) = .slice yJ nJ dJ := hr (65, some 0) (by simp); have r1 : ev (.tmp 66) = .agg #[.int .i64 xn, .int .i64 xd] := hr (66, some 1) (by simp); have hk := he.1; have hf := he.2; clear hr he
                      go_simp
                    · exact (CHJ.out wq hS.out).mono fun e w' ⟨h1, h2⟩ => ⟨h1, hid (hS.out.trans h2 (fun _ _ h => h))⟩
                    refine V3.VFrom.cons (V3.VStep.val _ rfl _ rfl (.bool false) rfl trivial (fun ev wq hS he hr => ?_)) ?_
                    · have r0 : ev (.tmp 10) = .bool false := hr (10, none) (by simp); have hk := he.1; clear hr he
                      go_simp
                    refine V3.VFrom.cons (V3.VStep.val _ rfl _ rfl (.bool false) rfl trivial (fun ev wq hS he hr => ?_)) ?_
                    · have r0 : ev (.tmp 68) = .bool false := hr (68, some 3) (by simp); have hk := he.1; clear hr he
                      go_simp
                    refine V3.VFrom.cons (V3.VStep.val _ rfl _ rfl (.pointer (some ⟨D, 1, none⟩)) rfl rfl (fun ev wq hS he hr => ?_)) ?_
                    · have r0 : ev (.tmp 2) = .pointer (some ⟨D, 0, none⟩) := hr (2, none) (by simp); have hk := he.1; clear hr he
                      go_simp
                    refine V3.VFrom.cons (V3.VStep.val _ rfl _ rfl (.slice pb nB db) rfl rfl (fun ev wq hS he hr => ?_)) ?_
                    · have r0 : ev (.tmp 70) = .pointer (some ⟨D, 1, none⟩) := hr (70, some 5) (by simp); have hk := he.1; clear hr he
                      have c0 := (show wq.cell? ⟨D, 1, none⟩ = some (.slice pb nB db) from (HF7.out.box.kept hS.out (fun h => h)).cell 1)
                      go_simp
                    refine V3.VFrom.cons (V3.VStep.val _ rfl _ rfl (.agg #[.int .i64 xn, .int .i64 xd]) rfl rfl (fun ev wq hS he hr => ?_)) ?_
                    · have r0 : ev (.tmp 9) = .pointer (some ⟨M, 0, none⟩) := hr (9, none) (by simp); have hk := he.1; clear hr he
                      have c0 := (show wq.cell? ⟨M, 0, none⟩ = some (.int .i64 xn) from (HZ7.out.kept hS.out (fun h => h)).cell 0)
                      have c1 := (show wq.cell? ⟨M, 1, none⟩ = some (.int .i64 xd) from (HZ7.out.kept hS.out (fun h => h)).cell 1)
                      go_simp
                    refine V3.VFrom.cons (V3.VStep.call _ rfl _ rfl (.bool hB) rfl rfl 24 #[.slice pb nB db, .agg #[.int .i64 xn, .int .i64 xd]] (fun ev wq hS he hr => ?_) (fun wq hS => ?_)) ?_
                    · have r0 : ev (.tmp 71) = .slice pb nB db := hr (71, some 6) (by simp); have r1 : ev (.tmp 72) = .agg #[.int .i64 xn, .int .i64 xd] := hr (72, some 7) (by simp); have hk := he.1; have hf := he.2; clear hr he
                      go_simp
                    · exact (CHB.out wq hS.out).mono fun e w' ⟨h1, h2⟩ => ⟨h1, hid (hS.out.trans h2 (fun _ _ h => h))⟩
                    refine V3.VFrom.cons (V3.VStep.val _ rfl _ rfl (.bool hB) rfl trivial (fun ev wq hS he hr => ?_)) ?_
                    · have r0 : ev (.tmp 69) = .bool false := hr (69, some 4) (by simp); have r1 : ev (.tmp 73) = .bool hB := hr (73, some 8) (by simp); have hk := he.1; clear hr he
                      go_simp
                    refine V3.VFrom.cons (V3.VStep.val _ rfl _ rfl (.bool false) rfl trivial (fun ev wq hS he hr => ?_)) ?_
                    · have r0 : ev (.tmp 67) = .bool hB := hr (67, some 2) (by simp); have r1 : ev (.tmp 74) = .bool hB := hr (74, some 9) (by simp); have hk := he.1; clear hr he
                      go_simp
                    refine V3.VFrom.cons (V3.VStep.val _ rfl _ rfl (.bool false) rfl trivial (fun ev wq hS he hr => ?_)) ?_
                    · have r0 : ev (.tmp 75) = .bool false := hr (75, some 10) (by simp); have hk := he.1; clear hr he
                      go_simp
                    refine V3.VFrom.cons (V3.VStep.val _ rfl _ rfl (.pointer (some ⟨D, 2, none⟩)) rfl rfl (fun ev wq hS he hr => ?_)) ?_
                    · have r0 : ev (.tmp 2) = .pointer (some ⟨D, 0, none⟩) := hr (2, none) (by simp); have hk := he.1; clear hr he
                      go_simp
                    refine V3.VFrom.cons (V3.VStep.val _ rfl _ rfl (.agg #[.int .i64 dn, .int .i64 dd]) rfl rfl (fun ev wq hS he hr => ?_)) ?_
                    · have r0 : ev (.tmp 77) = .pointer (some ⟨D, 2, none⟩) := hr (77, some 12) (by simp); have hk := he.1; clear hr he
                      have c0 := (show wq.cell? ⟨D, 2, none⟩ = some (.int .i64 dn) from (HF7.out.box.kept hS.out (fun h => h)).cell 2)
                      have c1 := (show wq.cell? ⟨D, 3, none⟩ = some (.int .i64 dd) from (HF7.out.box.kept hS.out (fun h => h)).cell 3)
                      go_simp
                    refine V3.VFrom.cons (V3.VStep.call _ rfl _ rfl (.bool true) rfl rfl 25 #[.agg #[.int .i64 dn, .int .i64 dd]] (fun ev wq hS he hr => ?_) (fun wq hS => ?_)) ?_
                    · have r0 : ev (.tmp 78) = .agg #[.int .i64 dn, .int .i64 dd] := hr (78, some 13) (by simp); have hk := he.1; have hf := he.2; clear hr he
                      go_simp
                    · exact (CG.out wq).mono fun e w' ⟨h1, h2⟩ => ⟨h1, hid (hS.out.trans h2 (fun _ _ h => h))⟩
                    refine V3.VFrom.cons (V3.VStep.val _ rfl _ rfl (.bool true) rfl rfl (fun ev wq hS he hr => ?_)) ?_
                    · have r0 : ev (.tmp 79) = .bool true := hr (79, some 14) (by simp); have hk := he.1; clear hr he
                      go_simp
                    refine V3.VFrom.cons (V3.VStep.val _ rfl _ rfl (.slice yW nW dW) rfl rfl (fun ev wq hS he hr => ?_)) ?_
                    · have r0 : ev (.tmp 6) = .slice yW nW dW := hr (6, none) (by simp); have hk := he.1; clear hr he
                      go_simp
                    refine V3.VFrom.cons (V3.VStep.val _ rfl _ rfl (.agg #[.int .i64 xn, .int .i64 xd]) rfl rfl (fun ev wq hS he hr => ?_)) ?_
                    · have r0 : ev (.tmp 9) = .pointer (some ⟨M, 0, none⟩) := hr (9, none) (by simp); have hk := he.1; clear hr he
                      have c0 := (show wq.cell? ⟨M, 0, none⟩ = some (.int .i64 xn) from (HZ7.out.kept hS.out (fun h => h)).cell 0)
                      have c1 := (show wq.cell? ⟨M, 1, none⟩ = some (.int .i64 xd) from (HZ7.out.kept hS.out (fun h => h)).cell 1)
                      go_simp
                    refine V3.VFrom.cons (V3.VStep.call _ rfl _ rfl (.bool eD) rfl rfl 24 #[.slice yW nW dW, .agg #[.int .i64 xn, .int .i64 xd]] (fun ev wq hS he hr => ?_) (fun wq hS => ?_)) ?_
                    · have r0 : ev (.tmp 81) = .slice yW nW dW := hr (81, some 16) (by simp); have r1 : ev (.tmp 82) = .agg #[.int .i64 xn, .int .i64 xd] := hr (82, some 17) (by simp); have hk := he.1; have hf := he.2; clear hr he
                      go_simp
                    · exact (CHW.out rfl wq hS.out).mono fun e w' ⟨h1, h2⟩ => ⟨h1, hid (hS.out.trans h2 (fun _ _ h => h))⟩
                    refine V3.VFrom.cons (V3.VStep.val _ rfl _ rfl (.bool false) rfl rfl (fun ev wq hS he hr => ?_)) ?_
                    · have r0 : ev (.tmp 10) = .bool false := hr (10, none) (by simp); have hk := he.1; clear hr he
                      go_simp
                    refine V3.VFrom.cons (V3.VStep.val _ rfl _ rfl (.bool false) rfl rfl (fun ev wq hS he hr => ?_)) ?_
                    · have r0 : ev (.tmp 84) = .bool false := hr (84, some 19) (by simp); have hk := he.1; clear hr he
                      go_simp
                    refine V3.VFrom.cons (V3.VStep.val _ rfl _ rfl (.agg #[.int .i64 xn, .int .i64 xd]) rfl rfl (fun ev wq hS he hr => ?_)) ?_
                    · have r0 : ev (.tmp 9) = .pointer (some ⟨M, 0, none⟩) := hr (9, none) (by simp); have hk := he.1; clear hr he
                      have c0 := (show wq.cell? ⟨M, 0, none⟩ = some (.int .i64 xn) from (HZ7.out.kept hS.out (fun h => h)).cell 0)
                      have c1 := (show wq.cell? ⟨M, 1, none⟩ = some (.int .i64 xd) from (HZ7.out.kept hS.out (fun h => h)).cell 1)
                      go_simp
                    refine V3.VFrom.cons (V3.VStep.val _ rfl _ rfl (.pointer (some ⟨D, 2, none⟩)) rfl rfl (fun ev wq hS he hr => ?_)) ?_
                    · have r0 : ev (.tmp 2) = .pointer (some ⟨D, 0, none⟩) := hr (2, none) (by simp); have hk := he.1; clear hr he
                      go_simp
                    refine V3.VFrom.cons (V3.VStep.val _ rfl _ rfl (.agg #[.int .i64 dn, .int .i64 dd]) rfl rfl (fun ev wq hS he hr => ?_)) ?_
                    · have r0 : ev (.tmp 87) = .pointer (some ⟨D, 2, none⟩) := hr (87, some 22) (by simp); have hk := he.1; clear hr he
                      have c0 := (show wq.cell? ⟨D, 2, none⟩ = some (.int .i64 dn) from (HF7.out.box.kept hS.out (fun h => h)).cell 2)
                      have c1 := (show wq.cell? ⟨D, 3, none⟩ = some (.int .i64 dd) from (HF7.out.box.kept hS.out (fun h => h)).cell 3)
                      go_simp
                    refine V3.VFrom.cons (V3.VStep.val _ rfl _ rfl (.bool eD) rfl rfl (fun ev wq hS he hr => ?_)) ?_
                    · have r0 : ev (.tmp 86) = .agg #[.int .i64 xn, .int .i64 xd] := hr (86, some 21) (by simp); have r1 : ev (.tmp 88) = .agg #[.int .i64 dn, .int .i64 dd] := hr (88, some 23) (by simp); have hk := he.1; clear hr he
                      exact exec_eqDot (p := (xn, xd)) (q := (dn, dd)) rfl r0 r1 HDD.out
                    refine V3.VFrom.cons (V3.VStep.val _ rfl _ rfl (.bool eD) rfl rfl (fun ev wq hS he hr => ?_)) ?_
                    · have r0 : ev (.tmp 85) = .bool false := hr (85, some 20) (by simp); have r1 : ev (.tmp 89) = .bool eD := hr (89, some 24) (by simp); have hk := he.1; clear hr he
                      go_simp
                    refine V3.VFrom.cons (V3.VStep.val _ rfl _ rfl (.bool false) rfl rfl (fun ev wq hS he hr => ?_)) ?_
                    · have r0 : ev (.tmp 83) = .bool eD := hr (83, some 18) (by simp); have r1 : ev (.tmp 90) = .bool eD := hr (90, some 25) (by simp); have hk := he.1; clear hr he
                      go_simp
                    refine V3.VFrom.cons (V3.VStep.val _ rfl _ rfl (.bool false) rfl rfl (fun ev wq hS he hr => ?_)) ?_
                    · have r0 : ev (.tmp 80) = .bool true := hr (80, some 15) (by simp); have r1 : ev (.tmp 91) = .bool false := hr (91, some 26) (by simp); have hk := he.1; clear hr he
                      go_simp
                    refine V3.VFrom.cons (V3.VStep.val _ rfl _ rfl (.bool false) rfl trivial (fun ev wq hS he hr => ?_)) ?_
                    · have r0 : ev (.tmp 76) = .bool false := hr (76, some 11) (by simp); have r1 : ev (.tmp 92) = .bool false := hr (92, some 27) (by simp); have hk := he.1; clear hr he
                      go_simp
                    refine V3.VFrom.cons (V3.VStep.val _ rfl _ rfl (.bool false) rfl trivial (fun ev wq hS he hr => ?_)) ?_
                    · have r0 : ev (.tmp 93) = .bool false := hr (93, some 28) (by simp); have hk := he.1; clear hr he
                      go_simp
                    refine V3.VFrom.cons (V3.VStep.val _ rfl _ rfl (.slice yO nO dO) rfl rfl (fun ev wq hS he hr => ?_)) ?_
                    · have r0 : ev (.tmp 7) = .slice yO nO dO := hr (7, none) (by simp); have hk := he.1; clear hr he
                      go_simp
                    refine V3.VFrom.cons (V3.VStep.val _ rfl _ rfl (.agg #[.int .i64 xn, .int .i64 xd]) rfl rfl (fun ev wq hS he hr => ?_)) ?_
                    · have r0 : ev (.tmp 9) = .pointer (some ⟨M, 0, none⟩) := hr (9, none) (by simp); have hk := he.1; clear hr he
                      have c0 := (show wq.cell? ⟨M, 0, none⟩ = some (.int .i64 xn) from (HZ7.out.kept hS.out (fun h => h)).cell 0)
                      have c1 := (show wq.cell? ⟨M, 1, none⟩ = some (.int .i64 xd) from (HZ7.out.kept hS.out (fun h => h)).cell 1)
                      go_simp
                    refine V3.VFrom.cons (V3.VStep.call _ rfl _ rfl (.bool false) rfl rfl 24 #[.slice yO nO dO, .agg #[.int .i64 xn, .int .i64 xd]] (fun ev wq hS he hr => ?_) (fun wq hS => ?_)) ?_
                    · have r0 : ev (.tmp 95) = .slice yO nO dO := hr (95, some 30) (by simp); have r1 : ev (.tmp 96) = .agg #[.int .i64 xn, .int .i64 xd] := hr (96, some 31) (by simp); have hk := he.1; have hf := he.2; clear hr he
                      go_simp
                    · exact (CHO.out wq hS.out).mono fun e w' ⟨h1, h2⟩ => ⟨h1, hid (hS.out.trans h2 (fun _ _ h => h))⟩
                    refine V3.VFrom.cons (V3.VStep.val _ rfl _ rfl (.bool false) rfl rfl (fun ev wq hS he hr => ?_)) ?_
                    · have r0 : ev (.tmp 10) = .bool false := hr (10, none) (by simp); have hk := he.1; clear hr he
                      go_simp
                    refine V3.VFrom.cons (V3.VStep.val _ rfl _ rfl (.bool false) rfl rfl (fun ev wq hS he hr => ?_)) ?_
                    · have r0 : ev (.tmp 98) = .bool false := hr (98, some 33) (by simp); have hk := he.1; clear hr he
                      go_simp
                    refine V3.VFrom.cons (V3.VStep.skip _ rfl rfl rfl) ?_
                    refine V3.VFrom.cons (V3.VStep.skip _ rfl rfl rfl) ?_
                    refine V3.VFrom.cons (V3.VStep.skip _ rfl rfl rfl) ?_
                    refine V3.VFrom.cons (V3.VStep.skip _ rfl rfl rfl) ?_
                    refine V3.VFrom.cons (V3.VStep.skip _ rfl rfl rfl) ?_
                    refine V3.VFrom.cons (V3.VStep.val _ rfl _ rfl (.bool false) rfl rfl (fun ev wq hS he hr => ?_)) ?_
                    · have r0 : ev (.tmp 99) = .bool false := hr (99, some 34) (by simp); have r1 : ev (.tmp 104) = undef := hr (104, some 39) (by simp); have hk := he.1; clear hr he
                      go_simp
                    refine V3.VFrom.cons (V3.VStep.val _ rfl _ rfl (.bool false) rfl rfl (fun ev wq hS he hr => ?_)) ?_
                    · have r0 : ev (.tmp 97) = .bool false := hr (97, some 32) (by simp); have r1 : ev (.tmp 105) = .bool false := hr (105, some 40) (by simp); have hk := he.1; clear hr he
                      go_simp
                    refine V3.VFrom.cons (V3.VStep.val _ rfl _ rfl (.bool false) rfl trivial (fun ev wq hS he hr => ?_)) ?_
                    · have r0 : ev (.tmp 94) = .bool false := hr (94, some 29) (by simp); have r1 : ev (.tmp 106) = .bool false := hr (106, some 41) (by simp); have hk := he.1; clear hr he
                      go_simp
                    refine V3.VFrom.cons (V3.VStep.val _ rfl _ rfl (.bool false) rfl trivial (fun ev wq hS he hr => ?_)) ?_
                    · have r0 : ev (.tmp 107) = .bool false := hr (107, some 42) (by simp); have hk := he.1; clear hr he
                      go_simp
                    refine V3.VFrom.cons (V3.VStep.val _ rfl _ rfl (.bool false) rfl rfl (fun ev wq hS he hr => ?_)) ?_
                    · have r0 : ev (.tmp 10) = .bool false := hr (10, none) (by simp); have hk := he.1; clear hr he
                      go_simp
                    refine V3.VFrom.cons (V3.VStep.val _ rfl _ rfl (.bool false) rfl rfl (fun ev wq hS he hr => ?_)) ?_
                    · have r0 : ev (.tmp 109) = .bool false := hr (109, some 44) (by simp); have hk := he.1; clear hr he
                      go_simp
                    refine V3.VFrom.cons (V3.VStep.skip _ rfl rfl rfl) ?_
                    refine V3.VFrom.cons (V3.VStep.skip _ rfl rfl rfl) ?_
                    refine V3.VFrom.cons (V3.VStep.skip _ rfl rfl rfl) ?_
                    refine V3.VFrom.cons (V3.VStep.skip _ rfl rfl rfl) ?_
                    refine V3.VFrom.cons (V3.VStep.skip _ rfl rfl rfl) ?_
                    refine V3.VFrom.cons (V3.VStep.skip _ rfl rfl rfl) ?_
                    refine V3.VFrom.cons (V3.VStep.skip _ rfl rfl rfl) ?_
                    refine V3.VFrom.cons (V3.VStep.skip _ rfl rfl rfl) ?_
                    refine V3.VFrom.cons (V3.VStep.val _ rfl _ rfl (.bool false) rfl rfl (fun ev wq hS he hr => ?_)) ?_
                    · have r0 : ev (.tmp 110) = .bool false := hr (110, some 45) (by simp); have r1 : ev (.tmp 118) = undef := hr (118, some 53) (by simp); have hk := he.1; clear hr he
                      go_simp
                    refine V3.VFrom.cons (V3.VStep.val _ rfl _ rfl (.bool false) rfl trivial (fun ev wq hS he hr => ?_)) ?_
                    · have r0 : ev (.tmp 108) = .bool false := hr (108, some 43) (by simp); have r1 : ev (.tmp 119) = .bool false := hr (119, some 54) (by simp); have hk := he.1; clear hr he
                      go_simp
                    exact V3.VFrom.nil
                  case hS => exact hid (Kp.refl Nb w7).drew
                  case hend =>
                    intro wz hy
                    have KY := hid (HK7.out.trans hy.out (fun _ _ h => h))
                    clear hy
                    simp only [V3.putAll, List.zip_cons_cons, List.zip_nil_right, List.foldl_cons, List.foldl_nil, Act.put, List.setIfInBounds_toArray, List.set_cons_zero, List.set_cons_succ]
                    go_wp2
                    go_roundw
                    case rel => exact ⟨k + 1, by omega, by go_num, KY⟩
                    case measure => simp [intOf]; omega
                | false =>
                  refine V3.region_vals2 [none, none, none, none, none, none, none, none, none, none, none, none, none, none, none, none, none, none, none, none, none, none, none, none, none, none, none, none, none, none, none, none, none, none, none, none, none, none, none, none, none, none, none, none, none, none, none, none, none, none, none, none, none, none, none, none, none, none, none, none, none, none, none, none, none, some 0, some 1, some 2, some 3, some 4, some 5, some 6, some 7, some 8, some 9, some 10, some 11, some 12, some 13, some 14, some 15, some 16, some 17, some 18, some 19, some 20, some 21, some 22, some 23, some 24, some 25, some 26, some 27, some 28, some 29, some 30, some 31, some 32, some 33, some 34, some 35, some 36, some 37, some 38, some 39, some 40, some 41, some 42, some 43, some 44, some 45, some 46, some 47, some 48, some 49, some 50, some 51, some 52, some 53, some 54, some 55, none, none, none, none, none, none, none, none, none, none, none, none, none, none, none, none, none, none, none, none, none, none, none, none, none, none, none, none, none, none, none, none, none, none, none, none, none] [[(5, none)], [(9, none)], [(65, some 0), (66, some 1)], [(10, none)], [(68, some 3)], [(2, none)], [(70, some 5)], [(9, none)], [(71, some 6), (72, some 7)], [(69, some 4), (73, some 8)], [(67, some 2), (74, some 9)], [(75, some 10)], [(2, none)], [(77, some 12)], [(78, some 13)], [(79, some 14)], [(6, none)], [(9, none)], [(81, some 16), (82, some 17)], [(10, none)], [(84, some 19)], [(9, none)], [(2, none)], [(87, some 22)], [(86, some 21), (88, some 23)], [(85, some 20), (89, some 24)], [(83, some 18), (90, some 25)], [(80, some 15), (91, some 26)], [(76, some 11), (92, some 27)], [(93, some 28)], [(7, none)], [(9, none)], [(95, some 30), (96, some 31)], [(10, none)], [(98, some 33)], [(9, none)], [(100, some 35)], [(2, none)], [(102, some 37)], [(101, some 36), (103, some 38)], [(99, some 34), (104, some 39)], [(97, some 32), (105, some 40)], [(94, some 29), (106, some 41)], [(107, some 42)], [(10, none)], [(109, some 44)], [(2, none)], [(111, some 46)], [(9, none)], [(113, some 48)], [(112, some 47), (114, some 49)], [(9, none)], [(116, some 51)], [(115, some 50), (117, some 52)], [(110, some 45), (118, some 53)], [(108, some 43), (119, some 54)]] [some 65, some 66, some 67, some 68, some 69, some 70, some 71, some 72, some 73, some 74, some 75, some 76, some 77, some 78, some 79, some 80, some 81, some 82, some 83, some 84, some 85, some 86, some 87, some 88, some 89, some 90, some 91, some 92, some 93, some 94, some 95, some 96, some 97, some 98, some 99, some 100, some 101, some 102, some 103, some 104, some 105, some 106, some 107, some 108, some 109, some 110, some 111, some 112, some 113, some 114, some 115, some 116, some 117, some 118, some 119, some 120] [.slice yJ nJ dJ, .agg #[.int .i64 xn, .int .i64 xd], .bool hB, .bool false, .bool false, .pointer (some ⟨D, 1, none⟩), .slice pb nB db, .agg #[.int .i64 xn, .int .i64 xd], .bool hB, .bool hB, .bool false, .bool false, .pointer (some ⟨D, 2, none⟩), .agg #[.int .i64 dn, .int .i64 dd], .bool false, .bool false, undef, undef, undef, undef, undef, undef, undef, undef, undef, undef, undef, .bool false, .bool false, .bool false, .slice yO nO dO, .agg #[.int .i64 xn, .int .i64 xd], .bool false, .bool false, .bool false, undef, undef, undef, undef, undef, .bool false, .bool false, .bool false, .bool false, .bool false, .bool false, undef, undef, undef, undef, undef, undef, undef, undef, .bool false, .bool false] (fun w' => Hid (Kp Nb w7 w')) (by kernel_rfl) (by kernel_rfl) (by kernel_rfl) ?hS (V3.VFrom.all (n := 56) (by kernel_rfl) ?hstep) ?hend
                  case hstep =>
                    refine V3.VFrom.cons (V3.VStep.val _ rfl _ rfl (.slice yJ nJ dJ) rfl trivial (fun ev wq hS he hr => ?_)) ?_
                    · have r0 : ev (.tmp 5) = .slice yJ nJ dJ := hr (5, none) (by simp); have hk := he.1; clear hr he
                      go_simp
                    refine V3.VFrom.cons (V3.VStep.val _ rfl _ rfl (.agg #[.int .i64 xn, .int .i64 xd]) rfl trivial (fun ev wq hS he hr => ?_)) ?_
                    · have r0 : ev (.tmp 9) = .pointer (some ⟨M, 0, none⟩) := hr (9, none) (by simp); have hk := he.1; clear hr he
                      have c0 := (show wq.cell? ⟨M, 0, none⟩ = some (.int .i64 xn) from (HZ7.out.kept hS.out (fun h => h)).cell 0)
                      have c1 := (show wq.cell? ⟨M, 1, none⟩ = some (.int .i64 xd) from (HZ7.out.kept hS.out (fun h => h)).cell 1)
                      go_simp
                    refine V3.VFrom.cons (V3.VStep.call _ rfl _ rfl (.bool hB) rfl trivial 24 #[.slice yJ nJ dJ, .agg #[.int .i64 xn, .int .i64 xd]] (fun ev wq hS he hr => ?_) (fun wq hS => ?_)) ?_
                    · have r0 : ev (.tmp 65) = .slice yJ nJ dJ := hr (65, some 0) (by simp); have r1 : ev (.tmp 66) = .agg #[.int .i64 xn, .int .i64 xd] := hr (66, some 1) (by simp); have hk := he.1; have hf := he.2; clear hr he
                      go_simp
                    · exact (CHJ.out wq hS.out).mono fun e w' ⟨h1, h2⟩ => ⟨h1, hid (hS.out.trans h2 (fun _ _ h => h))⟩
                    refine V3.VFrom.cons (V3.VStep.val _ rfl _ rfl (.bool false) rfl trivial (fun ev wq hS he hr => ?_)) ?_
                    · have r0 : ev (.tmp 10) = .bool false := hr (10, none) (by simp); have hk := he.1; clear hr he
                      go_simp
                    refine V3.VFrom.cons (V3.VStep.val _ rfl _ rfl (.bool false) rfl trivial (fun ev wq hS he hr => ?_)) ?_
                    · have r0 : ev (.tmp 68) = .bool false := hr (68, some 3) (by simp); have hk := he.1; clear hr he
                      go_simp
                    refine V3.VFrom.cons (V3.VStep.val _ rfl _ rfl (.pointer (some ⟨D, 1, none⟩)) rfl rfl (fun ev wq hS he hr => ?_)) ?_
                    · have r0 : ev (.tmp 2) = .pointer (some ⟨D, 0, none⟩) := hr (2, none) (by simp); have hk := he.1; clear hr he
                      go_simp
                    refine V3.VFrom.cons (V3.VStep.val _ rfl _ rfl (.slice pb nB db) rfl rfl (fun ev wq hS he hr => ?_)) ?_
                    · have r0 : ev (.tmp 70) = .pointer (some ⟨D, 1, none⟩) := hr (70, some 5) (by simp); have hk := he.1; clear hr he
                      have c0 := (show wq.cell? ⟨D, 1, none⟩ = some (.slice pb nB db) from (HF7.out.box.kept hS.out (fun h => h)).cell 1)
                      go_simp
                    refine V3.VFrom.cons (V3.VStep.val _ rfl _ rfl (.agg #[.int .i64 xn, .int .i64 xd]) rfl rfl (fun ev wq hS he hr => ?_)) ?_
                    · have r0 : ev (.tmp 9) = .pointer (some ⟨M, 0, none⟩) := hr (9, none) (by simp); have hk := he.1; clear hr he
                      have c0 := (show wq.cell? ⟨M, 0, none⟩ = some (.int .i64 xn) from (HZ7.out.kept hS.out (fun h => h)).cell 0)
                      have c1 := (show wq.cell? ⟨M, 1, none⟩ = some (.int .i64 xd) from (HZ7.out.kept hS.out (fun h => h)).cell 1)
                      go_simp
                    refine V3.VFrom.cons (V3.VStep.call _ rfl _ rfl (.bool hB) rfl rfl 24 #[.slice pb nB db, .agg #[.int .i64 xn, .int .i64 xd]] (fun ev wq hS he hr => ?_) (fun wq hS => ?_)) ?_
                    · have r0 : ev (.tmp 71) = .slice pb nB db := hr (71, some 6) (by simp); have r1 : ev (.tmp 72) = .agg #[.int .i64 xn, .int .i64 xd] := hr (72, some 7) (by simp); have hk := he.1; have hf := he.2; clear hr he
                      go_simp
                    · exact (CHB.out wq hS.out).mono fun e w' ⟨h1, h2⟩ => ⟨h1, hid (hS.out.trans h2 (fun _ _ h => h))⟩
                    refine V3.VFrom.cons (V3.VStep.val _ rfl _ rfl (.bool hB) rfl trivial (fun ev wq hS he hr => ?_)) ?_
                    · have r0 : ev (.tmp 69) = .bool false := hr (69, some 4) (by simp); have r1 : ev (.tmp 73) = .bool hB := hr (73, some 8) (by simp); have hk := he.1; clear hr he
                      go_simp
                    refine V3.VFrom.cons (V3.VStep.val _ rfl _ rfl (.bool false) rfl trivial (fun ev wq hS he hr => ?_)) ?_
                    · have r0 : ev (.tmp 67) = .bool hB := hr (67, some 2) (by simp); have r1 : ev (.tmp 74) = .bool hB := hr (74, some 9) (by simp); have hk := he.1; clear hr he
                      go_simp
                    refine V3.VFrom.cons (V3.VStep.val _ rfl _ rfl (.bool false) rfl trivial (fun ev wq hS he hr => ?_)) ?_
                    · have r0 : ev (.tmp 75) = .bool false := hr (75, some 10) (by simp); have hk := he.1; clear hr he
                      go_simp
                    refine V3.VFrom.cons (V3.VStep.val _ rfl _ rfl (.pointer (some ⟨D, 2, none⟩)) rfl rfl (fun ev wq hS he hr => ?_)) ?_
                    · have r0 : ev (.tmp 2) = .pointer (some ⟨D, 0, none⟩) := hr (2, none) (by simp); have hk := he.1; clear hr he
                      go_simp
                    refine V3.VFrom.cons (V3.VStep.val _ rfl _ rfl (.agg #[.int .i64 dn, .int .i64 dd]) rfl rfl (fun ev wq hS he hr => ?_)) ?_
                    · have r0 : ev (.tmp 77) = .pointer (some ⟨D, 2, none⟩) := hr (77, some 12) (by simp); have hk := he.1; clear hr he
                      have c0 := (show wq.cell? ⟨D, 2, none⟩ = some (.int .i64 dn) from (HF7.out.box.kept hS.out (fun h => h)).cell 2)
                      have c1 := (show wq.cell? ⟨D, 3, none⟩ = some (.int .i64 dd) from (HF7.out.box.kept hS.out (fun h => h)).cell 3)
                      go_simp
                    refine V3.VFrom.cons (V3.VStep.call _ rfl _ rfl (.bool false) rfl rfl 25 #[.agg #[.int .i64 dn, .int .i64 dd]] (fun ev wq hS he hr => ?_) (fun wq hS => ?_)) ?_
                    · have r0 : ev (.tmp 78) = .agg #[.int .i64 dn, .int .i64 dd] := hr (78, some 13) (by simp); have hk := he.1; have hf := he.2; clear hr he
                      go_simp
                    · exact (CG.out wq).mono fun e w' ⟨h1, h2⟩ => ⟨h1, hid (hS.out.trans h2 (fun _ _ h => h))⟩
                    refine V3.VFrom.cons (V3.VStep.val _ rfl _ rfl (.bool false) rfl rfl (fun ev wq hS he hr => ?_)) ?_
                    · have r0 : ev (.tmp 79) = .bool false := hr (79, some 14) (by simp); have hk := he.1; clear hr he
                      go_simp
                    refine V3.VFrom.cons (V3.VStep.skip _ rfl rfl rfl) ?_
                    refine V3.VFrom.cons (V3.VStep.skip _ rfl rfl rfl) ?_
                    refine V3.VFrom.cons (V3.VStep.skip _ rfl rfl rfl) ?_
                    refine V3.VFrom.cons (V3.VStep.skip _ rfl rfl rfl) ?_
                    refine V3.VFrom.cons (V3.VStep.skip _ rfl rfl rfl) ?_
                    refine V3.VFrom.cons (V3.VStep.skipU _ rfl rfl rfl) ?_
                    refine V3.VFrom.cons (V3.VStep.skipU _ rfl rfl rfl) ?_
                    refine V3.VFrom.cons (V3.VStep.skipU _ rfl rfl rfl) ?_
                    refine V3.VFrom.cons (V3.VStep.skipU _ rfl rfl rfl) ?_
                    refine V3.VFrom.cons (V3.VStep.skip _ rfl rfl rfl) ?_
                    refine V3.VFrom.cons (V3.VStep.skip _ rfl rfl rfl) ?_
                    refine V3.VFrom.cons (V3.VStep.val _ rfl _ rfl (.bool false) rfl rfl (fun ev wq hS he hr => ?_)) ?_
                    · have r0 : ev (.tmp 80) = .bool false := hr (80, some 15) (by simp); have r1 : ev (.tmp 91) = undef := hr (91, some 26) (by simp); have hk := he.1; clear hr he
                      go_simp
                    refine V3.VFrom.cons (V3.VStep.val _ rfl _ rfl (.bool false) rfl trivial (fun ev wq hS he hr => ?_)) ?_
                    · have r0 : ev (.tmp 76) = .bool false := hr (76, some 11) (by simp); have r1 : ev (.tmp 92) = .bool false := hr (92, some 27) (by simp); have hk := he.1; clear hr he
                      go_simp
                    refine V3.VFrom.cons (V3.VStep.val _ rfl _ rfl (.bool false) rfl trivial (fun ev wq hS he hr => ?_)) ?_
                    · have r0 : ev (.tmp 93) = .bool false := hr (93, some 28) (by simp); have hk := he.1; clear hr he
                      go_simp
                    refine V3.VFrom.cons (V3.VStep.val _ rfl _ rfl (.slice yO nO dO) rfl rfl (fun ev wq hS he hr => ?_)) ?_
                    · have r0 : ev (.tmp 7) = .slice yO nO dO := hr (7, none) (by simp); have hk := he.1; clear hr he
                      go_simp
                    refine V3.VFrom.cons (V3.VStep.val _ rfl _ rfl (.agg #[.int .i64 xn, .int .i64 xd]) rfl rfl (fun ev wq hS he hr => ?_)) ?_
                    · have r0 : ev (.tmp 9) = .pointer (some ⟨M, 0, none⟩) := hr (9, none) (by simp); have hk := he.1; clear hr he
                      have c0 := (show wq.cell? ⟨M, 0, none⟩ = some (.int .i64 xn) from (HZ7.out.kept hS.out (fun h => h)).cell 0)
                      have c1 := (show wq.cell? ⟨M, 1, none⟩ = some (.int .i64 xd) from (HZ7.out.kept hS.out (fun h => h)).cell 1)
                      go_simp
                    refine V3.VFrom.cons (V3.VStep.call _ rfl _ rfl (.bool false) rfl rfl 24 #[.slice yO nO dO, .agg #[.int .i64 xn, .int .i64 xd]] (fun ev wq hS he hr => ?_) (fun wq hS => ?_)) ?_
                    · have r0 : ev (.tmp 95) = .slice yO nO dO := hr (95, some 30) (by simp); have r1 : ev (.tmp 96) = .agg #[.int .i64 xn, .int .i64 xd] := hr (96, some 31) (by simp); have hk := he.1; have hf := he.2; clear hr he
                      go_simp
                    · exact (CHO.out wq hS.out).mono fun e w' ⟨h1, h2⟩ => ⟨h1, hid (hS.out.trans h2 (fun _ _ h => h))⟩
                    refine V3.VFrom.cons (V3.VStep.val _ rfl _ rfl (.bool false) rfl rfl (fun ev wq hS he hr => ?_)) ?_
                    · have r0 : ev (.tmp 10) = .bool false := hr (10, none) (by simp); have hk := he.1; clear hr he
                      go_simp
                    refine V3.VFrom.cons (V3.VStep.val _ rfl _ rfl (.bool false) rfl rfl (fun ev wq hS he hr => ?_)) ?_
                    · have r0 : ev (.tmp 98) = .bool false := hr (98, some 33) (by simp); have hk := he.1; clear hr he
                      go_simp
                    refine V3.VFrom.cons (V3.VStep.skip _ rfl rfl rfl) ?_
                    refine V3.VFrom.cons (V3.VStep.skip _ rfl rfl rfl) ?_
                    refine V3.VFrom.cons (V3.VStep.skip _ rfl rfl rfl) ?_
                    refine V3.VFrom.cons (V3.VStep.skip _ rfl rfl rfl) ?_
                    refine V3.VFrom.cons (V3.VStep.skip _ rfl rfl rfl) ?_
                    refine V3.VFrom.cons (V3.VStep.val _ rfl _ rfl (.bool false) rfl rfl (fun ev wq hS he hr => ?_)) ?_
                    · have r0 : ev (.tmp 99) = .bool false := hr (99, some 34) (by simp); have r1 : ev (.tmp 104) = undef := hr (104, some 39) (by simp); have hk := he.1; clear hr he
                      go_simp
                    refine V3.VFrom.cons (V3.VStep.val _ rfl _ rfl (.bool false) rfl rfl (fun ev wq hS he hr => ?_)) ?_
                    · have r0 : ev (.tmp 97) = .bool false := hr (97, some 32) (by simp); have r1 : ev (.tmp 105) = .bool false := hr (105, some 40) (by simp); have hk := he.1; clear hr he
                      go_simp
                    refine V3.VFrom.cons (V3.VStep.val _ rfl _ rfl (.bool false) rfl trivial (fun ev wq hS he hr => ?_)) ?_
                    · have r0 : ev (.tmp 94) = .bool false := hr (94, some 29) (by simp); have r1 : ev (.tmp 106) = .bool false := hr (106, some 41) (by simp); have hk := he.1; clear hr he
                      go_simp
                    refine V3.VFrom.cons (V3.VStep.val _ rfl _ rfl (.bool false) rfl trivial (fun ev wq hS he hr => ?_)) ?_
                    · have r0 : ev (.tmp 107) = .bool false := hr (107, some 42) (by simp); have hk := he.1; clear hr he
                      go_simp
                    refine V3.VFrom.cons (V3.VStep.val _ rfl _ rfl (.bool false) rfl rfl (fun ev wq hS he hr => ?_)) ?_
                    · have r0 : ev (.tmp 10) = .bool false := hr (10, none) (by simp); have hk := he.1; clear hr he
                      go_simp
                    refine V3.VFrom.cons (V3.VStep.val _ rfl _ rfl (.bool false) rfl rfl (fun ev wq hS he hr => ?_)) ?_
                    · have r0 : ev (.tmp 109) = .bool false := hr (109, some 44) (by simp); have hk := he.1; clear hr he
                      go_simp
                    refine V3.VFrom.cons (V3.VStep.skip _ rfl rfl rfl) ?_
                    refine V3.VFrom.cons (V3.VStep.skip _ rfl rfl rfl) ?_
                    refine V3.VFrom.cons (V3.VStep.skip _ rfl rfl rfl) ?_
                    refine V3.VFrom.cons (V3.VStep.skip _ rfl rfl rfl) ?_
                    refine V3.VFrom.cons (V3.VStep.skip _ rfl rfl rfl) ?_
                    refine V3.VFrom.cons (V3.VStep.skip _ rfl rfl rfl) ?_
                    refine V3.VFrom.cons (V3.VStep.skip _ rfl rfl rfl) ?_
                    refine V3.VFrom.cons (V3.VStep.skip _ rfl rfl rfl) ?_
                    refine V3.VFrom.cons (V3.VStep.val _ rfl _ rfl (.bool false) rfl rfl (fun ev wq hS he hr => ?_)) ?_
                    · have r0 : ev (.tmp 110) = .bool false := hr (110, some 45) (by simp); have r1 : ev (.tmp 118) = undef := hr (118, some 53) (by simp); have hk := he.1; clear hr he
                      go_simp
                    refine V3.VFrom.cons (V3.VStep.val _ rfl _ rfl (.bool false) rfl trivial (fun ev wq hS he hr => ?_)) ?_
                    · have r0 : ev (.tmp 108) = .bool false := hr (108, some 43) (by simp); have r1 : ev (.tmp 119) = .bool false := hr (119, some 54) (by simp); have hk := he.1; clear hr he
                      go_simp
                    exact V3.VFrom.nil
                  case hS => exact hid (Kp.refl Nb w7).drew
                  case hend =>
                    intro wz hy
                    have KY := hid (HK7.out.trans hy.out (fun _ _ h => h))
                    clear hy
                    simp only [V3.putAll, List.zip_cons_cons, List.zip_nil_right, List.foldl_cons, List.foldl_nil, Act.put, List.setIfInBounds_toArray, List.set_cons_zero, List.set_cons_succ]
                    go_wp2
                    go_roundw
                    case rel => exact ⟨k + 1, by omega, by go_num, KY⟩
                    case measure => simp [intOf]; omega
            · obtain rfl : k = nQ := by omega
              have HF := HFR
              have HR := hid (HR.out.kept HK.out)
              clear HFR HK HRQ HQ HQL hlt hk HNQ
              have HCF := count_facts HRA.out HRB.out
              rw [HJE.out] at HCF
              have hcA := countC_le (c := a) (n := 40) HLE.out.1 (by decide)
              have hcB := countC_le (c := b) (n := 40) HLE.out.2 (by decide)
              have hcJ := countC_le (c := J) (n := 80) HJL.out (by decide)
              obtain ⟨xA, hxA⟩ : ∃ x, countC a = x := ⟨_, rfl⟩
              obtain ⟨xB, hxB⟩ : ∃ x, countC b = x := ⟨_, rfl⟩
              obtain ⟨xJ, hxJ⟩ : ∃ x, countC J = x := ⟨_, rfl⟩
              rw [hxA, hxB, hxJ] at HCF
              rw [hxA] at hcA
              rw [hxB] at hcB
              rw [hxJ] at hcJ
              have CA : Hid (∀ wq, Kp Nb wr wq → Calls Tryd.prog 27 #[.slice pa nA da] wq fun e w' => e = .returned (.int .i64 xA) ∧ Kp Nb wq w') := hid (fun wq k => by rw [← hxA]; exact count_any _ a wq (HF.out.ha.kept k) (by have := HLE.out; omega))
              have CB : Hid (∀ wq, Kp Nb wr wq → Calls Tryd.prog 27 #[.slice pb nB db] wq fun e w' => e = .returned (.int .i64 xB) ∧ Kp Nb wq w') := hid (fun wq k => by rw [← hxB]; exact count_any _ b wq (HF.out.hb.kept k) (by have := HLE.out; omega))
              have CJ : Hid (∀ wq, Kp Nb wr wq → Calls Tryd.prog 27 #[.slice yJ nJ dJ] wq fun e w' => e = .returned (.int .i64 xJ) ∧ Kp Nb wq w') := hid (fun wq k => by rw [← hxJ]; exact count_any _ J wq (HR.out.hj.kept k) (by have := HJL.out; omega))
              obtain ⟨mm, hmm⟩ : ∃ m, meetsF a b = m := ⟨_, rfl⟩
              have CM : Hid (∀ wq, Kp Nb wr wq → Calls Tryd.prog 28 #[.slice pa nA da, .slice pb nB db] wq fun e w' => ∃ y d, e = .returned (.slice y mm.length d) ∧ Kp Nb wq w') := hid (fun wq k =>
                (meets_any _ _ a b wq (HF.out.ha.kept k) (HF.out.hb.kept k) (by have := HLE.out; omega) (by have := HLE.out; omega)).mono fun e w' ⟨v, h1, h2, _, h4⟩ => by
                  rw [hmm] at h2
                  obtain ⟨y, d, rfl⟩ := h2.shape
                  exact ⟨y, d, h1, h4⟩)
              rw [hmm] at HCF
              have HME : Hid (xJ = xA + xB ↔ mm.length = 0) := hid (by rw [HCF.2.2.2, List.length_eq_zero_iff])
              obtain ⟨nM, hnM⟩ : ∃ n, mm.length = n := ⟨_, rfl⟩
              rw [hnM] at CM HME
              obtain ⟨s, hs⟩ : ∃ s, xA + xB = s := ⟨_, rfl⟩
              rw [hs] at HCF HME
              have ws : IntKind.i64.wrap (xA + xB) = s := by rw [hs]; exact IntWalk.i64_in _ (by omega)
              obtain ⟨mx, hmx⟩ : ∃ x, max xA xB = x := ⟨_, rfl⟩
              have l1 : xJ ≤ s := HCF.1
              have l2 : mx ≤ xJ := by rw [← hmx]; omega
              have HB0 := hid HF.out.box
              have kh := hid (Kp.refl Nb wr)
              clear hxA hxB hxJ hmm hnM hs hcA hcB hcJ HCF
              go_wp2_with fail
              refine region_vals2 [none, none, none, none, none, none, none, none, none, none, none, some 6, some 7, none, none, none, none, none, none, none, none, none, none, none, none, none, none, none, none, none, none, none, none, none, none, none, none, none, none, none, none, none, none, none, none, none, none, none, none, none, none, none, none, none, none, none, none, none, none, none, none, none, none, none, none, none, none, none, none, none, none, none, none, none, none, none, none, none, none, none, none, none, none, none, none, none, none, none, none, none, none, none, none, none, none, none, none, none, none, none, none, none, none, none, none, none, none, none, none, none, none, none, none, none, none, none, none, none, none, none, none, none, some 0, some 1, some 2, some 3, some 4, some 5, none, none, none, none, none, none, none, none, none, none, none, none, none, none, none, none, none, none, none, none, none, none, none, none, none, none, none, none, none, none] [[(2, none)], [(122, some 0)], [(123, some 1)], [(2, none)], [(125, some 3)], [(126, some 4)], [(124, some 2)], [(127, some 5)]] [some 122, some 123, some 124, some 125, some 126, some 127, some 11, some 12] [.pointer (some ⟨D, 0, none⟩), .slice pa nA da, .int .i64 xA, .pointer (some ⟨D, 1, none⟩), .slice pb nB db, .int .i64 xB, .int .i64 xA, .int .i64 xB] (fun w' => Hid (Kp Nb wr w')) (by kernel_rfl) (by kernel_rfl) (by kernel_rfl) ?hS (VFrom.all (n := 8) (by kernel_rfl) ?hstep) ?hend
              case hstep =>
                refine VFrom.cons (VStep.val _ rfl _ rfl (.pointer (some ⟨D, 0, none⟩)) rfl trivial (fun ev wq hS he hr => ?_)) ?_
                · have r0 : ev (.tmp 2) = .pointer (some ⟨D, 0, none⟩) := hr (2, none) (by simp); have hk := he.1; clear hr he
                  go_simp
                refine VFrom.cons (VStep.val _ rfl _ rfl (.slice pa nA da) rfl trivial (fun ev wq hS he hr => ?_)) ?_
                · have r0 : ev (.tmp 122) = .pointer (some ⟨D, 0, none⟩) := hr (122, some 0) (by simp); have hk := he.1; clear hr he
                  have c0 := (show wq.cell? ⟨D, 0, none⟩ = some (.slice pa nA da) from (HB0.out.kept hS.out (fun h => h)).cell 0)
                  go_simp
                refine VFrom.cons (VStep.call _ rfl _ rfl (.int .i64 xA) rfl trivial 27 #[.slice pa nA da] (fun ev wq hS he hr => ?_) (fun wq hS => ?_)) ?_
                · have r0 : ev (.tmp 123) = .slice pa nA da := hr (123, some 1) (by simp); have hk := he.1; have hf := he.2; clear hr he
                  go_simp
                · exact (CA.out wq hS.out).mono fun e w' ⟨h1, h2⟩ => ⟨h1, hid (hS.out.trans h2 (fun _ _ h => h))⟩
                refine VFrom.cons (VStep.val _ rfl _ rfl (.pointer (some ⟨D, 1, none⟩)) rfl trivial (fun ev wq hS he hr => ?_)) ?_
                · have r0 : ev (.tmp 2) = .pointer (some ⟨D, 0, none⟩) := hr (2, none) (by simp); have hk := he.1; clear hr he
                  go_simp
                refine VFrom.cons (VStep.val _ rfl _ rfl (.slice pb nB db) rfl trivial (fun ev wq hS he hr => ?_)) ?_
                · have r0 : ev (.tmp 125) = .pointer (some ⟨D, 1, none⟩) := hr (125, some 3) (by simp); have hk := he.1; clear hr he
                  have c0 := (show wq.cell? ⟨D, 1, none⟩ = some (.slice pb nB db) from (HB0.out.kept hS.out (fun h => h)).cell 1)
                  go_simp
                refine VFrom.cons (VStep.call _ rfl _ rfl (.int .i64 xB) rfl trivial 27 #[.slice pb nB db] (fun ev wq hS he hr => ?_) (fun wq hS => ?_)) ?_
                · have r0 : ev (.tmp 126) = .slice pb nB db := hr (126, some 4) (by simp); have hk := he.1; have hf := he.2; clear hr he
                  go_simp
                · exact (CB.out wq hS.out).mono fun e w' ⟨h1, h2⟩ => ⟨h1, hid (hS.out.trans h2 (fun _ _ h => h))⟩
                refine VFrom.cons (VStep.val _ rfl _ rfl (.int .i64 xA) rfl trivial (fun ev wq hS he hr => ?_)) ?_
                · have r0 : ev (.tmp 124) = .int .i64 xA := hr (124, some 2) (by simp); have hk := he.1; clear hr he
                  go_simp
                refine VFrom.cons (VStep.val _ rfl _ rfl (.int .i64 xB) rfl trivial (fun ev wq hS he hr => ?_)) ?_
                · have r0 : ev (.tmp 127) = .int .i64 xB := hr (127, some 5) (by simp); have hk := he.1; clear hr he
                  go_simp
                exact VFrom.nil
              case hS => exact hid (Kp.refl Nb wr).drew
              case hend =>
                intro w13 hy
                have K13 := hid hy.out
                clear hy
                simp only [putAll, List.zip_cons_cons, List.zip_nil_right, List.foldl_cons, List.foldl_nil, Act.put, List.setIfInBounds_toArray, List.set_cons_zero, List.set_cons_succ]
                have WS := hid ws
                have MXE := hid hmx
                have L1 := hid l1
                have L2 := hid l2
                clear ws hmx l1 l2 kh
                by_cases hz : nM = 0
                · have F2 : Hid ((xJ == s) = true) := hid (beq_iff_eq.2 (HME.out.2 hz))
                  have F4 : Hid (((nM : Int) == 0) = true) := hid (by rw [hz]; rfl)
                  clear hz
                  go_wp2_with fail
                  refine region_ghost (g0 := ((none, 0) : Option Addr × Nat)) [none, none, none, none, some 30, none, none, none, none, none, none, none, none, none, none, none, none, none, none, none, none, none, none, none, none, none, none, none, none, none, none, none, none, none, none, none, none, none, none, none, none, none, none, none, none, none, none, none, none, none, none, none, none, none, none, none, none, none, none, none, none, none, none, none, none, none, none, none, none, none, none, none, none, none, none, none, none, none, none, none, none, none, none, none, none, none, none, none, none, none, none, none, none, none, none, none, none, none, none, none, none, none, none, none, none, none, none, none, none, none, none, none, none, none, none, none, none, none, none, none, none, none, none, none, none, none, none, none, some 0, some 1, some 2, some 3, some 4, some 5, some 6, some 7, some 8, some 9, some 10, some 11, some 12, some 13, some 14, some 15, some 16, some 17, some 18, some 19, some 20, some 21, some 22, some 23, some 24, some 25, some 26, some 27, some 28, some 29] [[(5, none)], [(128, some 0)], [(11, none)], [(12, none)], [(130, some 2), (131, some 3)], [(129, some 1), (132, some 4)], [(133, some 5)], [(5, none)], [(135, some 7)], [(11, none)], [(12, none)], [(137, some 9), (138, some 10)], [(136, some 8), (139, some 11)], [(134, some 6), (140, some 12)], [(141, some 13)], [(5, none)], [(143, some 15)], [(11, none)], [(12, none)], [(145, some 17), (146, some 18)], [(144, some 16), (147, some 19)], [(2, none)], [(149, some 21)], [(2, none)], [(151, some 23)], [(150, some 22), (152, some 24)], [(153, some 25)], [(154, some 26)], [(148, some 20), (155, some 27)], [(142, some 14), (156, some 28)], [(157, some 29)]] [some 128, some 129, some 130, some 131, some 132, some 133, some 134, some 135, some 136, some 137, some 138, some 139, some 140, some 141, some 142, some 143, some 144, some 145, some 146, some 147, some 148, some 149, some 150, some 151, some 152, some 153, some 154, some 155, some 156, some 157, some 4] (fun g => [.slice yJ nJ dJ, .int .i64 xJ, .int .i64 xA, .int .i64 xB, .int .i64 s, .bool true, .bool true, .slice yJ nJ dJ, .int .i64 xJ, .int .i64 xA, .int .i64 xB, .int .i64 mx, .bool true, .bool true, .bool true, .slice yJ nJ dJ, .int .i64 xJ, .int .i64 xA, .int .i64 xB, .int .i64 s, .bool true, .pointer (some ⟨D, 0, none⟩), .slice pa nA da, .pointer (some ⟨D, 1, none⟩), .slice pb nB db, .slice g.1 nM g.2, .int .i64 (nM : Int), .bool true, .bool true, .bool true, .bool true]) [25] (fun bs g wq => Hid (Kp Nb w13 wq)) (by kernel_rfl) (by kernel_rfl) (fun g => by kernel_rfl) (by kernel_rfl) ?hS (GFrom.all (n := 31) (by kernel_rfl) ?hstep) ?hend
                  case hstep =>
                    refine GFrom.cons (GStep.val _ rfl rfl _ rfl (fun g => .slice yJ nJ dJ) (fun _ => rfl) (fun _ => trivial) (fun bs g ev wq hS he hr => ?_)) ?_
                    · have r0 : ev (.tmp 5) = .slice yJ nJ dJ := hr (5, none) (by simp); have hk := he.1; clear hr he
                      go_simp
                    refine GFrom.cons (GStep.call _ rfl rfl _ rfl (fun g => .int .i64 xJ) (fun _ => rfl) (fun _ => trivial) 27 (fun g => #[.slice yJ nJ dJ]) (fun bs g ev wq hS he hr => ?_) (fun L g wq hd hL hS => ?_)) ?_
                    · have r0 : ev (.tmp 128) = .slice yJ nJ dJ := hr (128, some 0) (by simp); have hk := he.1; have hf := he.2; clear hr he
                      go_simp
                    · exact (CJ.out wq (K13.out.trans hS.out (fun _ _ h => h))).mono fun e w' ⟨h1, h2⟩ => ⟨h1, hid (hS.out.trans h2 (fun _ _ h => h))⟩
                    refine GFrom.cons (GStep.val _ rfl rfl _ rfl (fun g => .int .i64 xA) (fun _ => rfl) (fun _ => trivial) (fun bs g ev wq hS he hr => ?_)) ?_
                    · have r0 : ev (.tmp 11) = .int .i64 xA := hr (11, none) (by simp); have hk := he.1; clear hr he
                      go_simp
                    refine GFrom.cons (GStep.val _ rfl rfl _ rfl (fun g => .int .i64 xB) (fun _ => rfl) (fun _ => trivial) (fun bs g ev wq hS he hr => ?_)) ?_
                    · have r0 : ev (.tmp 12) = .int .i64 xB := hr (12, none) (by simp); have hk := he.1; clear hr he
                      go_simp
                    refine GFrom.cons (GStep.val _ rfl rfl _ rfl (fun g => .int .i64 s) (fun _ => rfl) (fun _ => trivial) (fun bs g ev wq hS he hr => ?_)) ?_
                    · have r0 : ev (.tmp 130) = .int .i64 xA := hr (130, some 2) (by simp); have r1 : ev (.tmp 131) = .int .i64 xB := hr (131, some 3) (by simp); have hk := he.1; clear hr he
                      have e1 := WS.out
                      go_simp
                    refine GFrom.cons (GStep.val _ rfl rfl _ rfl (fun g => .bool true) (fun _ => rfl) (fun _ => trivial) (fun bs g ev wq hS he hr => ?_)) ?_
                    · have r0 : ev (.tmp 129) = .int .i64 xJ := hr (129, some 1) (by simp); have r1 : ev (.tmp 132) = .int .i64 s := hr (132, some 4) (by simp); have hk := he.1; clear hr he
                      have e1 := L1.out
                      go_simp
                    refine GFrom.cons (GStep.val _ rfl rfl _ rfl (fun g => .bool true) (fun _ => rfl) (fun _ => trivial) (fun bs g ev wq hS he hr => ?_)) ?_
                    · have r0 : ev (.tmp 133) = .bool true := hr (133, some 5) (by simp); have hk := he.1; clear hr he
                      go_simp
                    refine GFrom.cons (GStep.val _ rfl rfl _ rfl (fun g => .slice yJ nJ dJ) (fun _ => rfl) (fun _ => rfl) (fun bs g ev wq hS he hr => ?_)) ?_
                    · have r0 : ev (.tmp 5) = .slice yJ nJ dJ := hr (5, none) (by simp); have hk := he.1; clear hr he
                      go_simp
                    refine GFrom.cons (GStep.call _ rfl rfl _ rfl (fun g => .int .i64 xJ) (fun _ => rfl) (fun _ => rfl) 27 (fun g => #[.slice yJ nJ dJ]) (fun bs g ev wq hS he hr => ?_) (fun L g wq hd hL hS => ?_)) ?_
                    · have r0 : ev (.tmp 135) = .slice yJ nJ dJ := hr (135, some 7) (by simp); have hk := he.1; have hf := he.2; clear hr he
                      go_simp
                    · exact (CJ.out wq (K13.out.trans hS.out (fun _ _ h => h))).mono fun e w' ⟨h1, h2⟩ => ⟨h1, hid (hS.out.trans h2 (fun _ _ h => h))⟩
                    refine GFrom.cons (GStep.val _ rfl rfl _ rfl (fun g => .int .i64 xA) (fun _ => rfl) (fun _ => rfl) (fun bs g ev wq hS he hr => ?_)) ?_
                    · have r0 : ev (.tmp 11) = .int .i64 xA := hr (11, none) (by simp); have hk := he.1; clear hr he
                      go_simp
                    refine GFrom.cons (GStep.val _ rfl rfl _ rfl (fun g => .int .i64 xB) (fun _ => rfl) (fun _ => rfl) (fun bs g ev wq hS he hr => ?_)) ?_
                    · have r0 : ev (.tmp 12) = .int .i64 xB := hr (12, none) (by simp); have hk := he.1; clear hr he
                      go_simp
                    refine GFrom.cons (GStep.val _ rfl rfl _ rfl (fun g => .int .i64 mx) (fun _ => rfl) (fun _ => rfl) (fun bs g ev wq hS he hr => ?_)) ?_
                    · have r0 : ev (.tmp 137) = .int .i64 xA := hr (137, some 9) (by simp); have r1 : ev (.tmp 138) = .int .i64 xB := hr (138, some 10) (by simp); have hk := he.1; clear hr he
                      have e1 := MXE.out
                      go_simp
                    refine GFrom.cons (GStep.val _ rfl rfl _ rfl (fun g => .bool true) (fun _ => rfl) (fun _ => rfl) (fun bs g ev wq hS he hr => ?_)) ?_
                    · have r0 : ev (.tmp 136) = .int .i64 xJ := hr (136, some 8) (by simp); have r1 : ev (.tmp 139) = .int .i64 mx := hr (139, some 11) (by simp); have hk := he.1; clear hr he
                      have e1 := L2.out
                      go_simp
                    refine GFrom.cons (GStep.val _ rfl rfl _ rfl (fun g => .bool true) (fun _ => rfl) (fun _ => trivial) (fun bs g ev wq hS he hr => ?_)) ?_
                    · have r0 : ev (.tmp 134) = .bool true := hr (134, some 6) (by simp); have r1 : ev (.tmp 140) = .bool true := hr (140, some 12) (by simp); have hk := he.1; clear hr he
                      go_simp
                    refine GFrom.cons (GStep.val _ rfl rfl _ rfl (fun g => .bool true) (fun _ => rfl) (fun _ => trivial) (fun bs g ev wq hS he hr => ?_)) ?_
                    · have r0 : ev (.tmp 141) = .bool true := hr (141, some 13) (by simp); have hk := he.1; clear hr he
                      go_simp
                    refine GFrom.cons (GStep.val _ rfl rfl _ rfl (fun g => .slice yJ nJ dJ) (fun _ => rfl) (fun _ => rfl) (fun bs g ev wq hS he hr => ?_)) ?_
                    · have r0 : ev (.tmp 5) = .slice yJ nJ dJ := hr (5, none) (by simp); have hk := he.1; clear hr he
                      go_simp
                    refine GFrom.cons (GStep.call _ rfl rfl _ rfl (fun g => .int .i64 xJ) (fun _ => rfl) (fun _ => rfl) 27 (fun g => #[.slice yJ nJ dJ]) (fun bs g ev wq hS he hr => ?_) (fun L g wq hd hL hS => ?_)) ?_
                    · have r0 : ev (.tmp 143) = .slice yJ nJ dJ := hr (143, some 15) (by simp); have hk := he.1; have hf := he.2; clear hr he
                      go_simp
                    · exact (CJ.out wq (K13.out.trans hS.out (fun _ _ h => h))).mono fun e w' ⟨h1, h2⟩ => ⟨h1, hid (hS.out.trans h2 (fun _ _ h => h))⟩
                    refine GFrom.cons (GStep.val _ rfl rfl _ rfl (fun g => .int .i64 xA) (fun _ => rfl) (fun _ => rfl) (fun bs g ev wq hS he hr => ?_)) ?_
                    · have r0 : ev (.tmp 11) = .int .i64 xA := hr (11, none) (by simp); have hk := he.1; clear hr he
                      go_simp
                    refine GFrom.cons (GStep.val _ rfl rfl _ rfl (fun g => .int .i64 xB) (fun _ => rfl) (fun _ => rfl) (fun bs g ev wq hS he hr => ?_)) ?_
                    · have r0 : ev (.tmp 12) = .int .i64 xB := hr (12, none) (by simp); have hk := he.1; clear hr he
                      go_simp
                    refine GFrom.cons (GStep.val _ rfl rfl _ rfl (fun g => .int .i64 s) (fun _ => rfl) (fun _ => rfl) (fun bs g ev wq hS he hr => ?_)) ?_
                    · have r0 : ev (.tmp 145) = .int .i64 xA := hr (145, some 17) (by simp); have r1 : ev (.tmp 146) = .int .i64 xB := hr (146, some 18) (by simp); have hk := he.1; clear hr he
                      have e1 := WS.out
                      go_simp
                    refine GFrom.cons (GStep.val _ rfl rfl _ rfl (fun g => .bool true) (fun _ => rfl) (fun _ => rfl) (fun bs g ev wq hS he hr => ?_)) ?_
                    · have r0 : ev (.tmp 144) = .int .i64 xJ := hr (144, some 16) (by simp); have r1 : ev (.tmp 147) = .int .i64 s := hr (147, some 19) (by simp); have hk := he.1; clear hr he
                      have e1 := F2.out
                      go_simp
                    refine GFrom.cons (GStep.val _ rfl rfl _ rfl (fun g => .pointer (some ⟨D, 0, none⟩)) (fun _ => rfl) (fun _ => rfl) (fun bs g ev wq hS he hr => ?_)) ?_
                    · have r0 : ev (.tmp 2) = .pointer (some ⟨D, 0, none⟩) := hr (2, none) (by simp); have hk := he.1; clear hr he
                      go_simp
                    refine GFrom.cons (GStep.val _ rfl rfl _ rfl (fun g => .slice pa nA da) (fun _ => rfl) (fun _ => rfl) (fun bs g ev wq hS he hr => ?_)) ?_
                    · have r0 : ev (.tmp 149) = .pointer (some ⟨D, 0, none⟩) := hr (149, some 21) (by simp); have hk := he.1; clear hr he
                      have c0 := (show wq.cell? ⟨D, 0, none⟩ = some (.slice pa nA da) from (HB0.out.kept (K13.out.trans hS.out (fun _ _ h => h)) (fun h => h)).cell 0)
                      go_simp
                    refine GFrom.cons (GStep.val _ rfl rfl _ rfl (fun g => .pointer (some ⟨D, 1, none⟩)) (fun _ => rfl) (fun _ => rfl) (fun bs g ev wq hS he hr => ?_)) ?_
                    · have r0 : ev (.tmp 2) = .pointer (some ⟨D, 0, none⟩) := hr (2, none) (by simp); have hk := he.1; clear hr he
                      go_simp
                    refine GFrom.cons (GStep.val _ rfl rfl _ rfl (fun g => .slice pb nB db) (fun _ => rfl) (fun _ => rfl) (fun bs g ev wq hS he hr => ?_)) ?_
                    · have r0 : ev (.tmp 151) = .pointer (some ⟨D, 1, none⟩) := hr (151, some 23) (by simp); have hk := he.1; clear hr he
                      have c0 := (show wq.cell? ⟨D, 1, none⟩ = some (.slice pb nB db) from (HB0.out.kept (K13.out.trans hS.out (fun _ _ h => h)) (fun h => h)).cell 1)
                      go_simp
                    refine GFrom.cons (GStep.callm _ rfl _ rfl (fun _ => rfl) 28 (fun g => #[.slice pa nA da, .slice pb nB db]) (fun bs g ev wq hS he hr => ?_) (fun Lx g wq hL hd hcl hS => ?_)) ?_
                    · have r0 : ev (.tmp 150) = .slice pa nA da := hr (150, some 22) (by simp); have r1 : ev (.tmp 152) = .slice pb nB db := hr (152, some 24) (by simp); have hk := he.1; have hf := he.2; clear hr he
                      go_simp
                    · refine (CM.out wq (K13.out.trans hS.out (fun _ _ h => h))).mono ?_
                      rintro e w' ⟨y, d, rfl, h2⟩
                      exact ⟨.slice y nM d, (y, d), rfl, rfl, old_setD _ hL rfl, hid (hS.out.trans h2 (fun _ _ h => h))⟩
                    refine GFrom.cons (GStep.val _ rfl rfl _ rfl (fun g => .int .i64 (nM : Int)) (fun _ => rfl) (fun _ => rfl) (fun bs g ev wq hS he hr => ?_)) ?_
                    · have r0 : ev (.tmp 153) = .slice g.1 nM g.2 := hr (153, some 25) (by simp); have hk := he.1; clear hr he
                      exact exec_lenC rfl r0
                    refine GFrom.cons (GStep.val _ rfl rfl _ rfl (fun g => .bool true) (fun _ => rfl) (fun _ => rfl) (fun bs g ev wq hS he hr => ?_)) ?_
                    · have r0 : ev (.tmp 154) = .int .i64 (nM : Int) := hr (154, some 26) (by simp); have hk := he.1; clear hr he
                      have e1 := F4.out
                      go_simp
                    refine GFrom.cons (GStep.val _ rfl rfl _ rfl (fun g => .bool true) (fun _ => rfl) (fun _ => rfl) (fun bs g ev wq hS he hr => ?_)) ?_
                    · have r0 : ev (.tmp 148) = .bool true := hr (148, some 20) (by simp); have r1 : ev (.tmp 155) = .bool true := hr (155, some 27) (by simp); have hk := he.1; clear hr he
                      go_simp
                    refine GFrom.cons (GStep.val _ rfl rfl _ rfl (fun g => .bool true) (fun _ => rfl) (fun _ => trivial) (fun bs g ev wq hS he hr => ?_)) ?_
                    · have r0 : ev (.tmp 142) = .bool true := hr (142, some 14) (by simp); have r1 : ev (.tmp 156) = .bool true := hr (156, some 28) (by simp); have hk := he.1; clear hr he
                      go_simp
                    refine GFrom.cons (GStep.val _ rfl rfl _ rfl (fun g => .bool true) (fun _ => rfl) (fun _ => trivial) (fun bs g ev wq hS he hr => ?_)) ?_
                    · have r0 : ev (.tmp 157) = .bool true := hr (157, some 29) (by simp); have hk := he.1; clear hr he
                      go_simp
                    exact GFrom.nil
                  case hS => exact hid (Kp.refl Nb w13).drew
                  case hend =>
                    intro g wz hy
                    have KE := hid ((HF.out.k.trans K13.out (fun _ _ h => h)).trans hy.out (fun _ _ h => h))
                    clear hy
                    simp only [putAll, List.zip_cons_cons, List.zip_nil_right, List.foldl_cons, List.foldl_nil, Act.put, List.setIfInBounds_toArray, List.set_cons_zero, List.set_cons_succ]
                    go_wp2
                    go_ret
                    exact ⟨rfl, KE.out⟩
                · have f1 : ¬ xJ = s := fun h => hz (HME.out.1 h)
                  have F2 : Hid ((xJ == s) = false) := hid (beq_eq_false_iff_ne.2 f1)
                  have f3 : ¬ (nM : Int) = 0 := by omega
                  have F4 : Hid (((nM : Int) == 0) = false) := hid (beq_eq_false_iff_ne.2 f3)
                  clear f1 f3
                  go_wp2_with fail
                  refine region_ghost (g0 := ((none, 0) : Option Addr × Nat)) [none, none, none, none, some 30, none, none, none, none, none, none, none, none, none, none, none, none, none, none, none, none, none, none, none, none, none, none, none, none, none, none, none, none, none, none, none, none, none, none, none, none, none, none, none, none, none, none, none, none, none, none, none, none, none, none, none, none, none, none, none, none, none, none, none, none, none, none, none, none, none, none, none, none, none, none, none, none, none, none, none, none, none, none, none, none, none, none, none, none, none, none, none, none, none, none, none, none, none, none, none, none, none, none, none, none, none, none, none, none, none, none, none, none, none, none, none, none, none, none, none, none, none, none, none, none, none, none, none, some 0, some 1, some 2, some 3, some 4, some 5, some 6, some 7, some 8, some 9, some 10, some 11, some 12, some 13, some 14, some 15, some 16, some 17, some 18, some 19, some 20, some 21, some 22, some 23, some 24, some 25, some 26, some 27, some 28, some 29] [[(5, none)], [(128, some 0)], [(11, none)], [(12, none)], [(130, some 2), (131, some 3)], [(129, some 1), (132, some 4)], [(133, some 5)], [(5, none)], [(135, some 7)], [(11, none)], [(12, none)], [(137, some 9), (138, some 10)], [(136, some 8), (139, some 11)], [(134, some 6), (140, some 12)], [(141, some 13)], [(5, none)], [(143, some 15)], [(11, none)], [(12, none)], [(145, some 17), (146, some 18)], [(144, some 16), (147, some 19)], [(2, none)], [(149, some 21)], [(2, none)], [(151, some 23)], [(150, some 22), (152, some 24)], [(153, some 25)], [(154, some 26)], [(148, some 20), (155, some 27)], [(142, some 14), (156, some 28)], [(157, some 29)]] [some 128, some 129, some 130, some 131, some 132, some 133, some 134, some 135, some 136, some 137, some 138, some 139, some 140, some 141, some 142, some 143, some 144, some 145, some 146, some 147, some 148, some 149, some 150, some 151, some 152, some 153, some 154, some 155, some 156, some 157, some 4] (fun g => [.slice yJ nJ dJ, .int .i64 xJ, .int .i64 xA, .int .i64 xB, .int .i64 s, .bool true, .bool true, .slice yJ nJ dJ, .int .i64 xJ, .int .i64 xA, .int .i64 xB, .int .i64 mx, .bool true, .bool true, .bool true, .slice yJ nJ dJ, .int .i64 xJ, .int .i64 xA, .int .i64 xB, .int .i64 s, .bool false, .pointer (some ⟨D, 0, none⟩), .slice pa nA da, .pointer (some ⟨D, 1, none⟩), .slice pb nB db, .slice g.1 nM g.2, .int .i64 (nM : Int), .bool false, .bool true, .bool true, .bool true]) [25] (fun bs g wq => Hid (Kp Nb w13 wq)) (by kernel_rfl) (by kernel_rfl) (fun g => by kernel_rfl) (by kernel_rfl) ?hS (GFrom.all (n := 31) (by kernel_rfl) ?hstep) ?hend
                  case hstep =>
                    refine GFrom.cons (GStep.val _ rfl rfl _ rfl (fun g => .slice yJ nJ dJ) (fun _ => rfl) (fun _ => trivial) (fun bs g ev wq hS he hr => ?_)) ?_
                    · have r0 : ev (.tmp 5) = .slice yJ nJ dJ := hr (5, none) (by simp); have hk := he.1; clear hr he
                      go_simp
                    refine GFrom.cons (GStep.call _ rfl rfl _ rfl (fun g => .int .i64 xJ) (fun _ => rfl) (fun _ => trivial) 27 (fun g => #[.slice yJ nJ dJ]) (fun bs g ev wq hS he hr => ?_) (fun L g wq hd hL hS => ?_)) ?_
                    · have r0 : ev (.tmp 128) = .slice yJ nJ dJ := hr (128, some 0) (by simp); have hk := he.1; have hf := he.2; clear hr he
                      go_simp
                    · exact (CJ.out wq (K13.out.trans hS.out (fun _ _ h => h))).mono fun e w' ⟨h1, h2⟩ => ⟨h1, hid (hS.out.trans h2 (fun _ _ h => h))⟩
                    refine GFrom.cons (GStep.val _ rfl rfl _ rfl (fun g => .int .i64 xA) (fun _ => rfl) (fun _ => trivial) (fun bs g ev wq hS he hr => ?_)) ?_
                    · have r0 : ev (.tmp 11) = .int .i64 xA := hr (11, none) (by simp); have hk := he.1; clear hr he
                      go_simp
                    refine GFrom.cons (GStep.val _ rfl rfl _ rfl (fun g => .int .i64 xB) (fun _ => rfl) (fun _ => trivial) (fun bs g ev wq hS he hr => ?_)) ?_
                    · have r0 : ev (.tmp 12) = .int .i64 xB := hr (12, none) (by simp); have hk := he.1; clear hr he
                      go_simp
                    refine GFrom.cons (GStep.val _ rfl rfl _ rfl (fun g => .int .i64 s) (fun _ => rfl) (fun _ => trivial) (fun bs g ev wq hS he hr => ?_)) ?_
                    · have r0 : ev (.tmp 130) = .int .i64 xA := hr (130, some 2) (by simp); have r1 : ev (.tmp 131) = .int .i64 xB := hr (131, some 3) (by simp); have hk := he.1; clear hr he
                      have e1 := WS.out
                      go_simp
                    refine GFrom.cons (GStep.val _ rfl rfl _ rfl (fun g => .bool true) (fun _ => rfl) (fun _ => trivial) (fun bs g ev wq hS he hr => ?_)) ?_
                    · have r0 : ev (.tmp 129) = .int .i64 xJ := hr (129, some 1) (by simp); have r1 : ev (.tmp 132) = .int .i64 s := hr (132, some 4) (by simp); have hk := he.1; clear hr he
                      have e1 := L1.out
                      go_simp
                    refine GFrom.cons (GStep.val _ rfl rfl _ rfl (fun g => .bool true) (fun _ => rfl) (fun _ => trivial) (fun bs g ev wq hS he hr => ?_)) ?_
                    · have r0 : ev (.tmp 133) = .bool true := hr (133, some 5) (by simp); have hk := he.1; clear hr he
                      go_simp
                    refine GFrom.cons (GStep.val _ rfl rfl _ rfl (fun g => .slice yJ nJ dJ) (fun _ => rfl) (fun _ => rfl) (fun bs g ev wq hS he hr => ?_)) ?_
                    · have r0 : ev (.tmp 5) = .slice yJ nJ dJ := hr (5, none) (by simp); have hk := he.1; clear hr he
                      go_simp
                    refine GFrom.cons (GStep.call _ rfl rfl _ rfl (fun g => .int .i64 xJ) (fun _ => rfl) (fun _ => rfl) 27 (fun g => #[.slice yJ nJ dJ]) (fun bs g ev wq hS he hr => ?_) (fun L g wq hd hL hS => ?_)) ?_
                    · have r0 : ev (.tmp 135) = .slice yJ nJ dJ := hr (135, some 7) (by simp); have hk := he.1; have hf := he.2; clear hr he
                      go_simp
                    · exact (CJ.out wq (K13.out.trans hS.out (fun _ _ h => h))).mono fun e w' ⟨h1, h2⟩ => ⟨h1, hid (hS.out.trans h2 (fun _ _ h => h))⟩
                    refine GFrom.cons (GStep.val _ rfl rfl _ rfl (fun g => .int .i64 xA) (fun _ => rfl) (fun _ => rfl) (fun bs g ev wq hS he hr => ?_)) ?_
                    · have r0 : ev (.tmp 11) = .int .i64 xA := hr (11, none) (by simp); have hk := he.1; clear hr he
                      go_simp
                    refine GFrom.cons (GStep.val _ rfl rfl _ rfl (fun g => .int .i64 xB) (fun _ => rfl) (fun _ => rfl) (fun bs g ev wq hS he hr => ?_)) ?_
                    · have r0 : ev (.tmp 12) = .int .i64 xB := hr (12, none) (by simp); have hk := he.1; clear hr he
                      go_simp
                    refine GFrom.cons (GStep.val _ rfl rfl _ rfl (fun g => .int .i64 mx) (fun _ => rfl) (fun _ => rfl) (fun bs g ev wq hS he hr => ?_)) ?_
                    · have r0 : ev (.tmp 137) = .int .i64 xA := hr (137, some 9) (by simp); have r1 : ev (.tmp 138) = .int .i64 xB := hr (138, some 10) (by simp); have hk := he.1; clear hr he
                      have e1 := MXE.out
                      go_simp
                    refine GFrom.cons (GStep.val _ rfl rfl _ rfl (fun g => .bool true) (fun _ => rfl) (fun _ => rfl) (fun bs g ev wq hS he hr => ?_)) ?_
                    · have r0 : ev (.tmp 136) = .int .i64 xJ := hr (136, some 8) (by simp); have r1 : ev (.tmp 139) = .int .i64 mx := hr (139, some 11) (by simp); have hk := he.1; clear hr he
                      have e1 := L2.out
                      go_simp
                    refine GFrom.cons (GStep.val _ rfl rfl _ rfl (fun g => .bool true) (fun _ => rfl) (fun _ => trivial) (fun bs g ev wq hS he hr => ?_)) ?_
                    · have r0 : ev (.tmp 134) = .bool true := hr (134, some 6) (by simp); have r1 : ev (.tmp 140) = .bool true := hr (140, some 12) (by simp); have hk := he.1; clear hr he
                      go_simp
                    refine GFrom.cons (GStep.val _ rfl rfl _ rfl (fun g => .bool true) (fun _ => rfl) (fun _ => trivial) (fun bs g ev wq hS he hr => ?_)) ?_
                    · have r0 : ev (.tmp 141) = .bool true := hr (141, some 13) (by simp); have hk := he.1; clear hr he
                      go_simp
                    refine GFrom.cons (GStep.val _ rfl rfl _ rfl (fun g => .slice yJ nJ dJ) (fun _ => rfl) (fun _ => rfl) (fun bs g ev wq hS he hr => ?_)) ?_
                    · have r0 : ev (.tmp 5) = .slice yJ nJ dJ := hr (5, none) (by simp); have hk := he.1; clear hr he
                      go_simp
                    refine GFrom.cons (GStep.call _ rfl rfl _ rfl (fun g => .int .i64 xJ) (fun _ => rfl) (fun _ => rfl) 27 (fun g => #[.slice yJ nJ dJ]) (fun bs g ev wq hS he hr => ?_) (fun L g wq hd hL hS => ?_)) ?_
                    · have r0 : ev (.tmp 143) = .slice yJ nJ dJ := hr (143, some 15) (by simp); have hk := he.1; have hf := he.2; clear hr he
                      go_simp
                    · exact (CJ.out wq (K13.out.trans hS.out (fun _ _ h => h))).mono fun e w' ⟨h1, h2⟩ => ⟨h1, hid (hS.out.trans h2 (fun _ _ h => h))⟩
                    refine GFrom.cons (GStep.val _ rfl rfl _ rfl (fun g => .int .i64 xA) (fun _ => rfl) (fun _ => rfl) (fun bs g ev wq hS he hr => ?_)) ?_
                    · have r0 : ev (.tmp 11) = .int .i64 xA := hr (11, none) (by simp); have hk := he.1; clear hr he
                      go_simp
                    refine GFrom.cons (GStep.val _ rfl rfl _ rfl (fun g => .int .i64 xB) (fun _ => rfl) (fun _ => rfl) (fun bs g ev wq hS he hr => ?_)) ?_
                    · have r0 : ev (.tmp 12) = .int .i64 xB := hr (12, none) (by simp); have hk := he.1; clear hr he
                      go_simp
                    refine GFrom.cons (GStep.val _ rfl rfl _ rfl (fun g => .int .i64 s) (fun _ => rfl) (fun _ => rfl) (fun bs g ev wq hS he hr => ?_)) ?_
                    · have r0 : ev (.tmp 145) = .int .i64 xA := hr (145, some 17) (by simp); have r1 : ev (.tmp 146) = .int .i64 xB := hr (146, some 18) (by simp); have hk := he.1; clear hr he
                      have e1 := WS.out
                      go_simp
                    refine GFrom.cons (GStep.val _ rfl rfl _ rfl (fun g => .bool false) (fun _ => rfl) (fun _ => rfl) (fun bs g ev wq hS he hr => ?_)) ?_
                    · have r0 : ev (.tmp 144) = .int .i64 xJ := hr (144, some 16) (by simp); have r1 : ev (.tmp 147) = .int .i64 s := hr (147, some 19) (by simp); have hk := he.1; clear hr he
                      have e1 := F2.out
                      go_simp
                    refine GFrom.cons (GStep.val _ rfl rfl _ rfl (fun g => .pointer (some ⟨D, 0, none⟩)) (fun _ => rfl) (fun _ => rfl) (fun bs g ev wq hS he hr => ?_)) ?_
                    · have r0 : ev (.tmp 2) = .pointer (some ⟨D, 0, none⟩) := hr (2, none) (by simp); have hk := he.1; clear hr he
                      go_simp
                    refine GFrom.cons (GStep.val _ rfl rfl _ rfl (fun g => .slice pa nA da) (fun _ => rfl) (fun _ => rfl) (fun bs g ev wq hS he hr => ?_)) ?_
                    · have r0 : ev (.tmp 149) = .pointer (some ⟨D, 0, none⟩) := hr (149, some 21) (by simp); have hk := he.1; clear hr he
                      have c0 := (show wq.cell? ⟨D, 0, none⟩ = some (.slice pa nA da) from (HB0.out.kept (K13.out.trans hS.out (fun _ _ h => h)) (fun h => h)).cell 0)
                      go_simp
                    refine GFrom.cons (GStep.val _ rfl rfl _ rfl (fun g => .pointer (some ⟨D, 1, none⟩)) (fun _ => rfl) (fun _ => rfl) (fun bs g ev wq hS he hr => ?_)) ?_
                    · have r0 : ev (.tmp 2) = .pointer (some ⟨D, 0, none⟩) := hr (2, none) (by simp); have hk := he.1; clear hr he
                      go_simp
                    refine GFrom.cons (GStep.val _ rfl rfl _ rfl (fun g => .slice pb nB db) (fun _ => rfl) (fun _ => rfl) (fun bs g ev wq hS he hr => ?_)) ?_
                    · have r0 : ev (.tmp 151) = .pointer (some ⟨D, 1, none⟩) := hr (151, some 23) (by simp); have hk := he.1; clear hr he
                      have c0 := (show wq.cell? ⟨D, 1, none⟩ = some (.slice pb nB db) from (HB0.out.kept (K13.out.trans hS.out (fun _ _ h => h)) (fun h => h)).cell 1)
                      go_simp
                    refine GFrom.cons (GStep.callm _ rfl _ rfl (fun _ => rfl) 28 (fun g => #[.slice pa nA da, .slice pb nB db]) (fun bs g ev wq hS he hr => ?_) (fun Lx g wq hL hd hcl hS => ?_)) ?_
                    · have r0 : ev (.tmp 150) = .slice pa nA da := hr (150, some 22) (by simp); have r1 : ev (.tmp 152) = .slice pb nB db := hr (152, some 24) (by simp); have hk := he.1; have hf := he.2; clear hr he
                      go_simp
                    · refine (CM.out wq (K13.out.trans hS.out (fun _ _ h => h))).mono ?_
                      rintro e w' ⟨y, d, rfl, h2⟩
                      exact ⟨.slice y nM d, (y, d), rfl, rfl, old_setD _ hL rfl, hid (hS.out.trans h2 (fun _ _ h => h))⟩
                    refine GFrom.cons (GStep.val _ rfl rfl _ rfl (fun g => .int .i64 (nM : Int)) (fun _ => rfl) (fun _ => rfl) (fun bs g ev wq hS he hr => ?_)) ?_
                    · have r0 : ev (.tmp 153) = .slice g.1 nM g.2 := hr (153, some 25) (by simp); have hk := he.1; clear hr he
                      exact exec_lenC rfl r0
                    refine GFrom.cons (GStep.val _ rfl rfl _ rfl (fun g => .bool false) (fun _ => rfl) (fun _ => rfl) (fun bs g ev wq hS he hr => ?_)) ?_
                    · have r0 : ev (.tmp 154) = .int .i64 (nM : Int) := hr (154, some 26) (by simp); have hk := he.1; clear hr he
                      have e1 := F4.out
                      go_simp
                    refine GFrom.cons (GStep.val _ rfl rfl _ rfl (fun g => .bool true) (fun _ => rfl) (fun _ => rfl) (fun bs g ev wq hS he hr => ?_)) ?_
                    · have r0 : ev (.tmp 148) = .bool false := hr (148, some 20) (by simp); have r1 : ev (.tmp 155) = .bool false := hr (155, some 27) (by simp); have hk := he.1; clear hr he
                      go_simp
                    refine GFrom.cons (GStep.val _ rfl rfl _ rfl (fun g => .bool true) (fun _ => rfl) (fun _ => trivial) (fun bs g ev wq hS he hr => ?_)) ?_
                    · have r0 : ev (.tmp 142) = .bool true := hr (142, some 14) (by simp); have r1 : ev (.tmp 156) = .bool true := hr (156, some 28) (by simp); have hk := he.1; clear hr he
                      go_simp
                    refine GFrom.cons (GStep.val _ rfl rfl _ rfl (fun g => .bool true) (fun _ => rfl) (fun _ => trivial) (fun bs g ev wq hS he hr => ?_)) ?_
                    · have r0 : ev (.tmp 157) = .bool true := hr (157, some 29) (by simp); have hk := he.1; clear hr he
                      go_simp
                    exact GFrom.nil
                  case hS => exact hid (Kp.refl Nb w13).drew
                  case hend =>
                    intro g wz hy
                    have KE := hid ((HF.out.k.trans K13.out (fun _ _ h => h)).trans hy.out (fun _ _ h => h))
                    clear hy
                    simp only [putAll, List.zip_cons_cons, List.zip_nil_right, List.foldl_cons, List.foldl_nil, Act.put, List.setIfInBounds_toArray, List.set_cons_zero, List.set_cons_succ]
                    go_wp2
                    go_ret
                    exact ⟨rfl, KE.out⟩

end Go.Proofs.YtbbfibgijackhaaDoor

namespace Go.Proofs.YtbbfibgijackhaaDoor
open Go.ChangeShapes Go.WideShapes Go.ChangeAt Go.RowKit

theorem cells_int : Tryd.prog.cellsOf 3 = 1 := by kernel_rfl
theorem cells_run : Tryd.prog.cellsOf 33 = 3 := by kernel_rfl
theorem cells_clock : Tryd.prog.cellsOf 23 = 1 := by kernel_rfl
theorem wf_i64 {z : Int} (h : (Lit.int .i64 z).wf = true) : I64 z := by
  simp [Lit.wf] at h
  have hmin : IntKind.i64.min = -9223372036854775808 := by decide
  rw [hmin] at h
  have := h.2
  exact ⟨h.1, by omega⟩
theorem one_at {cs : List Value} {n : Nat} (i : Nat) (hl : cs.length = n) (hi : i < n) : ∃ y, cs[i]? = some y ∧ (cs.drop i).take 1 = [y] := by
  have hi' : i < cs.length := by omega
  exact ⟨cs[i], List.getElem?_eq_getElem hi', by rw [List.drop_eq_getElem_cons hi', List.take_succ_cons, List.take_zero]⟩
theorem three_at {cs : List Value} {a b c : Value} (hl : cs.length = 3) (h0 : cs[0]? = some a) (h1 : cs[1]? = some b) (h2 : cs[2]? = some c) : cs = [a, b, c] := by
  match cs, hl with
  | [x, y, z], _ =>
    have ea : x = a := by simpa using h0
    have eb : y = b := by simpa using h1
    have ec : z = c := by simpa using h2
    rw [ea, eb, ec]
section
variable {H : Type} {enc : TypeId × Value → H} {W : World}
theorem open_runcs {fuel : Nat} {cs : List Value} {x : DataW H × List MemPlace} (h : DataW.trod enc Tryd.prog W 0 (fun _ => true) true fuel 33 cs = some x) : ∃ q : RunQ, RunOk q ∧ cs = runL q := by
  obtain ⟨xs, k, _, _, hl, hxl, hfs⟩ := DataW.trod_struct Tryd.underlying33 h
  rw [cells_run] at hl
  match xs, hxl with
  | [y0, y1, y2], _ =>
    have g0 : DataW.trod enc Tryd.prog W 0 (fun _ => true) true k 3 ((cs.drop 0).take (Tryd.prog.cellsOf 3)) = some y0 := hfs 0 _ rfl
    have g1 : DataW.trod enc Tryd.prog W 0 (fun _ => true) true k 3 ((cs.drop 1).take (Tryd.prog.cellsOf 3)) = some y1 := hfs 1 _ rfl
    have g2 : DataW.trod enc Tryd.prog W 0 (fun _ => true) true k 3 ((cs.drop 2).take (Tryd.prog.cellsOf 3)) = some y2 := hfs 2 _ rfl
    rw [cells_int] at g0 g1 g2
    obtain ⟨c0, h0, e0⟩ := one_at 0 hl (by omega)
    obtain ⟨c1, h1, e1⟩ := one_at 1 hl (by omega)
    obtain ⟨c2, h2, e2⟩ := one_at 2 hl (by omega)
    rw [e0] at g0
    rw [e1] at g1
    rw [e2] at g2
    obtain ⟨z0, hz0, _, hw0⟩ := DataW.trod_int Tryd.underlying3 g0
    obtain ⟨z1, hz1, _, hw1⟩ := DataW.trod_int Tryd.underlying3 g1
    obtain ⟨z2, hz2, _, hw2⟩ := DataW.trod_int Tryd.underlying3 g2
    simp only [List.cons.injEq, and_true] at hz0 hz1 hz2
    subst hz0 hz1 hz2
    exact ⟨(z0, z1, z2), ⟨wf_i64 hw0, wf_i64 hw1, wf_i64 hw2⟩, three_at hl h0 h1 h2⟩
theorem cl_rows {v : Value} {c : List RunQ} (ho : ∀ q ∈ c, RunOk q) (h : RowsSl runL (0, 0, 0) 3 W v c) : ClSl W v c := ⟨runAt_ok ho, h⟩
set_option maxRecDepth 100000 in
theorem open_clockv {base : Nat} {v : Value} {d : DataW H} {p : List MemPlace} (hv : Value.okWide Tryd.prog W .any base 23 v)
    (h : DataW.Trod enc Tryd.prog W 0 (fun _ => true) true 23 v d p) : ∃ c, ClSl W v c := by
  obtain ⟨fu, hf⟩ := h
  obtain ⟨y0, len0, cap0, rfl⟩ := okWide_slice Tryd.underlying23 hv
  obtain ⟨c, ho, hS⟩ := open_rows runL (0, 0, 0) RunOk 3 cells_run (by decide) (fun _ _ _ h => open_runcs h) Tryd.underlying23 hf
  exact ⟨c, cl_rows ho hS⟩
set_option maxRecDepth 100000 in
theorem clock_in {base : Nat} {v : Value} (hv : Value.okWide Tryd.prog W .any base 23 v) : ∀ g, v.ownBlock = some g → g < W.heap.size := by
  obtain ⟨y0, len0, cap0, rfl⟩ := okWide_slice Tryd.underlying23 hv
  intro g hg
  cases y0 with
  | none => simp [Value.ownBlock] at hg
  | some a =>
    have e : a.block = g := by simpa [Value.ownBlock] using hg
    subst e
    simp only [Value.okWide, Tryd.underlying23, Cell.okWide, Cell.ok] at hv
    obtain ⟨_, _, row, cells, hs, _⟩ := hv.2.2
    rcases Nat.lt_or_ge a.block W.heap.size with h | h
    · exact h
    · exfalso
      have : W.heap[a.block]? = none := Array.getElem?_eq_none h
      simp [World.shape?, this] at hs
end

/-- What the rows list. -/
abbrev dtLaid : List (String × DataW Unit) := [("math/bits.deBruijn32tab", Rows.laid_math_bits_deBruijn32tab), ("math/bits.deBruijn64tab", Rows.laid_math_bits_deBruijn64tab), ("internal/strconv.uint64pow10", Rows.laid_internal_strconv_uint64pow10), ("unicode/utf8.acceptRanges", Rows.laid_unicode_utf8_acceptRanges), ("strconv.ErrRange", Rows.laid_strconv_ErrRange), ("strconv.ErrSyntax", Rows.laid_strconv_ErrSyntax), ("unicode/utf8.first", Rows.laid_unicode_utf8_first)]
theorem pow10_data : (Rows.laid_internal_strconv_uint64pow10 : DataW Unit) = Lib.tabData .u64 Lib.pow10Tab := by
  unfold Rows.laid_internal_strconv_uint64pow10 Lib.tabData
  rfl
theorem gPow : ∃ g, Tryd.prog.globalNamed "internal/strconv.uint64pow10" = some g ∧ (Tryd.prog.globals[g]?).map (·.type) = some 144 := ⟨_, rfl, by kernel_rfl⟩
theorem cells_pow : Tryd.prog.cellsOf 144 = 20 := by kernel_rfl
theorem cells_u64 : Tryd.prog.cellsOf 69 = 1 := by kernel_rfl
set_option maxRecDepth 100000 in
theorem tab_of_laid {W : World} (h : laidMetH Tryd.prog dtLaid W) : Tab W := by
  rw [MakeChecks.laidMetH_plain _ _ _ (by kernel_rfl)] at h
  obtain ⟨ps, ⟨g0, t0, cs0, f0, p0, q0, hg0, ht0, hv0, hd0, ⟨g1, t1, cs1, f1, p1, q1, hg1, ht1, hv1, hd1, ⟨g2, t2, cs2, f2, p2, q2, hg2, ht2, hv2, hd2, _, _⟩, _⟩, _⟩, _, _⟩ := h
  obtain ⟨g, hg, ht⟩ := gPow
  obtain rfl := Option.some.inj (hg.symm.trans hg2)
  obtain rfl := Option.some.inj (ht.symm.trans ht2)
  rw [pow10_data] at hd2
  have e := Lib.cells_of_tab Tryd.underlying144 Tryd.underlying69 cells_u64 cells_pow hd2
  unfold Tab Lib.TabIs
  rw [hv2, ← e]
theorem mx_of_shape {W : World} (h : W.ShapedOpen Tryd.prog) : Mx W := Tryd.laysM143.s1_3 W h
/-- The start's own heap meets the condition. -/
theorem laid_met (os : Os) (args : Array Value) : laidMetH Tryd.prog dtLaid ((World.laidAll Tryd.prog os dtLaid).forCall (fun _ _ => 0) ⟨#[], args, []⟩).memory := by
  rw [MakeChecks.laidMetH_plain _ _ _ (by kernel_rfl)]
  exact laidMet_laidAll _ (by kernel_rfl) (by kernel_rfl)
/-- A row's claim out of a contract that is handed the listed tables and the world's shape. -/
theorem handed_dt {H : Type} {enc : TypeId × Value → H} {C : Checked} {l : List (String × DataW Unit)} {os : Os} {f : FuncId} {fn : Func} {s : ChangeSpec} (own : ownKnob C.prog.godebug = none) (started : os.Started) (noInit : C.prog.inits.idxOf? f = none) (hfn : C.prog.funcs[f]? = some fn)
    (witness : ∃ (w : World) (tape : Tape) (i : Input), w.os = os ∧ (w.forCall tape i).Shaped C.prog ∧ i.vars = [] ∧ Input.okWide C.prog (w.forCall tape i) .any w.heap.size f i ∧
      ((s.pre enc C.prog fn [] false (w.forCall tape i).memory i.args ∧ laidMetH C.prog l (w.forCall tape i).memory) ∧ sizedMet enc C.prog fn (OpenSpec.ofChange s) false (w.forCall tape i).memory i.args) ∧
        Assume.holds {} C.prog (lone (Frame.enter C.prog f i.args .normal) [] (w.forCall tape i)))
    (contract : ∀ (W : World) (base : Nat) (args : Array Value) (ds gs : List (DataW H)) (before : List MemPlace),
      (∀ (j : Nat) t v, fn.params[j]? = some t → args[j]? = some v → Value.okWide C.prog W .any base t v) →
      DataW.Whole enc C.prog fn.params.toList s.vars false W args.toList ds gs before →
      laidMetH C.prog l W → W.ShapedOpen C.prog →
      Calls C.prog f args W fun e W' => ∃ v, e = .returned v ∧ s.post enc C.prog fn false true false false W args v W') :
    ReturnsInHanded {} C os f .any (fun w args => (s.pre enc C.prog fn [] false w args ∧ laidMetH C.prog l w) ∧ sizedMet enc C.prog fn (OpenSpec.ofChange s) false w args) (s.post enc C.prog fn false true false false) := by
  refine returnsInHanded_of_calls own started noInit witness ?_
  intro w tape i _ hsh _ hok hpre _
  obtain ⟨_, _, _, fn', hfn', _, _, _, _, hval⟩ := hok
  obtain rfl : fn' = fn := Option.some.inj (hfn'.symm.trans hfn)
  obtain ⟨⟨⟨ds, gs, before, hw, _⟩, hl⟩, _⟩ := hpre
  have hw' : DataW.Whole enc C.prog fn'.params.toList s.vars false (w.forCall tape i) i.args.toList ds gs before := DataW.Whole.of_heap (w' := w.forCall tape i) (by rfl) hw
  have hl' : laidMetH C.prog l (w.forCall tape i) := laidMetH.of_heap (w' := w.forCall tape i) (by rfl) hl
  refine (contract (w.forCall tape i) w.heap.size i.args ds gs before hval hw' hl' hsh).mono fun e W' ⟨v, he, hp⟩ => ?_
  subst he
  exact ChangeSpec.post_blind hp

end Go.Proofs.YtbbfibgijackhaaDoor

namespace Go.Proofs.YtbbfibgijackhaaDoor
open Go.ChangeShapes Go.WideShapes Go.ChangeAt Go.RowKit

theorem cells_dot : Tryd.prog.cellsOf 25 = 2 := by kernel_rfl
theorem cells_case : Tryd.prog.cellsOf 27 = 5 := by kernel_rfl
theorem two_at {cs : List Value} {a b : Value} (hl : cs.length = 2) (h0 : cs[0]? = some a) (h1 : cs[1]? = some b) : cs = [a, b] := by
  match cs, hl with
  | [x, y], _ =>
    have ea : x = a := by simpa using h0
    have eb : y = b := by simpa using h1
    rw [ea, eb]
theorem five_at {cs : List Value} {a b c d e : Value} (hl : cs.length = 5) (h0 : cs[0]? = some a) (h1 : cs[1]? = some b) (h2 : cs[2]? = some c) (h3 : cs[3]? = some d) (h4 : cs[4]? = some e) : cs = [a, b, c, d, e] := by
  match cs, hl with
  | [v, x, y, z, u], _ =>
    have ea : v = a := by simpa using h0
    have eb : x = b := by simpa using h1
    have ec : y = c := by simpa using h2
    have ed : z = d := by simpa using h3
    have ee : u = e := by simpa using h4
    rw [ea, eb, ec, ed, ee]
section
variable {H : Type} {enc : TypeId × Value → H} {W : World}
theorem open_dotcs {fuel : Nat} {cs : List Value} {x : DataW H × List MemPlace} (hl : cs.length = 2) (h : DataW.trod enc Tryd.prog W 0 (fun _ => true) true fuel 25 cs = some x) : ∃ q : DotQ, DotOk q ∧ cs = dotL q := by
  obtain ⟨xs, k, _, _, _, hxl, hfs⟩ := DataW.trod_struct Tryd.underlying25 h
  match xs, hxl with
  | [y0, y1], _ =>
    have g0 : DataW.trod enc Tryd.prog W 0 (fun _ => true) true k 3 ((cs.drop 0).take (Tryd.prog.cellsOf 3)) = some y0 := hfs 0 _ rfl
    have g1 : DataW.trod enc Tryd.prog W 0 (fun _ => true) true k 3 ((cs.drop 1).take (Tryd.prog.cellsOf 3)) = some y1 := hfs 1 _ rfl
    rw [cells_int] at g0 g1
    obtain ⟨c0, h0, e0⟩ := one_at 0 hl (by omega)
    obtain ⟨c1, h1, e1⟩ := one_at 1 hl (by omega)
    rw [e0] at g0
    rw [e1] at g1
    obtain ⟨z0, hz0, _, hw0⟩ := DataW.trod_int Tryd.underlying3 g0
    obtain ⟨z1, hz1, _, hw1⟩ := DataW.trod_int Tryd.underlying3 g1
    simp only [List.cons.injEq, and_true] at hz0 hz1
    subst hz0 hz1
    exact ⟨(z0, z1), ⟨wf_i64 hw0, wf_i64 hw1⟩, two_at hl h0 h1⟩
theorem open_dotcs' {fuel : Nat} {cs : List Value} {x : DataW H × List MemPlace} (h : DataW.trod enc Tryd.prog W 0 (fun _ => true) true fuel 25 cs = some x) : ∃ q : DotQ, DotOk q ∧ cs = dotL q := by
  obtain ⟨xs, k, _, _, hl, hxl, hfs⟩ := DataW.trod_struct Tryd.underlying25 h
  rw [cells_dot] at hl
  exact open_dotcs hl h
set_option maxRecDepth 100000 in
theorem open_dotsv {base : Nat} {v : Value} {d : DataW H} {p : List MemPlace} (hv : Value.okWide Tryd.prog W .any base 30 v)
    (h : DataW.Trod enc Tryd.prog W 0 (fun _ => true) true 30 v d p) : ∃ l, RowsSl dotL (0, 0) 2 W v l := by
  obtain ⟨fu, hf⟩ := h
  obtain ⟨y0, len0, cap0, rfl⟩ := okWide_slice Tryd.underlying30 hv
  obtain ⟨c, _, hS⟩ := open_rows dotL (0, 0) DotOk 2 cells_dot (by decide) (fun _ _ _ h => open_dotcs' h) Tryd.underlying30 hf
  exact ⟨c, hS⟩
set_option maxRecDepth 100000 in
theorem open_casev {base : Nat} {v : Value} {d : DataW H} {p : List MemPlace} (hv : Value.okWide Tryd.prog W .any base 27 v)
    (h : DataW.Trod enc Tryd.prog W 0 (fun _ => true) true 27 v d p) : ∃ (va vb : Value) (a b : List RunQ) (dn dd nd : Int), v = caseV va vb dn dd nd ∧ ClSl W va a ∧ ClSl W vb b ∧ I64 dn ∧ I64 dd ∧ I64 nd := by
  obtain ⟨cs, rfl, hsz⟩ := okWide_struct Tryd.underlying27 hv
  obtain ⟨fuel, hf⟩ := h
  obtain ⟨xs, k, _, _, hl, hxl, hfs⟩ := DataW.trod_struct Tryd.underlying27 hf
  simp only [Value.cells] at hl hfs
  rw [cells_case] at hl
  match xs, hxl with
  | [y0, y1, y2, y3], _ =>
    have g0 : DataW.trod enc Tryd.prog W 0 (fun _ => true) true k 23 ((cs.toList.drop 0).take (Tryd.prog.cellsOf 23)) = some y0 := hfs 0 _ rfl
    have g1 : DataW.trod enc Tryd.prog W 0 (fun _ => true) true k 23 ((cs.toList.drop 1).take (Tryd.prog.cellsOf 23)) = some y1 := hfs 1 _ rfl
    have g2 : DataW.trod enc Tryd.prog W 0 (fun _ => true) true k 25 ((cs.toList.drop 2).take (Tryd.prog.cellsOf 25)) = some y2 := hfs 2 _ rfl
    have g3 : DataW.trod enc Tryd.prog W 0 (fun _ => true) true k 3 ((cs.toList.drop 4).take (Tryd.prog.cellsOf 3)) = some y3 := hfs 3 _ rfl
    rw [cells_clock] at g0 g1
    rw [cells_dot] at g2
    rw [cells_int] at g3
    obtain ⟨c0, h0, e0⟩ := one_at 0 hl (by omega)
    obtain ⟨c1, h1, e1⟩ := one_at 1 hl (by omega)
    obtain ⟨c4, h4, e4⟩ := one_at 4 hl (by omega)
    rw [e0] at g0
    rw [e1] at g1
    rw [e4] at g3
    obtain ⟨z, hz, _, hw⟩ := DataW.trod_int Tryd.underlying3 g3
    simp only [List.cons.injEq, and_true] at hz
    subst hz
    obtain ⟨a, ao, aS⟩ := open_rows runL (0, 0, 0) RunOk 3 cells_run (by decide) (fun _ _ _ h => open_runcs h) Tryd.underlying23 g0
    obtain ⟨b, bo, bS⟩ := open_rows runL (0, 0, 0) RunOk 3 cells_run (by decide) (fun _ _ _ h => open_runcs h) Tryd.underlying23 g1
    obtain ⟨q, hq, eq⟩ := open_dotcs' g2
    have h2 : cs.toList[2]? = some (.int .i64 q.1) := by
      have := congrArg (fun l => l[0]?) eq
      simpa [dotL, List.getElem?_take, List.getElem?_drop] using this
    have h3 : cs.toList[3]? = some (.int .i64 q.2) := by
      have := congrArg (fun l => l[1]?) eq
      simpa [dotL, List.getElem?_take, List.getElem?_drop] using this
    have e : cs.toList = [c0, c1, .int .i64 q.1, .int .i64 q.2, .int .i64 z] := five_at hl h0 h1 h2 h3 h4
    exact ⟨c0, c1, a, b, q.1, q.2, z, by unfold caseV; congr 1; exact Array.toList_inj.1 e, cl_rows ao aS, cl_rows bo bS, hq.1, hq.2, wf_i64 hw⟩
end

end Go.Proofs.YtbbfibgijackhaaDoor

namespace Go.Proofs.YtbbfibgijackhaaDoor
open Go.ChangeShapes Go.WideShapes Go.ChangeAt Go.RowKit

set_option maxRecDepth 100000 in
theorem dsets_lifted (os : Os) (started : os.Started) (H : Type) (enc : TypeId × Value → H) :
    ReturnsInHanded {} Tryd.checked os 5 .any (fun w args => (Rows.dotSetsSpec.pre enc Tryd.prog Tryd.f5 [] false w args ∧ laidMetH Tryd.prog dtLaid w) ∧ sizedMet enc Tryd.prog Tryd.f5 (OpenSpec.ofChange Rows.dotSetsSpec) false w args)
      (Rows.dotSetsSpec.post enc Tryd.prog Tryd.f5 false true false false) := by
  refine handed_dt (C := Tryd.checked) own started (by kernel_rfl) Tryd.func5
    (ChangeSpec.witness_shaped (enc := enc) (C := Tryd.checked) (os := os) (X := fun w _ => laidMetH Tryd.prog dtLaid w) false (World.laidAll Tryd.prog os dtLaid) #[.agg #[.slice none 0 0, .slice none 0 0, .int .i64 0, .int .i64 0, .int .i64 0], .slice none 0 0] 8 (World.laidAll_os _ _ _)
      (World.shaped_of_ZipB (by kernel_rfl) (by kernel_rfl)) (by kernel_rfl) (by kernel_rfl) (by kernel_rfl) (laid_met os _)) ?_
  intro W base args ds gs before hval0 hW hL hsh
  have hval : ∀ (j : Nat) t v, Tryd.f5.params[j]? = some t → args[j]? = some v → Value.okWide Tryd.prog W .any base t v := hval0
  have hW' := hW
  obtain ⟨p, q, hA0, hV, rfl, hfz, hnd⟩ := hW
  have hA : DataW.TrodAll enc Tryd.prog W 0 (fun _ => true) true Tryd.f5.params.toList args.toList ds p := hA0
  rw [Tryd.params5] at hA hval
  obtain ⟨v0, vs0, d0, ds0, p0, q0, hargs, rfl, rfl, h0, r0⟩ := trodAll_cons hA
  obtain ⟨v1, vs1, d1, ds1, p1, q1, rfl, rfl, rfl, h1, r1⟩ := trodAll_cons r0
  obtain ⟨rfl, rfl, rfl⟩ := trodAll_nil r1
  obtain rfl : args = #[v0, v1] := by cases args; simp_all
  obtain ⟨rfl, rfl⟩ := trodVars_none hV
  have lt0 : ∀ x ∈ p0, x.block < W.heap.size := by obtain ⟨m, hm⟩ := h0; exact DataW.trod_lt m _ _ _ hm
  have lt1 : ∀ x ∈ p1, x.block < W.heap.size := by obtain ⟨m, hm⟩ := h1; exact DataW.trod_lt m _ _ _ hm
  obtain ⟨va, vb, a, b, dn, dd, nd, rfl, S0, S1, I0, I1, _⟩ := open_casev (hval 0 27 v0 rfl rfl) h0
  obtain ⟨l, SL⟩ := open_dotsv (hval 1 30 v1 rfl rfl) h1
  have ht := tab_of_laid hL
  have hm := mx_of_shape hsh
  clear hA0 hval0
  refine (dsets_any va vb v1 a b l dn dd nd W S0 S1 SL I0 I1 ht hm).mono fun e W' ⟨he, kp⟩ => ?_
  subst he
  have bel : Below W.heap.size W W' := kp.below (Nat.le_refl _) (fun _ _ h => h)
  exact ⟨_, rfl, _, _, _, [], _, [], hW', trodAll_mk1 (shut_bool Tryd.underlying4 _), (trodAll_cons_mk (Below.trod laidOut (by kernel_rfl) (of_decide_eq_true (by kernel_rfl)) h0 bel lt0) (trodAll_cons_mk (Below.trod laidOut (by kernel_rfl) (of_decide_eq_true (by kernel_rfl)) h1 bel lt1) trodAll_mk0)), rfl, bel.frame _, fun h => by cases h⟩

theorem dsets_over : Rows.dotSetsRow.holds Tryd.pinned (OpenSpec.ofChange Rows.dotSetsSpec) :=
  OpenClaim.holds_of_wide 5 Tryd.f5 rfl rfl rfl rfl rfl rfl rfl ⟨rfl, rfl, rfl, rfl, rfl⟩ rfl rfl rfl rfl rfl (by kernel_rfl) Tryd.func5 (by kernel_rfl)
    (of_decide_eq_true (by kernel_rfl)) (by unfold Func.isWrapper; first | (rw [if_pos (by decide +kernel)]; kernel_rfl) | (rw [if_neg (by decide +kernel)]; exact ⟨rfl, rfl⟩))
    (fun os started H enc _ => dsets_lifted os started H enc)

theorem dsets_said : Rows.DotSetsCardSaid :=
  Claim7.holds_tied_plain_at .later [] [.data, .data, .data, .data, .sentinel, .sentinel, .pinned] true _ true
    dsets_over (fun _ h => by cases h) (by kernel_rfl) (fun _ h => by cases h) dotSets_row_tie rfl ⟨rfl, rfl⟩ (by kernel_rfl) rfl
    (fun f fn hf hfn => by
      obtain rfl : f = 5 := Option.some.inj ((show Tryd.prog.funcNamed "gleanings/gleaningslaw03.DotSets" = some 5 by kernel_rfl).symm.trans hf) |>.symm
      obtain rfl : fn = Tryd.f5 := (Option.some.inj (Tryd.func5.symm.trans hfn)).symm
      exact ⟨by kernel_rfl, fun j t ht => by
        rw [Tryd.params5] at ht
        have hm : t ∈ [27, 30] := by simpa using Array.mem_of_getElem? ht
        have hall : ([27, 30].all fun u => !Tryd.prog.wantsStandIn u) = true := by kernel_rfl
        exact (show Tryd.prog.wantsStandIn t = false by simpa using List.all_eq_true.1 hall t hm)⟩)
    (by kernel_rfl)
end Go.Proofs.YtbbfibgijackhaaDoor
