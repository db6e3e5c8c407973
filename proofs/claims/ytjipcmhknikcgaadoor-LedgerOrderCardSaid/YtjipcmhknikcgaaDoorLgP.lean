/-
  Layer 22: LedgerOrder walked. Condition: the table of powers of ten lies as the program's text lays it.
-/
import Derived.Test.YtjipcmhknikcgaaDoorLgO
namespace Go.Proofs.YtjipcmhknikcgaaDoor
open Go.RowKit

theorem exec_eqRow {ev : Operand → Value} {o : Oper} {x y : Operand} {t' : TypeId} {p q : RwQ} {w : World} (ho : o.op = .binOp .eql 29 x y t') (hx : ev x = rV p) (hy : ev y = rV q) : (execOp ev o).run Tryd.prog w = .ok (.value (.bool (decide (p = q)))) w := by
  obtain ⟨xs, hxs⟩ : ∃ xs : Array Value, (rL p).toArray = xs := ⟨_, rfl⟩
  obtain ⟨ys, hys⟩ : ∃ ys : Array Value, (rL q).toArray = ys := ⟨_, rfl⟩
  have h : Sem.run Tryd.prog (Op.equal 29 (.agg xs) (.agg ys)) w = .ok (decide (p = q)) w := by rw [← hxs, ← hys]; exact eq_rows p q w
  obtain ⟨b, hb⟩ : ∃ b, decide (p = q) = b := ⟨_, rfl⟩
  rw [hb] at h ⊢
  rw [show rV p = .agg xs from congrArg Value.agg hxs] at hx
  rw [show rV q = .agg ys from congrArg Value.agg hys] at hy
  have h1 : Sem.run Tryd.prog (eqGuard .eql 29 x y (.agg xs) (.agg ys)) w = .ok () w := by go_simp
  have h2 : Sem.run Tryd.prog (binOp .eql 29 (.agg xs) (.agg ys)) w = .ok (.bool b) w := by
    show Sem.run Tryd.prog (do pure (Value.bool (← Op.equal 29 (.agg xs) (.agg ys)))) w = _
    simp only [Sem.run_bind, Sem.run_pure, Result.andThen_ok, h]
  unfold execOp
  simp only [ho, hx, hy, Sem.run_bind, Sem.run_pure, Result.andThen_ok, h1, h2]
theorem exec_eq_yes {ev : Operand → Value} {o : Oper} {x y : Operand} {t' : TypeId} {p q : RwQ} {w : World} (hpq : p = q) (ho : o.op = .binOp .eql 29 x y t') (hx : ev x = rV p) (hy : ev y = rV q) : (execOp ev o).run Tryd.prog w = .ok (.value (.bool true)) w := by
  have h := exec_eqRow (w := w) ho hx hy
  rwa [decide_eq_true hpq] at h
theorem sat_small {n v : Int} (h : sat n = sat v) (hv : v ≤ 1000000000) : n = v := by
  unfold sat at h
  rw [mx_is] at h
  omega
/-- A ledger that was sent to: its sums. -/
structure LgF (w : World) (B : Nat) (rs : List RwQ) (k : Nat) : Prop where
  at' : LgAt w B rs
  le : S1 rs ≤ (k : Int) ∧ S2 rs ≤ 65535 * (k : Int)
theorem LgF.kept {S : Nat → Prop} {w w' : World} {B k : Nat} {rs : List RwQ} (h : LgF w B rs k) (kp : Kp S w w') (hB : ¬ S B) : LgF w' B rs k := ⟨h.at'.kept kp hB, h.le⟩
theorem zero_le : S1 zero14 ≤ ((0 : Nat) : Int) ∧ S2 zero14 ≤ 65535 * ((0 : Nat) : Int) := by decide
theorem sent_le {w : World} {B k : Nat} {rs : List RwQ} (h : LgF w B rs k) {kx y : Int} (hy : 0 ≤ y ∧ y < 65536) (hk : k ≤ 100) {w' : World} (h' : LgAt w' B (setK rs kx (sumR (rowOf rs kx) (1, y)))) : LgF w' B (setK rs kx (sumR (rowOf rs kx) (1, y))) (k + 1) := by
  refine ⟨h', ?_⟩
  have hl := h.le
  obtain ⟨b, hb⟩ : ∃ b, knd kx = b := ⟨_, rfl⟩
  cases b with
  | true =>
    have := sent_sum h.at'.len h.at'.ok hb (y := y) hy.1 (by omega) (by omega)
    omega
  | false =>
    rw [setK_no rs hb]
    omega
/-- Between two rounds. -/
def OrI (w1 : World) (B N : Nat) (i : Value) (wr : World) : Prop := ∃ (k : Nat) (rs : List RwQ), k ≤ N ∧ i = .int .i64 k ∧ Hid (LgF wr B rs k) ∧ Hid (Kp (Jb B) w1 wr)
theorem pay_small {rs os : List RwQ} (h1 : rs.length = 14) (h2 : os.length = 14) (o1 : ∀ q ∈ rs, RwOk q) (o2 : ∀ q ∈ os, RwOk q) (l1 : S2 rs ≤ 6553500) (l2 : S2 os ≤ 6553500) :
    plusS (rowAt (addR rs os) 9).2 (rowAt (addR rs os) 10).2 = plusS (rowAt os 9).2 (rowAt os 10).2 + plusS (rowAt rs 9).2 (rowAt rs 10).2 ∧ plusS (rowAt os 9).2 (rowAt os 10).2 ≤ 20000000 ∧ plusS (rowAt rs 9).2 (rowAt rs 10).2 ≤ 20000000 ∧ 0 ≤ plusS (rowAt os 9).2 (rowAt os 10).2 ∧ 0 ≤ plusS (rowAt rs 9).2 (rowAt rs 10).2 := by
  rw [addR_at h1 h2 9 (by decide), addR_at h1 h2 10 (by decide)]
  have a1 := S_ge o1 9
  have a2 := S_ge o1 10
  have a3 := S_ge o2 9
  have a4 := S_ge o2 10
  have b1 := rowAt_ok o1 9
  have b2 := rowAt_ok o1 10
  have b3 := rowAt_ok o2 9
  have b4 := rowAt_ok o2 10
  unfold RwOk u64R at b1 b2 b3 b4
  unfold sumR plusS
  rw [mx_is]
  show min (min ((rowAt rs 9).2 + (rowAt os 9).2) 18446744073709551615 + min ((rowAt rs 10).2 + (rowAt os 10).2) 18446744073709551615) 18446744073709551615 = _ ∧ _
  omega

set_option maxRecDepth 100000 in
set_option maxHeartbeats 4000000 in
theorem lorder_any (v0 v1 : Value) (q0 q1 : List PrQ) (w : World) (ht : Tb w) (hv0 : PrSl w v0 q0) (hv1 : PrSl w v1 q1) :
    Calls Tryd.prog 5 #[v0, v1] w fun e w' => e = .returned (.bool true) ∧ Kp Nb w w' := by
  obtain ⟨y0, N, c0, rfl, hN⟩ : ∃ a n c, v0 = .slice a n c ∧ q0.length = n := by
    rcases hv0.sl with ⟨⟨a, c, h⟩, h2⟩ | ⟨blk, off, cap, rfl, _⟩
    · exact ⟨_, _, _, h, by rw [h2]; rfl⟩
    · exact ⟨_, _, _, rfl, rfl⟩
  obtain ⟨z0, L, d0, rfl, hL⟩ : ∃ a n c, v1 = .slice a n c ∧ q1.length = n := by
    rcases hv1.sl with ⟨⟨a, c, h⟩, h2⟩ | ⟨blk, off, cap, rfl, _⟩
    · exact ⟨_, _, _, h, by rw [h2]; rfl⟩
    · exact ⟨_, _, _, rfl, rfl⟩
  have HV0 := hid hv0
  have HV1 := hid hv1
  have HN := hid hN
  have HLN := hid hL
  have HT := hid ht
  clear ht hv0 hv1 hN hL
  go_enter Tryd.func5, Tryd.ntmps5
  go_wp2_with fail
  refine (lfirst_any _ HT.out).mono ?_
  rintro e w1 ⟨rfl, k1⟩
  have K1 := hid k1
  clear k1
  by_cases hl : 100 < N
  · have e1 : decide ((N : Int) > 100) = true := decide_eq_true (by omega)
    go_wp2
    go_ret
    exact ⟨rfl, K1.out⟩
  have e1 : decide ((N : Int) > 100) = false := decide_eq_false (by omega)
  have HN1 : Hid (N ≤ 100) := hid (by omega)
  clear hl
  by_cases hl : 100 < L
  · have e2 : decide ((L : Int) > 100) = true := decide_eq_true (by omega)
    go_wp2
    go_ret
    exact ⟨rfl, K1.out⟩
  have e2 : decide ((L : Int) > 100) = false := decide_eq_false (by omega)
  have HL1 : Hid (L ≤ 100) := hid (by omega)
  clear hl
  go_wp2_with fail
  refine (lgnew_any _).mono ?_
  rintro e wa ⟨B, rfl, ha, hB, ka⟩
  have HA := hid ha
  have KA := hid (K1.out.trans ka (fun _ _ h => h))
  have HB : Hid (w.heap.size ≤ B ∧ B < wa.heap.size) := hid ⟨Nat.le_trans K1.out.size hB, ha.blk.lt⟩
  clear ha hB ka K1 e1 e2
  go_wp2_with fail
  refine (lgnew_any _).mono ?_
  rintro e w2 ⟨C, rfl, hc, hC, kc⟩
  have K2 := hid (KA.out.trans kc (fun _ _ h => h))
  have HC2 := hid hc
  have HBC : Hid (w.heap.size ≤ B ∧ B < C ∧ w.heap.size ≤ C) := hid (by have := HB.out; have := KA.out.size; omega)
  have I0 : Hid (LgF w2 B zero14 0) := hid ⟨HA.out.kept kc (fun h => h), zero_le⟩
  have T0 : Hid (Kp (Jb B) w2 w2) := hid (Kp.refl _ _)
  clear hc hC kc KA HA HB
  go_wp2
  go_loopw [28] (OrI w2 B N) (fun i _ => N - (intOf i).toNat)
  case atStart => exact ⟨0, zero14, Nat.zero_le _, rfl, I0, T0⟩
  case round =>
    clear I0 T0
    obtain ⟨k, rs, hk, rfl, HF, HK⟩ := hrel
    by_cases hlt : k < N
    · have HLT := hid hlt
      have hN3 := HN1.out
      have HVK := hid (HV0.out.kept ((K2.out.mono (S' := Jb B) (fun _ _ h => h.elim)).trans HK.out (fun _ _ h => h)) (fun g hg e => by have e2 : g = B := e; have := HBC.out; omega))
      obtain ⟨q, hq⟩ : ∃ q, q0[k]?.getD (0, 0) = q := ⟨_, rfl⟩
      obtain ⟨blk, off, rfl, hcell⟩ : ∃ blk off, y0 = some ⟨blk, off, none⟩ ∧ wr.rangeAt blk (off + k * 2) (prL q) := by
        rcases HVK.out.sl with ⟨_, h⟩ | ⟨blk, off, cap, h, _, _, h3⟩
        · rw [h] at HN; have : 0 = N := HN.out; omega
        · cases h
          exact ⟨blk, off, rfl, by rw [← hq]; exact h3 k (by have := HN.out; omega)⟩
      have hpo : PrOk q := by
        rw [← hq, List.getElem?_eq_getElem (by have := HN.out; omega)]
        exact HV0.out.ok _ (List.getElem_mem _)
      have HLD := hid (pr_load hcell)
      obtain ⟨x, y⟩ := q
      obtain ⟨⟨x0, x1⟩, y0', y1⟩ := hpo
      obtain ⟨kx, hkx⟩ : ∃ kx, Int.tmod x 16 = kx := ⟨_, rfl⟩
      have hwx : IntKind.i64.wrap x = x := IntWalk.i64_in _ (by omega)
      have hwy : IntKind.i64.wrap y = y := IntWalk.i64_in _ (by omega)
      obtain ⟨W5, hW5⟩ : ∃ W, W = wr.alloc (.cells #[.int .u16 x, .int .u16 y] 52) := ⟨_, rfl⟩
      have K5 : Hid (Kp Nb wr W5) := hid (by rw [hW5]; exact (Kp.refl Nb wr).alloc _)
      have F5 := hid (HF.out.kept K5.out (fun h => h))
      have HY : Hid (0 ≤ y ∧ y < 65536) := hid ⟨y0', y1⟩
      clear hcell hq
      have CS := hid (sent_any B rs kx y W5 F5.out.at' (by omega))
      go_wp2_with (first
        | (refine wpList_val (by rfl) _ _ (exec_loadL (T := 52) (a := ⟨blk, off + k * 2, none⟩) rfl (by rfl) HLD.out) ?_))
      rw [show wr.alloc (.cells #[.int .u16 x, .int .u16 y] 52) = W5 from hW5.symm]
      clear hW5 hwx
      refine CS.out.mono ?_
      rintro e w3 ⟨rfl, h3, k3⟩
      have KR : Hid (Kp (Jb B) w2 w3) := hid ((HK.out.trans K5.out (fun _ _ h => h.elim)).trans k3 (fun _ _ h => h))
      have F3 := hid (sent_le F5.out HY.out (by omega) h3)
      clear h3 k3
      go_wp2
      go_roundw
      case rel => exact ⟨k + 1, _, HLT.out, by go_num, F3, KR⟩
      case measure => have := HLT.out; simp [intOf]; omega
    · obtain rfl : k = N := by omega
      obtain ⟨wx, rfl⟩ : ∃ W, W = wr := ⟨_, rfl⟩
      have XF := HF
      have KX : Hid (Kp Nb w wx) := hid (K2.out.trans (S' := Jb B) HK.out (fun i hi h => by have e2 : i = B := h; have := HBC.out; omega))
      have I0 : Hid (LgF wx C zero14 0) := hid ⟨HC2.out.kept HK.out (fun e => by have e2 : C = B := e; have := HBC.out; omega), zero_le⟩
      have T0 : Hid (Kp (Jb C) wx wx) := hid (Kp.refl _ _)
      obtain ⟨xs, hxs⟩ : ∃ x, rs = x := ⟨_, rfl⟩
      rw [hxs] at XF
      clear hxs HK HF hlt hk K2 HC2
      go_wp2
      go_loopw [44] (OrI wx C L) (fun i _ => L - (intOf i).toNat)
      case atStart => exact ⟨0, zero14, Nat.zero_le _, rfl, I0, T0⟩
      case round =>
        clear I0 T0
        obtain ⟨m, ys, hm, rfl, HF, HK⟩ := hrel
        by_cases hlt : m < L
        · have HLT := hid hlt
          have hN3 := HL1.out
          have HVK := hid (HV1.out.kept ((KX.out.mono (S' := Jb C) (fun _ _ h => h.elim)).trans HK.out (fun _ _ h => h)) (fun g hg e => by have e2 : g = C := e; have := HBC.out; omega))
          obtain ⟨q, hq⟩ : ∃ q, q1[m]?.getD (0, 0) = q := ⟨_, rfl⟩
          obtain ⟨blk, off, rfl, hcell⟩ : ∃ blk off, z0 = some ⟨blk, off, none⟩ ∧ wr.rangeAt blk (off + m * 2) (prL q) := by
            rcases HVK.out.sl with ⟨_, h⟩ | ⟨blk, off, cap, h, _, _, h3⟩
            · rw [h] at HLN; have : 0 = L := HLN.out; omega
            · cases h
              exact ⟨blk, off, rfl, by rw [← hq]; exact h3 m (by have := HLN.out; omega)⟩
          have hpo : PrOk q := by
            rw [← hq, List.getElem?_eq_getElem (by have := HLN.out; omega)]
            exact HV1.out.ok _ (List.getElem_mem _)
          have HLD := hid (pr_load hcell)
          obtain ⟨x, y⟩ := q
          obtain ⟨⟨x0, x1⟩, y0', y1⟩ := hpo
          obtain ⟨kx, hkx⟩ : ∃ kx, Int.tmod x 16 = kx := ⟨_, rfl⟩
          have hwx : IntKind.i64.wrap x = x := IntWalk.i64_in _ (by omega)
          have hwy : IntKind.i64.wrap y = y := IntWalk.i64_in _ (by omega)
          obtain ⟨W5, hW5⟩ : ∃ W, W = wr.alloc (.cells #[.int .u16 x, .int .u16 y] 52) := ⟨_, rfl⟩
          have K5 : Hid (Kp Nb wr W5) := hid (by rw [hW5]; exact (Kp.refl Nb wr).alloc _)
          have F5 := hid (HF.out.kept K5.out (fun h => h))
          have HY : Hid (0 ≤ y ∧ y < 65536) := hid ⟨y0', y1⟩
          clear hcell hq
          have CS := hid (sent_any C ys kx y W5 F5.out.at' (by omega))
          go_wp2_with (first
            | (refine wpList_val (by rfl) _ _ (exec_loadL (T := 52) (a := ⟨blk, off + m * 2, none⟩) rfl (by rfl) HLD.out) ?_))
          rw [show wr.alloc (.cells #[.int .u16 x, .int .u16 y] 52) = W5 from hW5.symm]
          clear hW5 hwx
          refine CS.out.mono ?_
          rintro e w3 ⟨rfl, h3, k3⟩
          have KR : Hid (Kp (Jb C) wx w3) := hid ((HK.out.trans K5.out (fun _ _ h => h.elim)).trans k3 (fun _ _ h => h))
          have F3 := hid (sent_le F5.out HY.out (by omega) h3)
          clear h3 k3
          go_wp2
          go_roundw
          case rel => exact ⟨m + 1, _, HLT.out, by go_num, F3, KR⟩
          case measure => have := HLT.out; simp [intOf]; omega
        · obtain rfl : m = L := by omega
          have HX := hid (XF.out.kept HK.out (fun e => by have e2 : B = C := e; have := HBC.out; omega))
          have HYF := HF
          have KW : Hid (Kp Nb w wr) := hid (KX.out.trans (S' := Jb C) HK.out (fun i hi h => by have e2 : i = C := h; have := HBC.out; omega))
          have BX := hid HX.out.le
          have BY := hid HYF.out.le
          have OX := hid HX.out.at'.ok
          have OY := hid HYF.out.at'.ok
          have LX := hid HX.out.at'.len
          have LY := hid HYF.out.at'.len
          have CC := hid (clone_any B xs wr HX.out.at')
          clear XF KX HK HF hlt hm
          go_wp2_with fail
          refine CC.out.mono ?_
          rintro e w3 ⟨P, rfl, hp, hP, k3⟩
          have HX3 := hid (HX.out.at'.kept k3 (fun h => h))
          have HY3 := hid (HYF.out.at'.kept k3 (fun h => h))
          have HP3 := hid hp
          have K3 := hid (KW.out.trans k3 (fun _ _ h => h))
          have CD := hid (clone_any C ys w3 HY3.out)
          have HPB : Hid (wr.heap.size ≤ P ∧ B < wr.heap.size ∧ C < wr.heap.size ∧ w.heap.size ≤ P) := hid ⟨hP, HX.out.at'.blk.lt, HYF.out.at'.blk.lt, Nat.le_trans KW.out.size hP⟩
          clear hp hP k3 CC KW
          go_wp2_with fail
          refine CD.out.mono ?_
          rintro e w4 ⟨Q, rfl, hq, hQ, k4⟩
          have HX4 := hid (HX3.out.kept k4 (fun h => h))
          have HY4 := hid (HY3.out.kept k4 (fun h => h))
          have HP4 := hid (HP3.out.kept k4 (fun h => h))
          have HQ4 := hid hq
          have K4 := hid (K3.out.trans k4 (fun _ _ h => h))
          have HQB : Hid (P < Q ∧ B < Q ∧ C < Q ∧ w.heap.size ≤ Q) := hid (by have := HP3.out.blk.lt; have := HPB.out; have := K3.out.size; omega)
          have CE := hid (ladd_any P xs (some C) ys w4 HP4.out (.inl ⟨C, rfl, HY4.out⟩))
          rw [addT_is LX.out LY.out OX.out] at CE
          clear hq hQ k4 CD K3 HX3 HY3 HP3
          go_wp2_with fail
          refine CE.out.mono ?_
          rintro e w5 ⟨rfl, h5, k5⟩
          have HP5 := hid h5
          have HX5 := hid (HX4.out.kept k5 (fun e => by have e2 : B = P := e; have := HPB.out; omega))
          have HY5 := hid (HY4.out.kept k5 (fun e => by have e2 : C = P := e; have := HPB.out; omega))
          have HQ5 := hid (HQ4.out.kept k5 (fun e => by have e2 : Q = P := e; have := HQB.out; omega))
          have K5 : Hid (Kp Nb w w5) := hid (K4.out.trans (S' := Jb P) k5 (fun i hi h => by have e2 : i = P := h; have := HPB.out; omega))
          have CF := hid (ladd_any Q ys (some B) xs w5 HQ5.out (.inl ⟨B, rfl, HX5.out⟩))
          rw [addT_is LY.out LX.out OY.out] at CF
          clear h5 k5 CE K4 HX4 HY4 HP4 HQ4
          go_wp2_with fail
          refine CF.out.mono ?_
          rintro e w6 ⟨rfl, h6, k6⟩
          have HQ6 := hid h6
          have HX6 := hid (HX5.out.kept k6 (fun e => by have e2 : B = Q := e; have := HQB.out; omega))
          have HY6 := hid (HY5.out.kept k6 (fun e => by have e2 : C = Q := e; have := HQB.out; omega))
          have HP6 := hid (HP5.out.kept k6 (fun e => by have e2 : P = Q := e; have := HQB.out; omega))
          have K6 : Hid (Kp Nb w w6) := hid (K5.out.trans (S' := Jb Q) k6 (fun i hi h => by have e2 : i = Q := h; have := HQB.out; omega))
          -- the sums
          have sP := addR_sum (LX.out.trans LY.out.symm) OX.out OY.out
          have sQ := addR_sum (LY.out.trans LX.out.symm) OY.out OX.out
          have bX := BX.out
          have bY := BY.out
          have bN := HN1.out
          have bL := HL1.out
          have nX := S_nonneg OX.out
          have nY := S_nonneg OY.out
          have eP1 := sat_small sP.1 (by omega)
          have eP2 := sat_small sP.2 (by omega)
          have eQ1 := sat_small sQ.1 (by omega)
          have eQ2 := sat_small sQ.2 (by omega)
          obtain ⟨t1, ht1⟩ : ∃ z, S1 xs + S1 ys = z := ⟨_, rfl⟩
          obtain ⟨t2, ht2⟩ : ∃ z, S2 xs + S2 ys = z := ⟨_, rfl⟩
          obtain ⟨d1, hd1⟩ : ∃ z, 2 * t1 = z := ⟨_, rfl⟩
          obtain ⟨d2, hd2⟩ : ∃ z, 2 * t2 = z := ⟨_, rfl⟩
          have okP := addR_ok OX.out OY.out
          have lnP := addR_len LX.out LY.out
          have sD := addR_sum (rs := addR xs ys) (os := addR xs ys) rfl okP okP
          have eD1 := sat_small sD.1 (by omega)
          have eD2 := sat_small sD.2 (by omega)
          have tS : ∀ rs : List RwQ, rs.length = 14 → (∀ q ∈ rs, RwOk q) → ∀ a b : Int, S1 rs = a → S2 rs = b → a ≤ 1000000000 → b ≤ 1000000000 → accR rs (nzT rs 14) = (a, b) := fun rs h1 h2 a b e1 e2 l1 l2 => by
            rw [tot_is h1 h2]
            unfold totR sat
            rw [e1, e2, mx_is]
            refine Prod.ext ?_ ?_
            · show min a 18446744073709551615 = a; omega
            · show min b 18446744073709551615 = b; omega
          have TP : Hid (accR (addR xs ys) (nzT (addR xs ys) 14) = (t1, t2)) := hid (tS _ lnP okP t1 t2 (by omega) (by omega) (by omega) (by omega))
          have TQ : Hid (accR (addR ys xs) (nzT (addR ys xs) 14) = (t1, t2)) := hid (tS _ h6.len h6.ok t1 t2 (by omega) (by omega) (by omega) (by omega))
          have TD : Hid (accR (addR (addR xs ys) (addR xs ys)) (nzT (addR (addR xs ys) (addR xs ys)) 14) = (d1, d2)) := hid (tS _ (addR_len lnP lnP) (addR_ok okP okP) d1 d2 (by omega) (by omega) (by omega) (by omega))
          have wr' : ∀ z : Int, 0 ≤ z → z ≤ 1000000000 → IntKind.u64.wrap z = z := fun z h1 h2 => by
            have e : IntKind.u64.wrap z = z % 18446744073709551616 := by simp [IntKind.wrap, IntKind.bits, IntKind.signed]
            rw [e]; omega
          have HD1 : Hid (IntKind.u64.wrap (2 * t1) = d1) := hid (by rw [hd1]; exact wr' d1 (by omega) (by omega))
          have HD2 : Hid (IntKind.u64.wrap (2 * t2) = d2) := hid (by rw [hd2]; exact wr' d2 (by omega) (by omega))
          have py := pay_small LY.out LX.out OY.out OX.out (by omega) (by omega)
          obtain ⟨pq, hpq⟩ : ∃ z, plusS (rowAt (addR ys xs) 9).2 (rowAt (addR ys xs) 10).2 = z := ⟨_, rfl⟩
          obtain ⟨px, hpx⟩ : ∃ z, plusS (rowAt xs 9).2 (rowAt xs 10).2 = z := ⟨_, rfl⟩
          obtain ⟨pz, hpy⟩ : ∃ z, plusS (rowAt ys 9).2 (rowAt ys 10).2 = z := ⟨_, rfl⟩
          rw [hpq, hpx, hpy] at py
          have HPS : Hid (IntKind.u64.wrap (px + pz) = pq) := hid (by rw [py.1]; exact wr' _ (by omega) (by omega))
          have HPQ := hid hpq
          have HPX := hid hpx
          have HPY := hid hpy
          have CT := hid (total_any (some P) (addR xs ys) w6 (.inl ⟨P, rfl, HP6.out⟩))
          rw [TP.out] at CT
          replace CT : Hid (Calls Tryd.prog 15 #[.pointer (some ⟨P, 0, none⟩)] w6 fun e w' => e = .returned (.agg #[.int .u64 t1, .int .u64 t2]) ∧ Kp Nb w6 w') := CT
          have LnP := hid lnP
          have OkP := hid okP
          clear h6 k6 CF K5 HX5 HY5 HP5 HQ5 sP sQ sD bX bY bN bL nX nY eP1 eP2 eQ1 eQ2 ht1 ht2 hd1 hd2 okP lnP eD1 eD2 tS wr' py hpq hpx hpy
          go_wp2_with fail
          refine CT.out.mono ?_
          rintro e w7 ⟨rfl, k7⟩
          obtain ⟨M, hM⟩ : ∃ M, w7.heap.size = M := ⟨_, rfl⟩
          obtain ⟨w8, hw8⟩ : ∃ W, W = w7.alloc (.cells #[.int .u64 t1, .int .u64 t2] 29) := ⟨_, rfl⟩
          have k8 : Kp Nb w6 w8 := by rw [hw8]; exact k7.alloc _
          have HM8 : Hid (Blk w8 M 29 (rL (t1, t2))) := hid (by rw [hw8, ← hM]; exact Blk.new w7 _ (rL (t1, t2)))
          have HQ8 := hid (HQ6.out.kept k8 (fun h => h))
          have HX8 := hid (HX6.out.kept k8 (fun h => h))
          have HY8 := hid (HY6.out.kept k8 (fun h => h))
          have HP8 := hid (HP6.out.kept k8 (fun h => h))
          have K8 := hid (K6.out.trans k8 (fun _ _ h => h))
          have HMP : Hid (P < M ∧ Q < M ∧ B < M) := hid (by rw [← hM]; exact ⟨Nat.lt_of_lt_of_le HP6.out.blk.lt k7.size, Nat.lt_of_lt_of_le HQ6.out.blk.lt k7.size, Nat.lt_of_lt_of_le HX6.out.blk.lt k7.size⟩)
          have CG := hid (clone_any P (addR xs ys) w8 HP8.out)
          clear k7 k8 HQ6 HX6 HY6 HP6 K6 CT
          go_wp2_with fail
          rw [show w7.alloc (.cells #[.int .u64 t1, .int .u64 t2] 29) = w8 from hw8.symm]
          try rw [hM]
          clear hw8 hM
          refine CG.out.mono ?_
          rintro e w9a ⟨G, rfl, hg, hG, k9⟩
          have HM9 := hid (HM8.out.kept k9 (fun h => h))
          have HQ9 := hid (HQ8.out.kept k9 (fun h => h))
          have HX9 := hid (HX8.out.kept k9 (fun h => h))
          have HY9 := hid (HY8.out.kept k9 (fun h => h))
          have HP9 := hid (HP8.out.kept k9 (fun h => h))
          have K9 := hid (K8.out.trans k9 (fun _ _ h => h))
          have CH := hid (ladd_any P (addR xs ys) (some G) (addR xs ys) w9a HP9.out (.inl ⟨G, rfl, hg⟩))
          rw [addT_is LnP.out LnP.out OkP.out] at CH
          clear hg hG k9 HQ8 HX8 HY8 HP8 K8 HM8 CG
          go_wp2_with fail
          refine CH.out.mono ?_
          rintro e w9 ⟨rfl, hp, k9⟩
          have HMB := hid (HM9.out.kept k9 (fun e => by have e2 : M = P := e; have := HMP.out; omega))
          have HQB9 := hid (HQ9.out.kept k9 (fun e => by have e2 : Q = P := e; have := HQB.out; omega))
          have HXB := hid (HX9.out.kept k9 (fun e => by have e2 : B = P := e; have := HPB.out; omega))
          have HYB := hid (HY9.out.kept k9 (fun e => by have e2 : C = P := e; have := HPB.out; omega))
          have HPP := hid hp
          have KF : Hid (Kp Nb w w9) := hid (K9.out.trans (S' := Jb P) k9 (fun i hi h => by have e2 : i = P := h; have := HPB.out; omega))
          have CTQ : Hid (∀ wq, Kp Nb w9 wq → Calls Tryd.prog 15 #[.pointer (some ⟨Q, 0, none⟩)] wq fun e w' => e = .returned (.agg #[.int .u64 t1, .int .u64 t2]) ∧ Kp Nb wq w') := hid (fun wq k => by
            have h := total_any (some Q) (addR ys xs) wq (.inl ⟨Q, rfl, HQB9.out.kept k (fun h => h)⟩)
            rw [TQ.out] at h
            exact h)
          have CTP : Hid (∀ wq, Kp Nb w9 wq → Calls Tryd.prog 15 #[.pointer (some ⟨P, 0, none⟩)] wq fun e w' => e = .returned (.agg #[.int .u64 d1, .int .u64 d2]) ∧ Kp Nb wq w') := hid (fun wq k => by
            have h := total_any (some P) (addR (addR xs ys) (addR xs ys)) wq (.inl ⟨P, rfl, HPP.out.kept k (fun h => h)⟩)
            rw [TD.out] at h
            exact h)
          have CPQ : Hid (∀ wq, Kp Nb w9 wq → Calls Tryd.prog 19 #[.pointer (some ⟨Q, 0, none⟩)] wq fun e w' => e = .returned (.int .u64 pq) ∧ Kp Nb wq w') := hid (fun wq k => by
            have h := pay_any Q (addR ys xs) wq (HQB9.out.kept k (fun h => h))
            rw [HPQ.out] at h
            exact h)
          have CPX : Hid (∀ wq, Kp Nb w9 wq → Calls Tryd.prog 19 #[.pointer (some ⟨B, 0, none⟩)] wq fun e w' => e = .returned (.int .u64 px) ∧ Kp Nb wq w') := hid (fun wq k => by
            have h := pay_any B xs wq (HXB.out.kept k (fun h => h))
            rw [HPX.out] at h
            exact h)
          have CPY : Hid (∀ wq, Kp Nb w9 wq → Calls Tryd.prog 19 #[.pointer (some ⟨C, 0, none⟩)] wq fun e w' => e = .returned (.int .u64 pz) ∧ Kp Nb wq w') := hid (fun wq k => by
            have h := pay_any C ys wq (HYB.out.kept k (fun h => h))
            rw [HPY.out] at h
            exact h)
          clear hp k9 CH K9 HQ9 HX9 HY9 HP9 HM9
          go_wp2_with fail
          refine region_vals2 [none, none, none, none, some 26, none, none, none, none, none, none, none, none, none, none, none, none, none, none, none, none, none, none, none, none, none, none, none, none, none, none, none, none, none, none, none, none, none, none, none, none, none, none, none, none, none, none, none, none, none, none, none, none, none, none, none, none, none, none, none, none, none, none, none, none, none, none, none, none, none, none, none, none, none, some 0, some 1, some 2, some 3, some 4, some 5, some 6, some 7, some 8, some 9, some 10, some 11, some 12, some 13, some 14, some 15, some 16, some 17, some 18, some 19, some 20, some 21, some 22, some 23, some 24, some 25] [[(12, none)], [(74, some 0)], [(13, none)], [(75, some 1), (76, some 2)], [(77, some 3)], [(11, none)], [(79, some 5)], [(13, none)], [(81, some 7)], [(82, some 8)], [(13, none)], [(84, some 10)], [(85, some 11)], [(83, some 9), (86, some 12)], [(80, some 6), (87, some 13)], [(78, some 4), (88, some 14)], [(89, some 15)], [(12, none)], [(91, some 17)], [(5, none)], [(93, some 19)], [(6, none)], [(95, some 21)], [(94, some 20), (96, some 22)], [(92, some 18), (97, some 23)], [(90, some 16), (98, some 24)], [(99, some 25)]] [some 74, some 75, some 76, some 77, some 78, some 79, some 80, some 81, some 82, some 83, some 84, some 85, some 86, some 87, some 88, some 89, some 90, some 91, some 92, some 93, some 94, some 95, some 96, some 97, some 98, some 99, some 4] [.pointer (some ⟨Q, 0, none⟩), .agg #[.int .u64 t1, .int .u64 t2], .agg #[.int .u64 t1, .int .u64 t2], .bool true, .bool true, .pointer (some ⟨P, 0, none⟩), .agg #[.int .u64 d1, .int .u64 d2], .pointer (some ⟨M, 0, none⟩), .int .u64 t1, .int .u64 d1, .pointer (some ⟨M, 1, none⟩), .int .u64 t2, .int .u64 d2, .agg #[.int .u64 d1, .int .u64 d2], .bool true, .bool true, .bool true, .pointer (some ⟨Q, 0, none⟩), .int .u64 pq, .pointer (some ⟨B, 0, none⟩), .int .u64 px, .pointer (some ⟨C, 0, none⟩), .int .u64 pz, .int .u64 pq, .bool true, .bool true, .bool true] (fun w' => Hid (Kp Nb w9 w')) (by kernel_rfl) (by kernel_rfl) (by kernel_rfl) ?hS (VFrom.all (n := 27) (by kernel_rfl) ?hstep) ?hend
          case hstep =>
            refine VFrom.cons (VStep.val _ rfl _ rfl (.pointer (some ⟨Q, 0, none⟩)) rfl trivial (fun ev wq hS he hr => ?_)) ?_
            · have r0 : ev (.tmp 12) = .pointer (some ⟨Q, 0, none⟩) := hr (12, none) (by simp); have hk := he.1; clear hr he
              go_simp
            refine VFrom.cons (VStep.call _ rfl _ rfl (.agg #[.int .u64 t1, .int .u64 t2]) rfl trivial 15 #[.pointer (some ⟨Q, 0, none⟩)] (fun ev wq hS he hr => ?_) (fun wq hS => ?_)) ?_
            · have r0 : ev (.tmp 74) = .pointer (some ⟨Q, 0, none⟩) := hr (74, some 0) (by simp); have hk := he.1; have hf := he.2; clear hr he
              go_simp
            · exact (CTQ.out wq hS.out).mono fun e w' ⟨h1, h2⟩ => ⟨h1, hid (hS.out.trans h2 (fun _ _ h => h))⟩
            refine VFrom.cons (VStep.val _ rfl _ rfl (.agg #[.int .u64 t1, .int .u64 t2]) rfl trivial (fun ev wq hS he hr => ?_)) ?_
            · have r0 : ev (.tmp 13) = .pointer (some ⟨M, 0, none⟩) := hr (13, none) (by simp); have hk := he.1; clear hr he
              exact exec_loadL rfl r0 (rw_load0 (q := (t1, t2)) (HMB.out.kept hS.out (fun h => h)))
            refine VFrom.cons (VStep.val _ rfl _ rfl (.bool true) rfl trivial (fun ev wq hS he hr => ?_)) ?_
            · have r0 : ev (.tmp 75) = .agg #[.int .u64 t1, .int .u64 t2] := hr (75, some 1) (by simp); have r1 : ev (.tmp 76) = .agg #[.int .u64 t1, .int .u64 t2] := hr (76, some 2) (by simp); have hk := he.1; clear hr he
              exact exec_eq_yes (p := (t1, t2)) (q := (t1, t2)) rfl rfl r0 r1
            refine VFrom.cons (VStep.val _ rfl _ rfl (.bool true) rfl trivial (fun ev wq hS he hr => ?_)) ?_
            · have r0 : ev (.tmp 77) = .bool true := hr (77, some 3) (by simp); have hk := he.1; clear hr he
              go_simp
            refine VFrom.cons (VStep.val _ rfl _ rfl (.pointer (some ⟨P, 0, none⟩)) rfl rfl (fun ev wq hS he hr => ?_)) ?_
            · have r0 : ev (.tmp 11) = .pointer (some ⟨P, 0, none⟩) := hr (11, none) (by simp); have hk := he.1; clear hr he
              go_simp
            refine VFrom.cons (VStep.call _ rfl _ rfl (.agg #[.int .u64 d1, .int .u64 d2]) rfl rfl 15 #[.pointer (some ⟨P, 0, none⟩)] (fun ev wq hS he hr => ?_) (fun wq hS => ?_)) ?_
            · have r0 : ev (.tmp 79) = .pointer (some ⟨P, 0, none⟩) := hr (79, some 5) (by simp); have hk := he.1; have hf := he.2; clear hr he
              go_simp
            · exact (CTP.out wq hS.out).mono fun e w' ⟨h1, h2⟩ => ⟨h1, hid (hS.out.trans h2 (fun _ _ h => h))⟩
            refine VFrom.cons (VStep.val _ rfl _ rfl (.pointer (some ⟨M, 0, none⟩)) rfl rfl (fun ev wq hS he hr => ?_)) ?_
            · have r0 : ev (.tmp 13) = .pointer (some ⟨M, 0, none⟩) := hr (13, none) (by simp); have hk := he.1; clear hr he
              go_simp
            refine VFrom.cons (VStep.val _ rfl _ rfl (.int .u64 t1) rfl rfl (fun ev wq hS he hr => ?_)) ?_
            · have r0 : ev (.tmp 81) = .pointer (some ⟨M, 0, none⟩) := hr (81, some 7) (by simp); have hk := he.1; clear hr he
              have c0 := (show wq.cell? ⟨M, 0, none⟩ = some (.int .u64 t1) from (HMB.out.kept hS.out (fun h => h)).cell 0)
              go_simp
            refine VFrom.cons (VStep.val _ rfl _ rfl (.int .u64 d1) rfl rfl (fun ev wq hS he hr => ?_)) ?_
            · have r0 : ev (.tmp 82) = .int .u64 t1 := hr (82, some 8) (by simp); have hk := he.1; clear hr he
              have e1 := HD1.out
              go_simp
            refine VFrom.cons (VStep.val _ rfl _ rfl (.pointer (some ⟨M, 1, none⟩)) rfl rfl (fun ev wq hS he hr => ?_)) ?_
            · have r0 : ev (.tmp 13) = .pointer (some ⟨M, 0, none⟩) := hr (13, none) (by simp); have hk := he.1; clear hr he
              go_simp
            refine VFrom.cons (VStep.val _ rfl _ rfl (.int .u64 t2) rfl rfl (fun ev wq hS he hr => ?_)) ?_
            · have r0 : ev (.tmp 84) = .pointer (some ⟨M, 1, none⟩) := hr (84, some 10) (by simp); have hk := he.1; clear hr he
              have c0 := (show wq.cell? ⟨M, 1, none⟩ = some (.int .u64 t2) from (HMB.out.kept hS.out (fun h => h)).cell 1)
              go_simp
            refine VFrom.cons (VStep.val _ rfl _ rfl (.int .u64 d2) rfl rfl (fun ev wq hS he hr => ?_)) ?_
            · have r0 : ev (.tmp 85) = .int .u64 t2 := hr (85, some 11) (by simp); have hk := he.1; clear hr he
              have e1 := HD2.out
              go_simp
            refine VFrom.cons (VStep.val _ rfl _ rfl (.agg #[.int .u64 d1, .int .u64 d2]) rfl rfl (fun ev wq hS he hr => ?_)) ?_
            · have r0 : ev (.tmp 83) = .int .u64 d1 := hr (83, some 9) (by simp); have r1 : ev (.tmp 86) = .int .u64 d2 := hr (86, some 12) (by simp); have hk := he.1; clear hr he
              exact exec_build (qs := #[(0, .int .u64 d1), (1, .int .u64 d2)]) rfl (by simp [r0, r1]) (build_row d1 d2 wq)
            refine VFrom.cons (VStep.val _ rfl _ rfl (.bool true) rfl rfl (fun ev wq hS he hr => ?_)) ?_
            · have r0 : ev (.tmp 80) = .agg #[.int .u64 d1, .int .u64 d2] := hr (80, some 6) (by simp); have r1 : ev (.tmp 87) = .agg #[.int .u64 d1, .int .u64 d2] := hr (87, some 13) (by simp); have hk := he.1; clear hr he
              exact exec_eq_yes (p := (d1, d2)) (q := (d1, d2)) rfl rfl r0 r1
            refine VFrom.cons (VStep.val _ rfl _ rfl (.bool true) rfl trivial (fun ev wq hS he hr => ?_)) ?_
            · have r0 : ev (.tmp 78) = .bool true := hr (78, some 4) (by simp); have r1 : ev (.tmp 88) = .bool true := hr (88, some 14) (by simp); have hk := he.1; clear hr he
              go_simp
            refine VFrom.cons (VStep.val _ rfl _ rfl (.bool true) rfl trivial (fun ev wq hS he hr => ?_)) ?_
            · have r0 : ev (.tmp 89) = .bool true := hr (89, some 15) (by simp); have hk := he.1; clear hr he
              go_simp
            refine VFrom.cons (VStep.val _ rfl _ rfl (.pointer (some ⟨Q, 0, none⟩)) rfl rfl (fun ev wq hS he hr => ?_)) ?_
            · have r0 : ev (.tmp 12) = .pointer (some ⟨Q, 0, none⟩) := hr (12, none) (by simp); have hk := he.1; clear hr he
              go_simp
            refine VFrom.cons (VStep.call _ rfl _ rfl (.int .u64 pq) rfl rfl 19 #[.pointer (some ⟨Q, 0, none⟩)] (fun ev wq hS he hr => ?_) (fun wq hS => ?_)) ?_
            · have r0 : ev (.tmp 91) = .pointer (some ⟨Q, 0, none⟩) := hr (91, some 17) (by simp); have hk := he.1; have hf := he.2; clear hr he
              go_simp
            · exact (CPQ.out wq hS.out).mono fun e w' ⟨h1, h2⟩ => ⟨h1, hid (hS.out.trans h2 (fun _ _ h => h))⟩
            refine VFrom.cons (VStep.val _ rfl _ rfl (.pointer (some ⟨B, 0, none⟩)) rfl rfl (fun ev wq hS he hr => ?_)) ?_
            · have r0 : ev (.tmp 5) = .pointer (some ⟨B, 0, none⟩) := hr (5, none) (by simp); have hk := he.1; clear hr he
              go_simp
            refine VFrom.cons (VStep.call _ rfl _ rfl (.int .u64 px) rfl rfl 19 #[.pointer (some ⟨B, 0, none⟩)] (fun ev wq hS he hr => ?_) (fun wq hS => ?_)) ?_
            · have r0 : ev (.tmp 93) = .pointer (some ⟨B, 0, none⟩) := hr (93, some 19) (by simp); have hk := he.1; have hf := he.2; clear hr he
              go_simp
            · exact (CPX.out wq hS.out).mono fun e w' ⟨h1, h2⟩ => ⟨h1, hid (hS.out.trans h2 (fun _ _ h => h))⟩
            refine VFrom.cons (VStep.val _ rfl _ rfl (.pointer (some ⟨C, 0, none⟩)) rfl rfl (fun ev wq hS he hr => ?_)) ?_
            · have r0 : ev (.tmp 6) = .pointer (some ⟨C, 0, none⟩) := hr (6, none) (by simp); have hk := he.1; clear hr he
              go_simp
            refine VFrom.cons (VStep.call _ rfl _ rfl (.int .u64 pz) rfl rfl 19 #[.pointer (some ⟨C, 0, none⟩)] (fun ev wq hS he hr => ?_) (fun wq hS => ?_)) ?_
            · have r0 : ev (.tmp 95) = .pointer (some ⟨C, 0, none⟩) := hr (95, some 21) (by simp); have hk := he.1; have hf := he.2; clear hr he
              go_simp
            · exact (CPY.out wq hS.out).mono fun e w' ⟨h1, h2⟩ => ⟨h1, hid (hS.out.trans h2 (fun _ _ h => h))⟩
            refine VFrom.cons (VStep.val _ rfl _ rfl (.int .u64 pq) rfl rfl (fun ev wq hS he hr => ?_)) ?_
            · have r0 : ev (.tmp 94) = .int .u64 px := hr (94, some 20) (by simp); have r1 : ev (.tmp 96) = .int .u64 pz := hr (96, some 22) (by simp); have hk := he.1; clear hr he
              have e1 := HPS.out
              go_simp
            refine VFrom.cons (VStep.val _ rfl _ rfl (.bool true) rfl rfl (fun ev wq hS he hr => ?_)) ?_
            · have r0 : ev (.tmp 92) = .int .u64 pq := hr (92, some 18) (by simp); have r1 : ev (.tmp 97) = .int .u64 pq := hr (97, some 23) (by simp); have hk := he.1; clear hr he
              go_simp
            refine VFrom.cons (VStep.val _ rfl _ rfl (.bool true) rfl trivial (fun ev wq hS he hr => ?_)) ?_
            · have r0 : ev (.tmp 90) = .bool true := hr (90, some 16) (by simp); have r1 : ev (.tmp 98) = .bool true := hr (98, some 24) (by simp); have hk := he.1; clear hr he
              go_simp
            refine VFrom.cons (VStep.val _ rfl _ rfl (.bool true) rfl trivial (fun ev wq hS he hr => ?_)) ?_
            · have r0 : ev (.tmp 99) = .bool true := hr (99, some 25) (by simp); have hk := he.1; clear hr he
              go_simp
            exact VFrom.nil
          case hS => exact hid (Kp.refl Nb w9).drew
          case hend =>
            intro wy hy
            have KZ := hid (KF.out.trans hy.out (fun _ _ h => h))
            clear hy
            simp only [putAll, List.zip_cons_cons, List.zip_nil_right, List.foldl_cons, List.foldl_nil, Act.put, List.setIfInBounds_toArray, List.set_cons_zero, List.set_cons_succ]
            go_wp2
            go_ret
            exact ⟨rfl, KZ.out⟩

end Go.Proofs.YtjipcmhknikcgaaDoor
