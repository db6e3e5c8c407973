/-
  Of the texts VeC, DtAy, VeD what is used. No condition but what each says.
-/
import Derived.Test.YtogoophofgkboaaGreatDoorRf
import Derived.Test.YtogoophofgkboaaGreatDoorRg
import Derived.Test.YtogoophofgkboaaGreatDoorRk
import Derived.Test.YtogoophofgkboaaGreatDoorRc
import Derived.Lib.ConvBytes
namespace Go.Proofs.YtogoophofgkboaaGreatDoor
section
open Go.RowKit
theorem pen_sepV {a b : World} {P : Nat} {v0 v' vl : Value} {c : List RunQ} (h : PenTo a b P v0 v') (hm : ClSl a vl c) (hne : ∀ g, vl.ownBlock = some g → g ≠ P ∧ v0.ownBlock ≠ some g) : ClSl b vl c :=
  hm.keptV h.kp (fun g hg hS => by
    rcases hS with h1 | h1
    · exact (hne g hg).1 h1
    · exact (hne g hg).2 h1)
def PutRv (w : World) (P : Nat) (v0 : Value) (zs0 : List Int) (c : List RunQ) (N : Nat) (i : Value) (wr : World) : Prop := ∃ k : Nat, k ≤ N ∧ i = .int .i64 k ∧ Hid (∃ v', PenAt wr P v' (zs0 ++ numBytes (N : Int) ++ runsB (c.take k)) ∧ PenTo w wr P v0 v')
set_option maxRecDepth 100000 in
set_option maxHeartbeats 4000000 in
theorem dput_at (P : Nat) (v0 : Value) (zs0 : List Int) (v : Value) (c : List RunQ) (w : World) (h : ClSl w v c) (hp : PenAt w P v0 zs0) (hl0 : zs0.length ≤ 1048576) (hne : ∀ g, v.ownBlock = some g → g ≠ P ∧ v0.ownBlock ≠ some g) (hl : c.length ≤ 1048576) :
    Calls Tryz.prog 59 #[.pointer (some ⟨P, 0, none⟩), v] w fun e w' => e = .returned (.bool (putB c)) ∧ ∃ v', PenAt w' P v' (zs0 ++ (if putB c then bytesC c else [])) ∧ PenTo w w' P v0 v' := by
  have CR := hid (dright_any v c w h (by omega))
  have HM := hid h
  have HP := hid hp
  have HNE := hid hne
  have HL0 := hid hl0
  obtain ⟨N, hN⟩ : ∃ N, c.length = N := ⟨_, rfl⟩
  have HLE := hid hN
  obtain ⟨y, d, rfl⟩ := h.shape
  have hpb : putB c = (rightC c && decide (N ≤ 1024)) := by unfold putB; rw [hN]
  rw [hpb]
  rw [hN] at CR HM HNE hl ⊢
  obtain ⟨b, hb⟩ : ∃ b, rightC c = b := ⟨_, rfl⟩
  have HRC := hid hb
  rw [hb] at CR ⊢
  clear h hp hne hN hb hpb hl0
  cases b with
  | false =>
    go_enter Tryz.func59, Tryz.ntmps59
    go_wp2_with (go_at_call 45; refine CR.out.mono ?_; rintro r w1 ⟨rfl, k1⟩; have K1 := hid k1; clear k1)
    go_ret
    exact ⟨rfl, _, HP.out.kept K1.out (fun h => h) (fun _ _ h => h), ⟨⟨K1.out.os, K1.out.tape, K1.out.output, K1.out.size, fun i hi _ => K1.out.block i hi (fun h => h)⟩, .inl rfl⟩⟩
  | true =>
    by_cases hbg : N ≤ 1024
    · have hdb : (true && decide (N ≤ 1024)) = true := by simpa using hbg
      rw [hdb]
      have hq : ¬ (N : Int) > 1024 := by omega
      have HN1 := hid hbg
      have HG : Hid (∀ q ∈ c, goodR q = true) := hid (right_good HRC.out)
      have hw : IntKind.u64.wrap (N : Int) = (N : Int) := IntWalk.u64_in _ ⟨Int.natCast_nonneg N, by omega⟩
      clear hdb
      go_enter Tryz.func59, Tryz.ntmps59
      go_wp2_with (go_at_call 45; refine CR.out.mono ?_; rintro r w1 ⟨rfl, k1⟩; have K1 := hid k1; clear k1)
      have P1 : Hid (PenAt w1 P v0 zs0) := hid (HP.out.kept K1.out (fun h => h) (fun _ _ h => h))
      have T1 : Hid (PenTo w w1 P v0 v0) := hid ((PenTo.refl w P _).kpNb K1.out)
      refine (pen_number P _ _ (N : Int) w1 P1.out (Int.natCast_nonneg N) (by omega) (by have := HL0.out; omega)).mono ?_
      rintro e w2 ⟨rfl, v2, p2, t2⟩
      have HI0 : Hid (∃ v', PenAt w2 P v' (zs0 ++ numBytes (N : Int) ++ runsB (c.take 0)) ∧ PenTo w w2 P v0 v') := hid ⟨v2, by simpa [runsB] using p2, T1.out.trans t2⟩
      clear p2 t2 hw hq hbg
      go_wp2
      go_loopw [22] (PutRv w P v0 zs0 c N) (fun i _ => N - (intOf i).toNat)
      case atStart => exact ⟨0, Nat.zero_le _, rfl, HI0⟩
      case round =>
        clear HI0
        obtain ⟨k, hk, rfl, HPK⟩ := hrel
        by_cases hlt : k < N
        · have HLT := hid hlt
          obtain ⟨v', pk, tk⟩ := HPK.out
          have HSW := hid (pen_sepV tk HM.out HNE.out)
          have HKW := hid (Kp.refl Nb wr)
          have HPL := hid pk.lt
          have HVL : Hid (∀ g, v'.ownBlock = some g → g < wr.heap.size) := hid (fun g hg => pk.own_lt hg)
          have HZS : Hid ((zs0 ++ numBytes (N : Int) ++ runsB (c.take k)).length ≤ 1148576) := hid (by
            have h1 := numBytes_length (N : Int) (by omega)
            have h2 := runsB_len (c.take k) (fun q hq => HG.out q (List.mem_of_mem_take hq))
            have h3 : (c.take k).length ≤ 1024 := by rw [List.length_take]; have := HN1.out; omega
            have h4 := HL0.out
            rw [List.length_append, List.length_append]
            omega)
          obtain ⟨blk, off, cap, e1, hc, hm, hcell⟩ := cl_shape (HSW.out.kept HKW.out) (by intro h; have := HLE.out; rw [h, List.length_nil] at this; omega)
          rw [HLE.out] at e1 hc hcell
          injection e1 with e1 _ e2
          subst e1 e2
          have HR := hid (hcell k hlt)
          obtain ⟨⟨qn, qf, qt⟩, hq⟩ : ∃ q, runAt c k = q := ⟨_, rfl⟩
          have HOK := HSW.out.1 k
          rw [hq] at HR HOK
          have HQ := hid hq
          obtain ⟨M, hM⟩ : ∃ M, wr.heap.size = M := ⟨_, rfl⟩
          obtain ⟨W2, hW2⟩ : ∃ W, W = (wr.alloc (.cells (runL (0, 0, 0)).toArray 38)).setCells M 0 (runL (qn, qf, qt)) := ⟨_, rfl⟩
          have hz := Blk.new wr 38 (runL (0, 0, 0))
          rw [hM] at hz
          have KW : Hid (Kp Nb wr W2) := hid (by rw [hW2]; exact Kp.setCells (fun h => absurd h (by omega)) _ 0 _ ((Kp.refl Nb wr).alloc _))
          have HMW : Hid (wr.heap.size = M) := hid hM
          have TH := hid (run_there (q := (qn, qf, qt)) hz)
          have HZ : Hid (Blk W2 M 38 (runL (qn, qf, qt))) := hid (by rw [hW2]; exact row_set hz rfl)
          have HK2 := hid (HKW.out.trans KW.out (fun _ _ h => h))
          unfold maxLen at hm
          obtain ⟨fs, hfs⟩ := under_run
          clear hz hcell hq
          go_upto_region 7 with (first
            | (refine wpList_load_mid (by rfl) 38 (.tmp 24) (by rfl) blk (off + k * 3) (by rfl) (runL (qn, qf, qt)) _ HR.out hfs rfl (run_infoL (qn, qf, qt)) ?_)
            | (refine wpList_store_mid (by rfl) 38 (.tmp 6) (.tmp 25) (by rfl) M 0 (runL (qn, qf, qt)).toArray (by rfl) (by rfl) TH.out (run_infoA (qn, qf, qt)) (run_one (qn, qf, qt)) ?_))
          rw [show (wr.alloc (.cells #[.int .i64 0, .int .i64 0, .int .i64 0] 38)).setCells M 0 (runL (qn, qf, qt)) = W2 from hW2.symm]
          clear hW2 TH hM
          have c0 : W2.cell? ⟨M, 0, none⟩ = some (.int .i64 qn) := HZ.out.cell 0
          have c1 : W2.cell? ⟨M, 1, none⟩ = some (.int .i64 qf) := HZ.out.cell 1
          have c2 : W2.cell? ⟨M, 2, none⟩ = some (.int .i64 qt) := HZ.out.cell 2
          have HGQ : Hid (0 ≤ qn ∧ qn ≤ 7 ∧ 1 ≤ qf ∧ qf ≤ qt ∧ qt ≤ 1099511627776) := hid (by
            have := goodR_of.1 (HG.out (runAt c k) (runAt_mem (by rw [HLE.out]; exact hlt)))
            rwa [HQ.out] at this)
          have PK2 : Hid (PenAt W2 P v' (zs0 ++ numBytes (N : Int) ++ runsB (c.take k))) := hid (pk.kept KW.out (fun h => h) (fun _ _ h => h))
          have TK2 : Hid (PenTo w W2 P v0 v') := hid (tk.kpNb KW.out)
          have HMP : Hid (M ≠ P) := hid (by have := HMW.out; have := HPL.out; omega)
          have HVM : Hid (v'.ownBlock ≠ some M) := hid (fun hg => by have := HVL.out M hg; have := HMW.out; omega)
          have HSN : Hid (zs0 ++ numBytes (N : Int) ++ runsB (c.take k) ++ numBytes qn ++ numBytes qf ++ numBytes (qt - qf) = zs0 ++ numBytes (N : Int) ++ runsB (c.take (k + 1))) := hid (by
            rw [runsB_snoc c k (by rw [HLE.out]; exact hlt), HQ.out]; unfold bytesR; simp only [List.append_assoc])
          have hb1 : (numBytes qn).length ≤ 9 := numBytes_length qn (by have := HGQ.out; omega)
          have hb2 : (numBytes qf).length ≤ 9 := numBytes_length qf (by have := HGQ.out; omega)
          have HB12 := hid (And.intro hb1 hb2)
          clear pk tk HPK hb1 hb2
          obtain ⟨zs, hzs⟩ : ∃ zs, zs0 ++ numBytes (N : Int) ++ runsB (c.take k) = zs := ⟨_, rfl⟩
          rw [hzs] at PK2 HZS HSN
          clear hzs
          have hw1 : IntKind.u64.wrap qn = qn := IntWalk.u64_in _ (by have := HGQ.out; omega)
          have hw2 : IntKind.u64.wrap qf = qf := IntWalk.u64_in _ (by have := HGQ.out; omega)
          have hw3 : IntKind.u64.wrap (qt - qf) = qt - qf := IntWalk.u64_in _ (by have := HGQ.out; omega)
          have hw4 : IntKind.i64.wrap (qt - qf) = qt - qf := IntWalk.i64_in _ (by have := HGQ.out; omega)
          go_wp2_with fail
          refine (pen_number P v' zs qn W2 PK2.out HGQ.out.1 (by have := HGQ.out; omega) (by have := HZS.out; omega)).mono ?_
          rintro e w3 ⟨rfl, v3, p3, t3⟩
          obtain ⟨b3, s3⟩ := t3.box HZ.out HMP.out HVM.out
          have HB3 := hid b3
          have HS3 := hid s3
          have PK3 := hid p3
          have TK3 := hid (TK2.out.trans t3)
          clear p3 t3 b3 s3 c0 c1 c2
          have c0 : w3.cell? ⟨M, 0, none⟩ = some (.int .i64 qn) := HB3.out.cell 0
          have c1 : w3.cell? ⟨M, 1, none⟩ = some (.int .i64 qf) := HB3.out.cell 1
          have c2 : w3.cell? ⟨M, 2, none⟩ = some (.int .i64 qt) := HB3.out.cell 2
          go_wp2_with fail
          refine (pen_number P v3 (zs ++ numBytes qn) qf w3 PK3.out (by have := HGQ.out; omega) (by have := HGQ.out; omega) (by have := HZS.out; have := HB12.out; rw [List.length_append]; omega)).mono ?_
          rintro e w4 ⟨rfl, v4, p4, t4⟩
          obtain ⟨b4, s4⟩ := t4.box HB3.out HMP.out HS3.out
          have HB4 := hid b4
          have PK4 := hid p4
          have TK4 := hid (TK3.out.trans t4)
          clear p4 t4 b4 s4 c0 c1 c2
          have c0 : w4.cell? ⟨M, 0, none⟩ = some (.int .i64 qn) := HB4.out.cell 0
          have c1 : w4.cell? ⟨M, 1, none⟩ = some (.int .i64 qf) := HB4.out.cell 1
          have c2 : w4.cell? ⟨M, 2, none⟩ = some (.int .i64 qt) := HB4.out.cell 2
          go_wp2_with fail
          refine (pen_number P v4 (zs ++ numBytes qn ++ numBytes qf) (qt - qf) w4 PK4.out (by have := HGQ.out; omega) (by have := HGQ.out; omega) (by have := HZS.out; have := HB12.out; rw [List.length_append, List.length_append]; omega)).mono ?_
          rintro e w5 ⟨rfl, v5, p5, t5⟩
          have HPN : Hid (∃ v', PenAt w5 P v' (zs0 ++ numBytes (N : Int) ++ runsB (c.take (k + 1))) ∧ PenTo w w5 P v0 v') := hid ⟨v5, by rw [← HSN.out]; exact p5, TK4.out.trans t5⟩
          clear p5 t5 c0 c1 c2 hw1 hw2 hw3 hw4
          go_wp2
          go_roundw
          case rel => exact ⟨k + 1, HLT.out, by go_num, HPN⟩
          case measure => have := HLT.out; simp [intOf]; omega
        · obtain rfl : k = N := by omega
          go_wp2
          go_ret
          obtain ⟨v', pk, tk⟩ := HPK.out
          rw [← HLE.out, List.take_length] at pk
          exact ⟨rfl, v', by simpa [bytesC, List.append_assoc] using pk, tk⟩
    · have hdb : (true && decide (N ≤ 1024)) = false := by simpa using hbg
      rw [hdb]
      have hq : (N : Int) > 1024 := by omega
      clear hdb hbg
      go_enter Tryz.func59, Tryz.ntmps59
      go_wp2_with (go_at_call 45; refine CR.out.mono ?_; rintro r w1 ⟨rfl, k1⟩; have K1 := hid k1; clear k1)
      go_ret
      exact ⟨rfl, _, HP.out.kept K1.out (fun h => h) (fun _ _ h => h), ⟨⟨K1.out.os, K1.out.tape, K1.out.output, K1.out.size, fun i hi _ => K1.out.block i hi (fun h => h)⟩, .inl rfl⟩⟩
end
section
open Go.RowKit
theorem st_add (w : World) (a b : List Int) (ha : a.length ≤ 8388608) (hb : b.length ≤ 8388608) : (Op.stringOp .add (st a) (st b)).run Tryz.prog w = .ok (.string (st (a ++ b))) w := by
  have h := add_bs w (a.map fun z => UInt8.ofNat z.toNat) (b.map fun z => UInt8.ofNat z.toNat) (by rw [List.length_map]; exact ha) (by rw [List.length_map]; exact hb)
  rw [← List.map_append] at h
  exact h
def RbcR (w : World) (c : List RunQ) (i s : Value) (wr : World) : Prop := ∃ k : Nat, k ≤ c.length ∧ i = .int .i64 k ∧ s = .string (st (numBytes (c.length : Int) ++ runsB (c.take k))) ∧ Hid (Kp Nb w wr)
set_option maxRecDepth 100000 in
set_option maxHeartbeats 4000000 in
theorem rbytes_any (v : Value) (c : List RunQ) (w : World) (hs : ClSl w v c) (hg : ∀ q ∈ c, goodR q = true) (hl : c.length ≤ 1000) :
    Calls Tryz.prog 62 #[v] w fun e w' => e = .returned (.string (st (bytesC c))) ∧ Kp Nb w w' := by
  obtain ⟨pv, dv, rfl⟩ := hs.shape
  have HGG := hid hg
  have HNL : Hid ((numBytes (c.length : Int)).length ≤ 9) := hid (numBytes_length (c.length : Int) (by omega))
  have CN : Hid (∀ w, Calls Tryz.prog 61 #[.int .u64 (c.length : Int)] w fun e w' => e = .returned (.string (st (numBytes (c.length : Int)))) ∧ Kp Nb w w') := hid (fun w => refn_number _ w (by omega) (by omega))
  obtain ⟨L, hL⟩ : ∃ L, c.length = L := ⟨_, rfl⟩
  have HLE := hid hL
  have HS := hid hs
  rw [hL] at CN HS hl ⊢
  have HRB : Hid (∀ k, k ≤ L → (runsB (c.take k)).length ≤ 27000) := hid (fun k hk => by
    have h := runsB_len (c.take k) (fun q hq => HGG.out q (List.mem_of_mem_take hq))
    rw [List.length_take] at h
    omega)
  have hLb := hl
  clear hs hg hL hl
  obtain ⟨S0, hS0⟩ : ∃ s, st (numBytes (L : Int)) = s := ⟨_, rfl⟩
  have HS0 : Hid (S0 = st (numBytes (c.length : Int) ++ runsB (c.take 0))) := hid (by rw [← hS0, HLE.out, List.take_zero]; show _ = st (_ ++ []); rw [List.append_nil])
  rw [hS0] at CN
  clear hS0
  go_enter Tryz.func62, Tryz.ntmps62
  go_wp2_with fail
  refine (CN.out w).mono ?_
  rintro r w1 ⟨rfl, k1⟩
  have K1 := hid k1
  have T0 : Hid (Kp Nb w w1) := K1
  clear k1 CN
  go_wp2_with fail
  go_loopw [12, 3] (RbcR w c) (fun i _ _ => L - (intOf i).toNat)
  case atStart => exact ⟨0, Nat.zero_le _, rfl, by rw [HS0.out], T0⟩
  case round =>
    clear T0 K1
    obtain ⟨k, hk, rfl, rfl, HK⟩ := hrel
    rw [HLE.out] at hk
    by_cases hlt : k < L
    · obtain ⟨blk, off, cap, e1, hc, hm, hcell⟩ := cl_shape (HS.out.kept HK.out) (by intro h; have := HLE.out; rw [h, List.length_nil] at this; omega)
      rw [HLE.out] at e1 hc hcell
      injection e1 with e1 _ e2
      subst e1 e2
      have HR := hid (hcell k hlt)
      obtain ⟨⟨qn, qf, qt⟩, hq⟩ : ∃ q, runAt c k = q := ⟨_, rfl⟩
      have HOK := HS.out.1 k
      rw [hq] at HR HOK
      have HQ := hid hq
      obtain ⟨M, hM⟩ : ∃ M, wr.heap.size = M := ⟨_, rfl⟩
      obtain ⟨W2, hW2⟩ : ∃ W, W = (wr.alloc (.cells (runL (0, 0, 0)).toArray 38)).setCells M 0 (runL (qn, qf, qt)) := ⟨_, rfl⟩
      have hz := Blk.new wr 38 (runL (0, 0, 0))
      rw [hM] at hz
      have KW : Hid (Kp Nb wr W2) := hid (by rw [hW2]; exact Kp.setCells (fun h => absurd h (by omega)) _ 0 _ ((Kp.refl Nb wr).alloc _))
      have HMW : Hid (wr.heap.size = M) := hid hM
      have TH := hid (run_there (q := (qn, qf, qt)) hz)
      have HZ : Hid (Blk W2 M 38 (runL (qn, qf, qt))) := hid (by rw [hW2]; exact row_set hz rfl)
      have HK2 := hid (HK.out.trans KW.out (fun _ _ h => h))
      unfold maxLen at hm
      obtain ⟨fs, hfs⟩ := under_run
      clear hz hcell hq
      go_upto_region 5 with (first
        | (refine wpList_load_mid (by rfl) 38 (.tmp 14) (by rfl) blk (off + k * 3) (by rfl) (runL (qn, qf, qt)) _ HR.out hfs rfl (run_infoL (qn, qf, qt)) ?_)
        | (refine wpList_store_mid (by rfl) 38 (.tmp 5) (.tmp 15) (by rfl) M 0 (runL (qn, qf, qt)).toArray (by rfl) (by rfl) TH.out (run_infoA (qn, qf, qt)) (run_one (qn, qf, qt)) ?_))
      rw [show (wr.alloc (.cells #[.int .i64 0, .int .i64 0, .int .i64 0] 38)).setCells M 0 (runL (qn, qf, qt)) = W2 from hW2.symm]
      clear hW2 TH hM
      have c0 : W2.cell? ⟨M, 0, none⟩ = some (.int .i64 qn) := HZ.out.cell 0
      have c1 : W2.cell? ⟨M, 1, none⟩ = some (.int .i64 qf) := HZ.out.cell 1
      have c2 : W2.cell? ⟨M, 2, none⟩ = some (.int .i64 qt) := HZ.out.cell 2
      have hkc : k < c.length := by rw [HLE.out]; exact hlt
      have hgq := HGG.out _ (runAt_mem hkc)
      have hsn := runsB_snoc c k hkc
      rw [HQ.out] at hgq hsn
      have g := goodR_of.1 hgq
      dsimp only at g
      have HLT := hid hlt
      have hl0 := numBytes_length qn (by omega)
      have hl1 := numBytes_length qf (by omega)
      obtain ⟨dd, hdd⟩ : ∃ d, qt - qf = d := ⟨_, rfl⟩
      have hl2 := numBytes_length dd (by omega)
      have hnl := HNL.out
      have hpl := HRB.out k (by omega)
      have WD : Hid (qt - qf = dd) := hid hdd
      have WS : Hid (IntKind.i64.wrap (qt - qf) = qt - qf) := hid (IntWalk.i64_in _ (by omega))
      have W0 : Hid (IntKind.u64.wrap qn = qn) := hid (IntWalk.u64_in _ (by omega))
      have W1 : Hid (IntKind.u64.wrap qf = qf) := hid (IntWalk.u64_in _ (by omega))
      have W2' : Hid (IntKind.u64.wrap dd = dd) := hid (IntWalk.u64_in _ (by omega))
      have C0 : Hid (∀ wx, Calls Tryz.prog 61 #[.int .u64 qn] wx fun e w' => e = .returned (.string (st (numBytes qn))) ∧ Kp Nb wx w') := hid (fun wx => refn_number _ wx (by omega) (by omega))
      have C1 : Hid (∀ wx, Calls Tryz.prog 61 #[.int .u64 qf] wx fun e w' => e = .returned (.string (st (numBytes qf))) ∧ Kp Nb wx w') := hid (fun wx => refn_number _ wx (by omega) (by omega))
      have C2 : Hid (∀ wx, Calls Tryz.prog 61 #[.int .u64 dd] wx fun e w' => e = .returned (.string (st (numBytes dd))) ∧ Kp Nb wx w') := hid (fun wx => refn_number _ wx (by omega) (by omega))
      obtain ⟨P, hP⟩ : ∃ P, numBytes (c.length : Int) ++ runsB (c.take k) = P := ⟨_, rfl⟩
      have hPl : P.length ≤ 27009 := by rw [← hP, List.length_append]; omega
      have HSN : Hid (st (P ++ (numBytes qn ++ numBytes qf ++ numBytes dd)) = st (numBytes (c.length : Int) ++ runsB (c.take (k + 1)))) := hid (by
        rw [← hP, hsn]
        unfold bytesR
        dsimp only
        rw [hdd, List.append_assoc])
      rw [hP]
      obtain ⟨x0, hx0⟩ : ∃ x, numBytes qn = x := ⟨_, rfl⟩
      obtain ⟨x1, hx1⟩ : ∃ x, numBytes qf = x := ⟨_, rfl⟩
      obtain ⟨x2, hx2⟩ : ∃ x, numBytes dd = x := ⟨_, rfl⟩
      rw [hx0] at hl0 C0 HSN
      rw [hx1] at hl1 C1 HSN
      rw [hx2] at hl2 C2 HSN
      obtain ⟨s0, hs0⟩ : ∃ x, st x0 = x := ⟨_, rfl⟩
      obtain ⟨s1, hs1⟩ : ∃ x, st x1 = x := ⟨_, rfl⟩
      obtain ⟨s2, hs2⟩ : ∃ x, st x2 = x := ⟨_, rfl⟩
      obtain ⟨s01, hs01⟩ : ∃ x, st (x0 ++ x1) = x := ⟨_, rfl⟩
      obtain ⟨s02, hs02⟩ : ∃ x, st (x0 ++ x1 ++ x2) = x := ⟨_, rfl⟩
      obtain ⟨sS, hsS⟩ : ∃ x, st P = x := ⟨_, rfl⟩
      obtain ⟨sN, hsN⟩ : ∃ x, st (P ++ (x0 ++ x1 ++ x2)) = x := ⟨_, rfl⟩
      have A1 : Hid (∀ w : World, (Op.stringOp .add s0 s1).run Tryz.prog w = .ok (.string s01) w) := hid (fun w => by rw [← hs0, ← hs1, ← hs01]; exact st_add w _ _ (by omega) (by omega))
      have A2 : Hid (∀ w : World, (Op.stringOp .add s01 s2).run Tryz.prog w = .ok (.string s02) w) := hid (fun w => by rw [← hs01, ← hs2, ← hs02]; exact st_add w _ _ (by rw [List.length_append]; omega) (by omega))
      have A3 : Hid (∀ w : World, (Op.stringOp .add sS s02).run Tryz.prog w = .ok (.string sN) w) := hid (fun w => by rw [← hsS, ← hs02, ← hsN]; exact st_add w _ _ (by omega) (by simp only [List.length_append]; omega))
      rw [hs0] at C0
      rw [hs1] at C1
      rw [hs2] at C2
      rw [hsN] at HSN
      rw [hsS]
      clear hkc hgq hsn g hl0 hl1 hl2 hdd hnl hpl hP hPl hx0 hx1 hx2 hs0 hs1 hs2 hs01 hs02 hsS hsN c0 c1 c2 HR KW HK HMW
      refine region_vals2 [none, none, none, some 19, none, none, none, none, none, none, none, none, none, none, none, none, some 0, some 1, some 2, some 3, some 4, some 5, some 6, some 7, some 8, some 9, some 10, some 11, some 12, some 13, some 14, some 15, some 16, some 17, some 18, none, none] [[(3, none)], [(5, none)], [(17, some 1)], [(18, some 2)], [(19, some 3)], [(5, none)], [(21, some 5)], [(22, some 6)], [(23, some 7)], [(20, some 4), (24, some 8)], [(5, none)], [(26, some 10)], [(5, none)], [(28, some 12)], [(27, some 11), (29, some 13)], [(30, some 14)], [(31, some 15)], [(25, some 9), (32, some 16)], [(16, some 0), (33, some 17)], [(34, some 18)]] [some 16, some 17, some 18, some 19, some 20, some 21, some 22, some 23, some 24, some 25, some 26, some 27, some 28, some 29, some 30, some 31, some 32, some 33, some 34, some 3] [.string sS, .pointer (some ⟨M, 0, none⟩), .int .i64 qn, .int .u64 qn, .string s0, .pointer (some ⟨M, 1, none⟩), .int .i64 qf, .int .u64 qf, .string s1, .string s01, .pointer (some ⟨M, 2, none⟩), .int .i64 qt, .pointer (some ⟨M, 1, none⟩), .int .i64 qf, .int .i64 dd, .int .u64 dd, .string s2, .string s02, .string sN, .string sN] (fun w' => Hid (Kp Nb W2 w')) (by kernel_rfl) (by kernel_rfl) (by kernel_rfl) ?hS (VFrom.all (n := 20) (by kernel_rfl) ?hstep) ?hend
      case hstep =>
        refine VFrom.cons (VStep.val _ rfl _ rfl (.string sS) rfl trivial (fun ev wq hS he hr => ?_)) ?_
        · have r0 : ev (.tmp 3) = .string sS := hr (3, none) (by simp); have hk := he.1; clear hr he
          go_simp
        refine VFrom.cons (VStep.val _ rfl _ rfl (.pointer (some ⟨M, 0, none⟩)) rfl trivial (fun ev wq hS he hr => ?_)) ?_
        · have r0 : ev (.tmp 5) = .pointer (some ⟨M, 0, none⟩) := hr (5, none) (by simp); have hk := he.1; clear hr he
          go_simp
        refine VFrom.cons (VStep.val _ rfl _ rfl (.int .i64 qn) rfl trivial (fun ev wq hS he hr => ?_)) ?_
        · have r0 : ev (.tmp 17) = .pointer (some ⟨M, 0, none⟩) := hr (17, some 1) (by simp); have hk := he.1; clear hr he
          have c0 := (HZ.out.kept hS.out (fun h => h)).cell 0
          go_simp
        refine VFrom.cons (VStep.val _ rfl _ rfl (.int .u64 qn) rfl trivial (fun ev wq hS he hr => ?_)) ?_
        · have r0 : ev (.tmp 18) = .int .i64 qn := hr (18, some 2) (by simp); have hk := he.1; clear hr he
          have e1 := W0.out
          go_simp
        refine VFrom.cons (VStep.call _ rfl _ rfl (.string s0) rfl trivial 61 #[.int .u64 qn] (fun ev wq hS he hr => ?_) (fun wq hS => ?_)) ?_
        · have r0 : ev (.tmp 19) = .int .u64 qn := hr (19, some 3) (by simp); have hk := he.1; have hf := he.2; clear hr he
          go_simp
        · exact (C0.out wq).mono fun e w' ⟨h1, h2⟩ => ⟨h1, hS.out.trans h2 (fun _ _ h => h)⟩
        refine VFrom.cons (VStep.val _ rfl _ rfl (.pointer (some ⟨M, 1, none⟩)) rfl trivial (fun ev wq hS he hr => ?_)) ?_
        · have r0 : ev (.tmp 5) = .pointer (some ⟨M, 0, none⟩) := hr (5, none) (by simp); have hk := he.1; clear hr he
          go_simp
        refine VFrom.cons (VStep.val _ rfl _ rfl (.int .i64 qf) rfl trivial (fun ev wq hS he hr => ?_)) ?_
        · have r0 : ev (.tmp 21) = .pointer (some ⟨M, 1, none⟩) := hr (21, some 5) (by simp); have hk := he.1; clear hr he
          have c0 := (HZ.out.kept hS.out (fun h => h)).cell 1
          go_simp
        refine VFrom.cons (VStep.val _ rfl _ rfl (.int .u64 qf) rfl trivial (fun ev wq hS he hr => ?_)) ?_
        · have r0 : ev (.tmp 22) = .int .i64 qf := hr (22, some 6) (by simp); have hk := he.1; clear hr he
          have e1 := W1.out
          go_simp
        refine VFrom.cons (VStep.call _ rfl _ rfl (.string s1) rfl trivial 61 #[.int .u64 qf] (fun ev wq hS he hr => ?_) (fun wq hS => ?_)) ?_
        · have r0 : ev (.tmp 23) = .int .u64 qf := hr (23, some 7) (by simp); have hk := he.1; have hf := he.2; clear hr he
          go_simp
        · exact (C1.out wq).mono fun e w' ⟨h1, h2⟩ => ⟨h1, hS.out.trans h2 (fun _ _ h => h)⟩
        refine VFrom.cons (VStep.val _ rfl _ rfl (.string s01) rfl trivial (fun ev wq hS he hr => ?_)) ?_
        · have r0 : ev (.tmp 20) = .string s0 := hr (20, some 4) (by simp); have r1 : ev (.tmp 24) = .string s1 := hr (24, some 8) (by simp); have hk := he.1; clear hr he
          have e1 := A1.out wq
          go_simp
        refine VFrom.cons (VStep.val _ rfl _ rfl (.pointer (some ⟨M, 2, none⟩)) rfl trivial (fun ev wq hS he hr => ?_)) ?_
        · have r0 : ev (.tmp 5) = .pointer (some ⟨M, 0, none⟩) := hr (5, none) (by simp); have hk := he.1; clear hr he
          go_simp
        refine VFrom.cons (VStep.val _ rfl _ rfl (.int .i64 qt) rfl trivial (fun ev wq hS he hr => ?_)) ?_
        · have r0 : ev (.tmp 26) = .pointer (some ⟨M, 2, none⟩) := hr (26, some 10) (by simp); have hk := he.1; clear hr he
          have c0 := (HZ.out.kept hS.out (fun h => h)).cell 2
          go_simp
        refine VFrom.cons (VStep.val _ rfl _ rfl (.pointer (some ⟨M, 1, none⟩)) rfl trivial (fun ev wq hS he hr => ?_)) ?_
        · have r0 : ev (.tmp 5) = .pointer (some ⟨M, 0, none⟩) := hr (5, none) (by simp); have hk := he.1; clear hr he
          go_simp
        refine VFrom.cons (VStep.val _ rfl _ rfl (.int .i64 qf) rfl trivial (fun ev wq hS he hr => ?_)) ?_
        · have r0 : ev (.tmp 28) = .pointer (some ⟨M, 1, none⟩) := hr (28, some 12) (by simp); have hk := he.1; clear hr he
          have c0 := (HZ.out.kept hS.out (fun h => h)).cell 1
          go_simp
        refine VFrom.cons (VStep.val _ rfl _ rfl (.int .i64 dd) rfl trivial (fun ev wq hS he hr => ?_)) ?_
        · have r0 : ev (.tmp 27) = .int .i64 qt := hr (27, some 11) (by simp); have r1 : ev (.tmp 29) = .int .i64 qf := hr (29, some 13) (by simp); have hk := he.1; clear hr he
          have e1 := WS.out; have e2 := WD.out; rw [e2] at e1
          go_simp
        refine VFrom.cons (VStep.val _ rfl _ rfl (.int .u64 dd) rfl trivial (fun ev wq hS he hr => ?_)) ?_
        · have r0 : ev (.tmp 30) = .int .i64 dd := hr (30, some 14) (by simp); have hk := he.1; clear hr he
          have e1 := W2'.out
          go_simp
        refine VFrom.cons (VStep.call _ rfl _ rfl (.string s2) rfl trivial 61 #[.int .u64 dd] (fun ev wq hS he hr => ?_) (fun wq hS => ?_)) ?_
        · have r0 : ev (.tmp 31) = .int .u64 dd := hr (31, some 15) (by simp); have hk := he.1; have hf := he.2; clear hr he
          go_simp
        · exact (C2.out wq).mono fun e w' ⟨h1, h2⟩ => ⟨h1, hS.out.trans h2 (fun _ _ h => h)⟩
        refine VFrom.cons (VStep.val _ rfl _ rfl (.string s02) rfl trivial (fun ev wq hS he hr => ?_)) ?_
        · have r0 : ev (.tmp 25) = .string s01 := hr (25, some 9) (by simp); have r1 : ev (.tmp 32) = .string s2 := hr (32, some 16) (by simp); have hk := he.1; clear hr he
          have e1 := A2.out wq
          go_simp
        refine VFrom.cons (VStep.val _ rfl _ rfl (.string sN) rfl trivial (fun ev wq hS he hr => ?_)) ?_
        · have r0 : ev (.tmp 16) = .string sS := hr (16, some 0) (by simp); have r1 : ev (.tmp 33) = .string s02 := hr (33, some 17) (by simp); have hk := he.1; clear hr he
          have e1 := A3.out wq
          go_simp
        refine VFrom.cons (VStep.val _ rfl _ rfl (.string sN) rfl trivial (fun ev wq hS he hr => ?_)) ?_
        · have r0 : ev (.tmp 34) = .string sN := hr (34, some 18) (by simp); have hk := he.1; clear hr he
          go_simp
        exact VFrom.nil
      case hS => exact hid ((Kp.refl Nb W2).drew)
      case hend =>
        intro w5 h5
        have K5 := hid (HK2.out.trans h5.out (fun _ _ h => h))
        clear h5 C0 C1 C2 A1 A2 A3 HZ HK2 WD WS W0 W1 W2'
        simp only [putAll, List.zip_cons_cons, List.zip_nil_right, List.foldl_cons, List.foldl_nil, Act.put, List.setIfInBounds_toArray, List.set_cons_zero, List.set_cons_succ]
        go_wp2
        go_roundw
        case rel => exact ⟨k + 1, by rw [HLE.out]; have := HLT.out; omega, by go_num, by rw [HSN.out], K5⟩
        case measure => have := HLT.out; simp [intOf]; omega
    · obtain rfl : k = L := by omega
      have HE : Hid (st (numBytes (c.length : Int) ++ runsB (c.take k)) = st (bytesC c)) := hid (by unfold bytesC; rw [List.take_of_length_le (Nat.le_of_eq HLE.out)])
      rw [HE.out]
      go_wp2
      go_ret
      exact ⟨rfl, HK.out⟩
end
section
open Go.RowKit
theorem str_under : ∃ u, Tryz.prog.underlying 9 = some u := ⟨_, Tryz.underlying9⟩
set_option maxRecDepth 100000 in
theorem conv_str (zs : List Int) (hz : IsBytes zs) (hl : zs.length ≤ 1000000) (w : World) : ∃ (y : Option Addr) (c : Nat) (w' : World), (convert 9 26 (.string (st zs))).run Tryz.prog w = .ok (.slice y zs.length c) w' ∧ BySl (fun i => i < w.heap.size) w' (.slice y zs.length c) zs ∧ Kp Nb w w' := by
  obtain ⟨u, hu⟩ := str_under
  have h := Lib.run_convert_string_bytes (P := Tryz.prog) w 9 26 5 (st zs) hu Tryz.underlying26 Tryz.underlying5
  rw [st_size] at h
  refine ⟨_, _, _, h, ⟨hz, .inr ⟨w.heap.size, 0, _, rfl, grownCap_ge _ _ _ _, grownCap_le_maxLen _ _ _ _ (by unfold maxLen; omega), fun i hi => ?_, fun _ h => absurd h (Nat.lt_irrefl _)⟩⟩, ⟨?_, ?_, ?_, ?_, fun k hk _ => Lib.bytesWorld_at_old _ _ _ _ hk⟩⟩
  · rw [Nat.zero_add, Lib.bytesWorld_cell _ _ _ i (by rw [st_size]; exact hi)]
    congr 2
    have e : (st zs).data.toList = zs.map fun z => UInt8.ofNat z.toNat := by simp [st]
    rw [e]
    have hi' : i < (zs.map fun z => UInt8.ofNat z.toNat).length := by rw [List.length_map]; exact hi
    rw [List.getD_eq_getElem?_getD, List.getElem?_eq_getElem hi', List.getElem_map, Option.getD_some, UInt8.toNat_ofNat', List.getElem?_eq_getElem hi, Option.getD_some]
    have := hz i
    rw [List.getElem?_eq_getElem hi, Option.getD_some] at this
    omega
  · simp [Lib.bytesWorld, World.freeze, World.alloc, World.drew, -World.alloc_eq, -World.drew_eq]
  · simp [Lib.bytesWorld, World.freeze, World.alloc, World.drew, -World.alloc_eq, -World.drew_eq]
  · simp [Lib.bytesWorld, World.freeze, World.alloc, World.drew, -World.alloc_eq, -World.drew_eq]
  · rw [Lib.bytesWorld_size]; omega
set_option maxHeartbeats 400000 in
theorem refn_text (zs : List Int) (w : World) (hl : zs.length < 4611686018427387904) :
    Calls Tryz.prog 60 #[.string (st zs)] w fun e w' => e = .returned (.string (st (numBytes zs.length ++ zs))) ∧ Kp Nb w w' := by
  have hsz := st_size zs
  have hln := numBytes_length (zs.length : Int) (by omega)
  have hsn := st_size (numBytes (zs.length : Int))
  have HS := hid (st_append (numBytes (zs.length : Int)) zs)
  go_enter Tryz.func60, Tryz.ntmps60
  go_wp2_with fail
  refine (refn_number (zs.length : Int) _ (by omega) (by omega)).mono ?_
  rintro e w1 ⟨rfl, k1⟩
  have K1 := hid k1
  have g2 : ¬ (9223372036854775807 < (st (numBytes (zs.length : Int))).size + (st zs).size) := by rw [hsz, hsn]; omega
  clear k1
  obtain ⟨S, hS⟩ : ∃ S, S = st (numBytes (zs.length : Int)) := ⟨_, rfl⟩
  rw [← hS] at g2 HS hsn ⊢
  clear hS hsn
  go_wp2
  go_ret
  exact ⟨by rw [HS.out]; rfl, K1.out⟩
def textB (zs : List Int) : List Int := numBytes (zs.length : Int) ++ zs
def bytesI (x : ItQ) : List Int := textB x.key ++ numBytes x.dn ++ numBytes x.dd ++ bytesC x.past ++ (if x.gone then [1] else [0] ++ textB x.val)
theorem num_one : numBytes 1 = [1] := by unfold numBytes; rw [if_pos (by decide)]
theorem num_zero : numBytes 0 = [0] := by unfold numBytes; rw [if_pos (by decide)]
theorem rightI_facts {x : ItQ} (h : rightI x = true) : x.key.length ≤ 24 ∧ (0 ≤ x.dn ∧ x.dn ≤ 7 ∧ 1 ≤ x.dd ∧ x.dd ≤ 1099511627776) ∧ x.past.length ≤ 32 ∧ rightC x.past = true ∧ x.val.length ≤ 64 ∧ 1 ≤ x.key.length ∧ (x.gone = true → x.val = []) := by
  unfold rightI goodB at h
  simp only [Bool.and_eq_true, decide_eq_true_eq, Bool.not_eq_true', Bool.and_eq_false_iff, decide_eq_false_iff_not] at h
  obtain ⟨⟨⟨⟨⟨⟨⟨h1, h2⟩, h3⟩, h4⟩, h5⟩, h6⟩, h7⟩, h8⟩ := h
  refine ⟨h2, h3, h4, h5, h7, h1, fun hg => ?_⟩
  rcases h8 with h8 | h8
  · rw [hg] at h8; cases h8
  · exact List.length_eq_zero_iff.1 (by omega)
/-- Bytes that lie apart from a pen still do. -/
theorem by_pen {w w' : World} {P : Nat} {v0 v' vv : Value} {zs : List Int} (h : BySl (Pb P v0) w vv zs) (t : PenTo w w' P v0 v') : BySl (Pb P v') w' vv zs := by
  obtain ⟨hz, hv⟩ := h
  refine ⟨hz, ?_⟩
  rcases hv with hv | ⟨blk, off, cap, rfl, hc, hm, hcell, hn⟩
  · exact .inl hv
  · by_cases h0 : zs.length = 0
    · obtain rfl := List.eq_nil_of_length_eq_zero h0
      exact .inl ⟨⟨_, _, rfl⟩, rfl⟩
    · have hlt : blk < w.heap.size := cell_lt (hcell 0 (by omega))
      have hnb := hn (by omega)
      refine .inr ⟨blk, off, cap, rfl, hc, hm, fun i hi => t.kp.cell (hcell i hi) hnb, fun _ hp => ?_⟩
      rcases hp with hp | hp
      · exact hnb (.inl hp)
      · rcases t.at' with e | e
        · exact hnb (.inr (by rw [← e]; exact hp))
        · have := e blk hp; omega
theorem by_old {w : World} {v : Value} {zs : List Int} (h : BySl Nb w v zs) : BySl (fun i => w.heap.size ≤ i) w v zs := by
  obtain ⟨hz, hv⟩ := h
  refine ⟨hz, ?_⟩
  rcases hv with hv | ⟨blk, off, cap, rfl, hc, hm, hcell, hn⟩
  · exact .inl hv
  · by_cases h0 : zs.length = 0
    · obtain rfl := List.eq_nil_of_length_eq_zero h0
      exact .inl ⟨⟨_, _, rfl⟩, rfl⟩
    · have hlt : blk < w.heap.size := cell_lt (hcell 0 (by omega))
      exact .inr ⟨blk, off, cap, rfl, hc, hm, hcell, fun _ hp => by have : w.heap.size ≤ blk := hp; omega⟩
/-- A past apart from a pen. -/
def ApC (w : World) (P : Nat) (v0 vp : Value) : Prop := ∀ g, vp.ownBlock = some g → g ≠ P ∧ v0.ownBlock ≠ some g ∧ g < w.heap.size
theorem ApC.pen {w w' : World} {P : Nat} {v0 v' vp : Value} (h : ApC w P v0 vp) (t : PenTo w w' P v0 v') : ∀ g, vp.ownBlock = some g → g ≠ P ∧ v'.ownBlock ≠ some g := fun g hg => by
  obtain ⟨h1, h2, h3⟩ := h g hg
  refine ⟨h1, fun e => ?_⟩
  rcases t.at' with e' | e'
  · exact h2 (by rw [← e']; exact e)
  · have := e' g e; omega
set_option maxRecDepth 100000 in
set_option maxHeartbeats 8000000 in
theorem iput_at (P : Nat) (v0 : Value) (zs0 : List Int) (x : ItQ) (vp vv : Value) (w : World) (h : ItOk w x vp vv) (hp : PenAt w P v0 zs0) (hl0 : zs0.length ≤ 1000000) (hap : ApC w P v0 vp) (hav : BySl (Pb P v0) w vv x.val) :
    Calls Tryz.prog 22 #[.pointer (some ⟨P, 0, none⟩), itVq x vp vv] w fun e w' => e = .returned (.bool (rightI x)) ∧ ∃ v', PenAt w' P v' (zs0 ++ (if rightI x then bytesI x else [])) ∧ PenTo w w' P v0 v' := by
  obtain ⟨pp, dp, rfl⟩ := h.past.shape
  obtain ⟨pv, dv, rfl⟩ := by_shape h.val
  obtain ⟨N, hN⟩ : ∃ N, w.heap.size = N := ⟨_, rfl⟩
  obtain ⟨W, hW⟩ : ∃ W, W = w.alloc (.cells #[.string (st x.key), .int .i64 x.dn, .int .i64 x.dd, .slice pp x.past.length dp, .bool x.gone, .slice pv x.val.length dv] 28) := ⟨_, rfl⟩
  have HB : Hid (Blk W N 28 (itL (st x.key) x.dn x.dd (.slice pp x.past.length dp) x.gone (.slice pv x.val.length dv))) := hid (by rw [hW, ← hN]; exact Blk.new w _ (itL (st x.key) x.dn x.dd (.slice pp x.past.length dp) x.gone (.slice pv x.val.length dv)))
  have K0 : Hid (Kp Nb w W) := hid (by rw [hW]; exact (Kp.refl Nb w).alloc _)
  have HNP : Hid (N ≠ P ∧ v0.ownBlock ≠ some N) := hid ⟨by have := hp.lt; omega, fun e => by have := hp.own_lt e; omega⟩
  have HX := hid (h.kept K0.out)
  have HP0 : Hid (PenAt W P v0 zs0) := hid (hp.kept K0.out (fun h => h) (fun _ _ h => h))
  have HAP : Hid (ApC W P v0 (.slice pp x.past.length dp)) := hid (fun g hg => ⟨(hap g hg).1, (hap g hg).2.1, by have := (hap g hg).2.2; have := K0.out.size; omega⟩)
  have HAV : Hid (BySl (Pb P v0) W (.slice pv x.val.length dv) x.val) := hid (hav.kept K0.out (fun _ h => h.elim))
  have HL0 := hid hl0
  have CR := hid (fun wx (k : Kp Nb W wx) => iright_any x _ _ wx (HX.out.kept k))
  have HTW : Hid (PenTo w W P v0 v0) := hid ((PenTo.refl w P v0).kpNb K0.out)
  obtain ⟨R, hR⟩ : ∃ b, rightI x = b := ⟨_, rfl⟩
  have HRE := hid hR
  rw [hR] at CR ⊢
  clear h hp hl0 hap hav hR
  have HQ : Hid (R = true → (x.key.length ≤ 24 ∧ (0 ≤ x.dn ∧ x.dn ≤ 7 ∧ 1 ≤ x.dd ∧ x.dd ≤ 1099511627776) ∧ x.past.length ≤ 32 ∧ rightC x.past = true ∧ x.val.length ≤ 64)) := hid (fun e => by
    have := rightI_facts (HRE.out.trans e)
    exact ⟨this.1, this.2.1, this.2.2.1, this.2.2.2.1, this.2.2.2.2.1⟩)
  have HKB := hid HX.out.key
  have CV := hid (conv_str x.key HKB.out)
  have HPC := hid HX.out.past
  have HBI : Hid (bytesI x = textB x.key ++ numBytes x.dn ++ numBytes x.dd ++ bytesC x.past ++ (if x.gone then [1] else [0] ++ textB x.val)) := hid rfl
  obtain ⟨key, dn, dd, past, gn, val⟩ := x
  unfold itVq itV at *
  dsimp only at *
  obtain ⟨BI, hBI⟩ : ∃ b, bytesI ⟨key, dn, dd, past, gn, val⟩ = b := ⟨_, rfl⟩
  rw [hBI] at HBI ⊢
  clear HX HRE hBI
  obtain ⟨nP, hnP⟩ : ∃ n, past.length = n := ⟨_, rfl⟩
  obtain ⟨nV, hnV⟩ : ∃ n, val.length = n := ⟨_, rfl⟩
  obtain ⟨nK, hnK⟩ : ∃ n, key.length = n := ⟨_, rfl⟩
  have HNP2 := hid hnP
  have HNV := hid hnV
  have HNK := hid hnK
  obtain ⟨sk, hsk⟩ : ∃ s, st key = s := ⟨_, rfl⟩
  simp only [hnP, hnV, hsk] at hW HB CR HAP HAV CV HPC HQ ⊢
  clear hnP hnV hnK hsk
  go_enter Tryz.func22, Tryz.ntmps22
  go_upto_region 1 with fail
  rw [← hW]
  clear hW hN
  go_wp2_with (first
    | (refine wpList_load_mid (by rfl) 28 (.tmp 3) (by rfl) N 0 (by rfl) (itL sk dn dd (.slice pp nP dp) gn (.slice pv nV dv)) _ (range_ofR HB.out) under_item.choose_spec rfl item_info ?_))
  refine (CR.out W (Kp.refl _ _)).mono ?_
  rintro r w1 ⟨rfl, k1⟩
  have T1 := hid ((PenTo.refl W P v0).kpNb k1)
  have P1 := hid (HP0.out.kept k1 (fun h => h) (fun _ _ h => h))
  clear k1 CR HP0
  cases R with
  | false =>
    go_wp2
    go_ret
    exact ⟨rfl, v0, by simpa using P1.out, HTW.out.trans T1.out⟩
  | true =>
    obtain ⟨q1, q2, q3, q4, q5⟩ := HQ.out rfl
    have HQ2 := hid (show key.length ≤ 24 ∧ (0 ≤ dn ∧ dn ≤ 7 ∧ 1 ≤ dd ∧ dd ≤ 1099511627776) ∧ nP ≤ 32 ∧ rightC past = true ∧ nV ≤ 64 from ⟨q1, q2, q3, q4, q5⟩)
    have hw1 : IntKind.u64.wrap dn = dn := IntWalk.u64_in _ (by omega)
    have hw2 : IntKind.u64.wrap dd = dd := IntWalk.u64_in _ (by omega)
    obtain ⟨yk, ck, w2, hcv, hbk, k2⟩ := CV.out (by omega) w1
    rw [HNK.out] at hcv hbk
    have HB1 := hid (T1.out.box HB.out HNP.out.1 HNP.out.2).1
    have HBK : Hid (BySl (Pb P v0) w2 (.slice yk nK ck) key) := hid (hbk.mono (fun i hi => by
      rcases hi with rfl | hi
      · exact P1.out.lt
      · exact P1.out.own_lt hi))
    have T2 := hid (T1.out.kpNb k2)
    have P2 := hid (P1.out.kept k2 (fun h => h) (fun _ _ h => h))
    have c0 : w1.cell? ⟨N, 0, none⟩ = some (.string sk) := HB1.out.cell 0
    clear hbk k2 T1 P1 CV HQ q1 q2 q3 q4 q5
    go_wp2_with fail
    refine (pen_text P v0 _ zs0 key w2 P2.out HBK.out (by have := HL0.out; have := HQ2.out; omega)).mono ?_
    rintro r w3 ⟨rfl, v3, p3, t3⟩
    have T3 := hid (T2.out.trans t3)
    have P3 := hid p3
    have HB3 := hid (T3.out.box HB.out HNP.out.1 HNP.out.2).1
    have c1 : w3.cell? ⟨N, 1, none⟩ = some (.int .i64 dn) := HB3.out.cell 1
    have LT := hid (show (zs0 ++ numBytes key.length ++ key).length ≤ 1000033 by
      rw [List.length_append, List.length_append]; have := numBytes_length (key.length : Int) (by have := HQ2.out; omega); have := HL0.out; have := HQ2.out; omega)
    clear p3 t3 T2 P2 HB1 HBK hcv c0
    obtain ⟨z3, hz3⟩ : ∃ z, zs0 ++ numBytes key.length ++ key = z := ⟨_, rfl⟩
    have HZ3 := hid hz3
    rw [hz3] at P3 LT
    clear hz3
    go_wp2_with fail
    refine (pen_number P v3 z3 dn w3 P3.out HQ2.out.2.1.1 (by have := HQ2.out; omega) (by have := LT.out; omega)).mono ?_
    rintro r w4 ⟨rfl, v4, p4, t4⟩
    have T4 := hid (T3.out.trans t4)
    have P4 := hid p4
    have HB4 := hid (T4.out.box HB.out HNP.out.1 HNP.out.2).1
    have c2 : w4.cell? ⟨N, 2, none⟩ = some (.int .i64 dd) := HB4.out.cell 2
    have LN := hid (numBytes_length dn (by have := HQ2.out; omega))
    clear p4 t4 T3 P3 HB3 c1
    go_wp2_with fail
    refine (pen_number P v4 (z3 ++ numBytes dn) dd w4 P4.out (by have := HQ2.out; omega) (by have := HQ2.out; omega) (by rw [List.length_append]; have := LT.out; have := LN.out; omega)).mono ?_
    rintro r w5 ⟨rfl, v5, p5, t5⟩
    have T5 := hid (T4.out.trans t5)
    have P5 := hid p5
    have HB5 := hid (T5.out.box HB.out HNP.out.1 HNP.out.2).1
    have c3 : w5.cell? ⟨N, 3, none⟩ = some (.slice pp nP dp) := HB5.out.cell 3
    have LM := hid (numBytes_length dd (by have := HQ2.out; omega))
    have LZ : Hid ((z3 ++ numBytes dn ++ numBytes dd).length ≤ 1000051) := hid (by rw [List.length_append, List.length_append]; have := LT.out; have := LN.out; have := LM.out; omega)
    have HC5 := hid (pen_sepV T5.out HPC.out (fun g hg => ⟨(HAP.out g hg).1, (HAP.out g hg).2.1⟩))
    clear p5 t5 T4 P4 HB4 c2
    have CD := dput_at P v5 _ (.slice pp nP dp) past w5 HC5.out P5.out (by have := LZ.out; omega) (HAP.out.pen T5.out) (by have := HNP2.out; have := HQ2.out; omega)
    have hpb : putB past = true := by unfold putB; rw [HQ2.out.2.2.2.1, decide_eq_true (by have := HNP2.out; have := HQ2.out; omega)]; rfl
    rw [hpb, if_pos rfl] at CD
    have CD := hid CD
    clear hpb
    go_wp2_with fail
    refine CD.out.mono ?_
    rintro r w6 ⟨rfl, v6, p6, t6⟩
    have T6 := hid (T5.out.trans t6)
    have P6 := hid p6
    have HB6 := hid (T6.out.box HB.out HNP.out.1 HNP.out.2).1
    have c4 : w6.cell? ⟨N, 4, none⟩ = some (.bool gn) := HB6.out.cell 4
    have LC : Hid ((z3 ++ numBytes dn ++ numBytes dd ++ bytesC past).length ≤ 1002000) := hid (by
      have e : (bytesC past).length = (numBytes (past.length : Int)).length + (runsB past).length := by unfold bytesC; rw [List.length_append]
      rw [List.length_append, e]
      have h1 := numBytes_length (past.length : Int) (by have := HNP2.out; have := HQ2.out; omega)
      have h2 := runsB_len past (right_good HQ2.out.2.2.2.1)
      have := LZ.out; have := HNP2.out; have := HQ2.out
      omega)
    clear p6 t6 T5 P5 HB5 c3 CD HC5
    obtain ⟨z6, hz6⟩ : ∃ z, z3 ++ numBytes dn ++ numBytes dd ++ bytesC past = z := ⟨_, rfl⟩
    have HZ6 := hid hz6
    rw [hz6] at P6 LC
    clear hz6
    cases gn with
    | true =>
      go_wp2_with fail
      refine (pen_number P v6 z6 1 w6 P6.out (by decide) (by decide) (by have := LC.out; omega)).mono ?_
      rintro r w7 ⟨rfl, v7, p7, t7⟩
      have P7 := hid p7
      have T7 := hid (T6.out.trans t7)
      clear p7 t7 c4
      go_wp2
      go_ret
      refine ⟨rfl, v7, ?_, HTW.out.trans T7.out⟩
      rw [HBI.out, if_pos trivial]
      have h7 := P7.out
      rw [num_one, ← HZ6.out, ← HZ3.out] at h7
      unfold textB
      simpa [List.append_assoc] using h7
    | false =>
      go_wp2_with fail
      refine (pen_number P v6 z6 0 w6 P6.out (by decide) (by decide) (by have := LC.out; omega)).mono ?_
      rintro r w7 ⟨rfl, v7, p7, t7⟩
      have P7 := hid p7
      have T7 := hid (T6.out.trans t7)
      have HB7 := hid (T7.out.box HB.out HNP.out.1 HNP.out.2).1
      have c5 : w7.cell? ⟨N, 5, none⟩ = some (.slice pv nV dv) := HB7.out.cell 5
      have HV7 := hid (by_pen HAV.out T7.out)
      have L7 : Hid ((z6 ++ numBytes 0).length ≤ 1002009) := hid (by rw [List.length_append, num_zero]; have := LC.out; simp only [List.length_singleton]; omega)
      clear p7 t7 c4
      go_wp2_with fail
      refine (pen_text P v7 _ _ val w7 P7.out HV7.out (by have := L7.out; have := HNV.out; have := HQ2.out; omega)).mono ?_
      rintro r w8 ⟨rfl, v8, p8, t8⟩
      have P8 := hid p8
      have T8 := hid (T7.out.trans t8)
      clear p8 t8 c5
      go_wp2
      go_ret
      refine ⟨rfl, v8, ?_, HTW.out.trans T8.out⟩
      rw [HBI.out, if_neg (by decide)]
      have h8 := P8.out
      rw [num_zero, ← HZ6.out, ← HZ3.out] at h8
      unfold textB
      simpa [List.append_assoc] using h8
end

end Go.Proofs.YtogoophofgkboaaGreatDoor
