/-
  Layer 3: the reference's Bytes and Get. Conditions: a right clock of at most 1,000 runs; an eye over bytes.
  Layer 3: the reference's Parse. Conditions: a text of at most 1,000 bytes.
  Layer 3: Parse of any text. Conditions: a text of at most 1,000 bytes; the library's table, its word and its two errors lie in memory.
-/
import Derived.Test.YtbbfibgijackhaaGreatDoorPkQ
import Derived.Test.YtbbfibgijackhaaGreatDoorPkM
import Derived.Shelf.Strconv.AtoiAll
namespace Go.Proofs.YtbbfibgijackhaaGreatDoor
open Go.RowKit

theorem st_add (w : World) (a b : List Int) (ha : a.length ≤ 8388608) (hb : b.length ≤ 8388608) : (Op.stringOp .add (st a) (st b)).run Tryz.prog w = .ok (.string (st (a ++ b))) w := by
  have h := add_bs w (a.map fun z => UInt8.ofNat z.toNat) (b.map fun z => UInt8.ofNat z.toNat) (by rw [List.length_map]; exact ha) (by rw [List.length_map]; exact hb)
  rw [← List.map_append] at h
  exact h
def RbcR (w : World) (c : List RunQ) (i s : Value) (wr : World) : Prop := ∃ k : Nat, k ≤ c.length ∧ i = .int .i64 k ∧ s = .string (st (numBytes (c.length : Int) ++ runsB (c.take k))) ∧ Hid (Kp Nb w wr)
set_option maxRecDepth 100000 in
set_option maxHeartbeats 4000000 in
theorem rbytes_any (v : Value) (c : List RunQ) (w : World) (hs : ClSl w v c) (hg : ∀ q ∈ c, goodR q = true) (hl : c.length ≤ 1000) :
    Calls Tryz.prog 28 #[v] w fun e w' => e = .returned (.string (st (bytesC c))) ∧ Kp Nb w w' := by
  obtain ⟨pv, dv, rfl⟩ := hs.shape
  have HGG := hid hg
  have HNL : Hid ((numBytes (c.length : Int)).length ≤ 9) := hid (numBytes_length (c.length : Int) (by omega))
  have CN : Hid (∀ w, Calls Tryz.prog 48 #[.int .u64 (c.length : Int)] w fun e w' => e = .returned (.string (st (numBytes (c.length : Int)))) ∧ Kp Nb w w') := hid (fun w => refn_number _ w (by omega) (by omega))
  obtain ⟨L, hL⟩ : ∃ L, c.length = L := ⟨_, rfl⟩
  have HLE := hid hL
  have HS := hid hs
  rw [hL] at CN HS hl ⊢
  have HRB : Hid (∀ k, k ≤ L → (runsB (c.take k)).length ≤ 27000) := hid (fun k hk => by
    have h := runsB_len (c.take k) (fun q hq => HGG.out q (List.mem_of_mem_take hq))
    rw [List.length_take] at h
    omega)
  have hLb := hl
  clear hs hg hL hl
  obtain ⟨S0, hS0⟩ : ∃ s, st (numBytes (L : Int)) = s := ⟨_, rfl⟩
  have HS0 : Hid (S0 = st (numBytes (c.length : Int) ++ runsB (c.take 0))) := hid (by rw [← hS0, HLE.out, List.take_zero]; show _ = st (_ ++ []); rw [List.append_nil])
  rw [hS0] at CN
  clear hS0
  go_enter Tryz.func28, Tryz.ntmps28
  go_wp2_with fail
  refine (CN.out w).mono ?_
  rintro r w1 ⟨rfl, k1⟩
  have K1 := hid k1
  have T0 : Hid (Kp Nb w w1) := K1
  clear k1 CN
  go_wp2_with fail
  go_loopw [12, 3] (RbcR w c) (fun i _ _ => L - (intOf i).toNat)
  case atStart => exact ⟨0, Nat.zero_le _, rfl, by rw [HS0.out], T0⟩
  case round =>
    clear T0 K1
    obtain ⟨k, hk, rfl, rfl, HK⟩ := hrel
    rw [HLE.out] at hk
    by_cases hlt : k < L
    · obtain ⟨blk, off, cap, e1, hc, hm, hcell⟩ := cl_shape (HS.out.kept HK.out) (by intro h; have := HLE.out; rw [h, List.length_nil] at this; omega)
      rw [HLE.out] at e1 hc hcell
      injection e1 with e1 _ e2
      subst e1 e2
      have HR := hid (hcell k hlt)
      obtain ⟨⟨qn, qf, qt⟩, hq⟩ : ∃ q, runAt c k = q := ⟨_, rfl⟩
      have HOK := HS.out.1 k
      rw [hq] at HR HOK
      have HQ := hid hq
      obtain ⟨M, hM⟩ : ∃ M, wr.heap.size = M := ⟨_, rfl⟩
      obtain ⟨W2, hW2⟩ : ∃ W, W = (wr.alloc (.cells (runL (0, 0, 0)).toArray 61)).setCells M 0 (runL (qn, qf, qt)) := ⟨_, rfl⟩
      have hz := Blk.new wr 61 (runL (0, 0, 0))
      rw [hM] at hz
      have KW : Hid (Kp Nb wr W2) := hid (by rw [hW2]; exact Kp.setCells (fun h => absurd h (by omega)) _ 0 _ ((Kp.refl Nb wr).alloc _))
      have HMW : Hid (wr.heap.size = M) := hid hM
      have TH := hid (run_there (q := (qn, qf, qt)) hz)
      have HZ : Hid (Blk W2 M 61 (runL (qn, qf, qt))) := hid (by rw [hW2]; exact row_set hz rfl)
      have HK2 := hid (HK.out.trans KW.out (fun _ _ h => h))
      unfold maxLen at hm
      obtain ⟨fs, hfs⟩ := under_run
      clear hz hcell hq
      go_upto_region 5 with (first
        | (refine wpList_load_mid (by rfl) 61 (.tmp 14) (by rfl) blk (off + k * 3) (by rfl) (runL (qn, qf, qt)) _ HR.out hfs rfl (run_infoL (qn, qf, qt)) ?_)
        | (refine wpList_store_mid (by rfl) 61 (.tmp 5) (.tmp 15) (by rfl) M 0 (runL (qn, qf, qt)).toArray (by rfl) (by rfl) TH.out (run_infoA (qn, qf, qt)) (run_one (qn, qf, qt)) ?_))
      rw [show (wr.alloc (.cells #[.int .i64 0, .int .i64 0, .int .i64 0] 61)).setCells M 0 (runL (qn, qf, qt)) = W2 from hW2.symm]
      clear hW2 TH hM
      have c0 : W2.cell? ⟨M, 0, none⟩ = some (.int .i64 qn) := HZ.out.cell 0
      have c1 : W2.cell? ⟨M, 1, none⟩ = some (.int .i64 qf) := HZ.out.cell 1
      have c2 : W2.cell? ⟨M, 2, none⟩ = some (.int .i64 qt) := HZ.out.cell 2
      have hkc : k < c.length := by rw [HLE.out]; exact hlt
      have hgq := HGG.out _ (runAt_mem hkc)
      have hsn := runsB_snoc c k hkc
      rw [HQ.out] at hgq hsn
      have g := goodR_of.1 hgq
      dsimp only at g
      have HLT := hid hlt
      have hl0 := numBytes_length qn (by omega)
      have hl1 := numBytes_length qf (by omega)
      obtain ⟨dd, hdd⟩ : ∃ d, qt - qf = d := ⟨_, rfl⟩
      have hl2 := numBytes_length dd (by omega)
      have hnl := HNL.out
      have hpl := HRB.out k (by omega)
      have WD : Hid (qt - qf = dd) := hid hdd
      have WS : Hid (IntKind.i64.wrap (qt - qf) = qt - qf) := hid (IntWalk.i64_in _ (by omega))
      have W0 : Hid (IntKind.u64.wrap qn = qn) := hid (IntWalk.u64_in _ (by omega))
      have W1 : Hid (IntKind.u64.wrap qf = qf) := hid (IntWalk.u64_in _ (by omega))
      have W2' : Hid (IntKind.u64.wrap dd = dd) := hid (IntWalk.u64_in _ (by omega))
      have C0 : Hid (∀ wx, Calls Tryz.prog 48 #[.int .u64 qn] wx fun e w' => e = .returned (.string (st (numBytes qn))) ∧ Kp Nb wx w') := hid (fun wx => refn_number _ wx (by omega) (by omega))
      have C1 : Hid (∀ wx, Calls Tryz.prog 48 #[.int .u64 qf] wx fun e w' => e = .returned (.string (st (numBytes qf))) ∧ Kp Nb wx w') := hid (fun wx => refn_number _ wx (by omega) (by omega))
      have C2 : Hid (∀ wx, Calls Tryz.prog 48 #[.int .u64 dd] wx fun e w' => e = .returned (.string (st (numBytes dd))) ∧ Kp Nb wx w') := hid (fun wx => refn_number _ wx (by omega) (by omega))
      obtain ⟨P, hP⟩ : ∃ P, numBytes (c.length : Int) ++ runsB (c.take k) = P := ⟨_, rfl⟩
      have hPl : P.length ≤ 27009 := by rw [← hP, List.length_append]; omega
      have HSN : Hid (st (P ++ (numBytes qn ++ numBytes qf ++ numBytes dd)) = st (numBytes (c.length : Int) ++ runsB (c.take (k + 1)))) := hid (by
        rw [← hP, hsn]
        unfold bytesR
        dsimp only
        rw [hdd, List.append_assoc])
      rw [hP]
      obtain ⟨x0, hx0⟩ : ∃ x, numBytes qn = x := ⟨_, rfl⟩
      obtain ⟨x1, hx1⟩ : ∃ x, numBytes qf = x := ⟨_, rfl⟩
      obtain ⟨x2, hx2⟩ : ∃ x, numBytes dd = x := ⟨_, rfl⟩
      rw [hx0] at hl0 C0 HSN
      rw [hx1] at hl1 C1 HSN
      rw [hx2] at hl2 C2 HSN
      obtain ⟨s0, hs0⟩ : ∃ x, st x0 = x := ⟨_, rfl⟩
      obtain ⟨s1, hs1⟩ : ∃ x, st x1 = x := ⟨_, rfl⟩
      obtain ⟨s2, hs2⟩ : ∃ x, st x2 = x := ⟨_, rfl⟩
      obtain ⟨s01, hs01⟩ : ∃ x, st (x0 ++ x1) = x := ⟨_, rfl⟩
      obtain ⟨s02, hs02⟩ : ∃ x, st (x0 ++ x1 ++ x2) = x := ⟨_, rfl⟩
      obtain ⟨sS, hsS⟩ : ∃ x, st P = x := ⟨_, rfl⟩
      obtain ⟨sN, hsN⟩ : ∃ x, st (P ++ (x0 ++ x1 ++ x2)) = x := ⟨_, rfl⟩
      have A1 : Hid (∀ w : World, (Op.stringOp .add s0 s1).run Tryz.prog w = .ok (.string s01) w) := hid (fun w => by rw [← hs0, ← hs1, ← hs01]; exact st_add w _ _ (by omega) (by omega))
      have A2 : Hid (∀ w : World, (Op.stringOp .add s01 s2).run Tryz.prog w = .ok (.string s02) w) := hid (fun w => by rw [← hs01, ← hs2, ← hs02]; exact st_add w _ _ (by rw [List.length_append]; omega) (by omega))
      have A3 : Hid (∀ w : World, (Op.stringOp .add sS s02).run Tryz.prog w = .ok (.string sN) w) := hid (fun w => by rw [← hsS, ← hs02, ← hsN]; exact st_add w _ _ (by omega) (by simp only [List.length_append]; omega))
      rw [hs0] at C0
      rw [hs1] at C1
      rw [hs2] at C2
      rw [hsN] at HSN
      rw [hsS]
      clear hkc hgq hsn g hl0 hl1 hl2 hdd hnl hpl hP hPl hx0 hx1 hx2 hs0 hs1 hs2 hs01 hs02 hsS hsN c0 c1 c2 HR KW HK HMW
      refine region_vals2 [none, none, none, some 19, none, none, none, none, none, none, none, none, none, none, none, none, some 0, some 1, some 2, some 3, some 4, some 5, some 6, some 7, some 8, some 9, some 10, some 11, some 12, some 13, some 14, some 15, some 16, some 17, some 18, none, none] [[(3, none)], [(5, none)], [(17, some 1)], [(18, some 2)], [(19, some 3)], [(5, none)], [(21, some 5)], [(22, some 6)], [(23, some 7)], [(20, some 4), (24, some 8)], [(5, none)], [(26, some 10)], [(5, none)], [(28, some 12)], [(27, some 11), (29, some 13)], [(30, some 14)], [(31, some 15)], [(25, some 9), (32, some 16)], [(16, some 0), (33, some 17)], [(34, some 18)]] [some 16, some 17, some 18, some 19, some 20, some 21, some 22, some 23, some 24, some 25, some 26, some 27, some 28, some 29, some 30, some 31, some 32, some 33, some 34, some 3] [.string sS, .pointer (some ⟨M, 0, none⟩), .int .i64 qn, .int .u64 qn, .string s0, .pointer (some ⟨M, 1, none⟩), .int .i64 qf, .int .u64 qf, .string s1, .string s01, .pointer (some ⟨M, 2, none⟩), .int .i64 qt, .pointer (some ⟨M, 1, none⟩), .int .i64 qf, .int .i64 dd, .int .u64 dd, .string s2, .string s02, .string sN, .string sN] (fun w' => Hid (Kp Nb W2 w')) (by kernel_rfl) (by kernel_rfl) (by kernel_rfl) ?hS (VFrom.all (n := 20) (by kernel_rfl) ?hstep) ?hend
      case hstep =>
        refine VFrom.cons (VStep.val _ rfl _ rfl (.string sS) rfl trivial (fun ev wq hS he hr => ?_)) ?_
        · have r0 : ev (.tmp 3) = .string sS := hr (3, none) (by simp); have hk := he.1; clear hr he
          go_simp
        refine VFrom.cons (VStep.val _ rfl _ rfl (.pointer (some ⟨M, 0, none⟩)) rfl trivial (fun ev wq hS he hr => ?_)) ?_
        · have r0 : ev (.tmp 5) = .pointer (some ⟨M, 0, none⟩) := hr (5, none) (by simp); have hk := he.1; clear hr he
          go_simp
        refine VFrom.cons (VStep.val _ rfl _ rfl (.int .i64 qn) rfl trivial (fun ev wq hS he hr => ?_)) ?_
        · have r0 : ev (.tmp 17) = .pointer (some ⟨M, 0, none⟩) := hr (17, some 1) (by simp); have hk := he.1; clear hr he
          have c0 := (HZ.out.kept hS.out (fun h => h)).cell 0
          go_simp
        refine VFrom.cons (VStep.val _ rfl _ rfl (.int .u64 qn) rfl trivial (fun ev wq hS he hr => ?_)) ?_
        · have r0 : ev (.tmp 18) = .int .i64 qn := hr (18, some 2) (by simp); have hk := he.1; clear hr he
          have e1 := W0.out
          go_simp
        refine VFrom.cons (VStep.call _ rfl _ rfl (.string s0) rfl trivial 48 #[.int .u64 qn] (fun ev wq hS he hr => ?_) (fun wq hS => ?_)) ?_
        · have r0 : ev (.tmp 19) = .int .u64 qn := hr (19, some 3) (by simp); have hk := he.1; have hf := he.2; clear hr he
          go_simp
        · exact (C0.out wq).mono fun e w' ⟨h1, h2⟩ => ⟨h1, hS.out.trans h2 (fun _ _ h => h)⟩
        refine VFrom.cons (VStep.val _ rfl _ rfl (.pointer (some ⟨M, 1, none⟩)) rfl trivial (fun ev wq hS he hr => ?_)) ?_
        · have r0 : ev (.tmp 5) = .pointer (some ⟨M, 0, none⟩) := hr (5, none) (by simp); have hk := he.1; clear hr he
          go_simp
        refine VFrom.cons (VStep.val _ rfl _ rfl (.int .i64 qf) rfl trivial (fun ev wq hS he hr => ?_)) ?_
        · have r0 : ev (.tmp 21) = .pointer (some ⟨M, 1, none⟩) := hr (21, some 5) (by simp); have hk := he.1; clear hr he
          have c0 := (HZ.out.kept hS.out (fun h => h)).cell 1
          go_simp
        refine VFrom.cons (VStep.val _ rfl _ rfl (.int .u64 qf) rfl trivial (fun ev wq hS he hr => ?_)) ?_
        · have r0 : ev (.tmp 22) = .int .i64 qf := hr (22, some 6) (by simp); have hk := he.1; clear hr he
          have e1 := W1.out
          go_simp
        refine VFrom.cons (VStep.call _ rfl _ rfl (.string s1) rfl trivial 48 #[.int .u64 qf] (fun ev wq hS he hr => ?_) (fun wq hS => ?_)) ?_
        · have r0 : ev (.tmp 23) = .int .u64 qf := hr (23, some 7) (by simp); have hk := he.1; have hf := he.2; clear hr he
          go_simp
        · exact (C1.out wq).mono fun e w' ⟨h1, h2⟩ => ⟨h1, hS.out.trans h2 (fun _ _ h => h)⟩
        refine VFrom.cons (VStep.val _ rfl _ rfl (.string s01) rfl trivial (fun ev wq hS he hr => ?_)) ?_
        · have r0 : ev (.tmp 20) = .string s0 := hr (20, some 4) (by simp); have r1 : ev (.tmp 24) = .string s1 := hr (24, some 8) (by simp); have hk := he.1; clear hr he
          have e1 := A1.out wq
          go_simp
        refine VFrom.cons (VStep.val _ rfl _ rfl (.pointer (some ⟨M, 2, none⟩)) rfl trivial (fun ev wq hS he hr => ?_)) ?_
        · have r0 : ev (.tmp 5) = .pointer (some ⟨M, 0, none⟩) := hr (5, none) (by simp); have hk := he.1; clear hr he
          go_simp
        refine VFrom.cons (VStep.val _ rfl _ rfl (.int .i64 qt) rfl trivial (fun ev wq hS he hr => ?_)) ?_
        · have r0 : ev (.tmp 26) = .pointer (some ⟨M, 2, none⟩) := hr (26, some 10) (by simp); have hk := he.1; clear hr he
          have c0 := (HZ.out.kept hS.out (fun h => h)).cell 2
          go_simp
        refine VFrom.cons (VStep.val _ rfl _ rfl (.pointer (some ⟨M, 1, none⟩)) rfl trivial (fun ev wq hS he hr => ?_)) ?_
        · have r0 : ev (.tmp 5) = .pointer (some ⟨M, 0, none⟩) := hr (5, none) (by simp); have hk := he.1; clear hr he
          go_simp
        refine VFrom.cons (VStep.val _ rfl _ rfl (.int .i64 qf) rfl trivial (fun ev wq hS he hr => ?_)) ?_
        · have r0 : ev (.tmp 28) = .pointer (some ⟨M, 1, none⟩) := hr (28, some 12) (by simp); have hk := he.1; clear hr he
          have c0 := (HZ.out.kept hS.out (fun h => h)).cell 1
          go_simp
        refine VFrom.cons (VStep.val _ rfl _ rfl (.int .i64 dd) rfl trivial (fun ev wq hS he hr => ?_)) ?_
        · have r0 : ev (.tmp 27) = .int .i64 qt := hr (27, some 11) (by simp); have r1 : ev (.tmp 29) = .int .i64 qf := hr (29, some 13) (by simp); have hk := he.1; clear hr he
          have e1 := WS.out; have e2 := WD.out; rw [e2] at e1
          go_simp
        refine VFrom.cons (VStep.val _ rfl _ rfl (.int .u64 dd) rfl trivial (fun ev wq hS he hr => ?_)) ?_
        · have r0 : ev (.tmp 30) = .int .i64 dd := hr (30, some 14) (by simp); have hk := he.1; clear hr he
          have e1 := W2'.out
          go_simp
        refine VFrom.cons (VStep.call _ rfl _ rfl (.string s2) rfl trivial 48 #[.int .u64 dd] (fun ev wq hS he hr => ?_) (fun wq hS => ?_)) ?_
        · have r0 : ev (.tmp 31) = .int .u64 dd := hr (31, some 15) (by simp); have hk := he.1; have hf := he.2; clear hr he
          go_simp
        · exact (C2.out wq).mono fun e w' ⟨h1, h2⟩ => ⟨h1, hS.out.trans h2 (fun _ _ h => h)⟩
        refine VFrom.cons (VStep.val _ rfl _ rfl (.string s02) rfl trivial (fun ev wq hS he hr => ?_)) ?_
        · have r0 : ev (.tmp 25) = .string s01 := hr (25, some 9) (by simp); have r1 : ev (.tmp 32) = .string s2 := hr (32, some 16) (by simp); have hk := he.1; clear hr he
          have e1 := A2.out wq
          go_simp
        refine VFrom.cons (VStep.val _ rfl _ rfl (.string sN) rfl trivial (fun ev wq hS he hr => ?_)) ?_
        · have r0 : ev (.tmp 16) = .string sS := hr (16, some 0) (by simp); have r1 : ev (.tmp 33) = .string s02 := hr (33, some 17) (by simp); have hk := he.1; clear hr he
          have e1 := A3.out wq
          go_simp
        refine VFrom.cons (VStep.val _ rfl _ rfl (.string sN) rfl trivial (fun ev wq hS he hr => ?_)) ?_
        · have r0 : ev (.tmp 34) = .string sN := hr (34, some 18) (by simp); have hk := he.1; clear hr he
          go_simp
        exact VFrom.nil
      case hS => exact hid ((Kp.refl Nb W2).drew)
      case hend =>
        intro w5 h5
        have K5 := hid (HK2.out.trans h5.out (fun _ _ h => h))
        clear h5 C0 C1 C2 A1 A2 A3 HZ HK2 WD WS W0 W1 W2'
        simp only [putAll, List.zip_cons_cons, List.zip_nil_right, List.foldl_cons, List.foldl_nil, Act.put, List.setIfInBounds_toArray, List.set_cons_zero, List.set_cons_succ]
        go_wp2
        go_roundw
        case rel => exact ⟨k + 1, by rw [HLE.out]; have := HLT.out; omega, by go_num, by rw [HSN.out], K5⟩
        case measure => have := HLT.out; simp [intOf]; omega
    · obtain rfl : k = L := by omega
      have HE : Hid (st (numBytes (c.length : Int) ++ runsB (c.take k)) = st (bytesC c)) := hid (by unfold bytesC; rw [List.take_of_length_le (Nat.le_of_eq HLE.out)])
      rw [HE.out]
      go_wp2
      go_ret
      exact ⟨rfl, HK.out⟩

theorem getLC_err (k : Nat) (z : List Int) (out : List RunQ) (h : (rdC z 0).2.2 ≠ 0) : finC (getLC (k + 1) z 0 out) = ([], (rdC z 0).2.1, (rdC z 0).2.2) := by
  unfold getLC
  rw [if_pos h]
  rfl
theorem getLC_next (k : Nat) (z : List Int) (out : List RunQ) (h : (rdC z 0).2.2 = 0) : getLC (k + 1) z 0 out = getLC k (rdC z 0).2.1 0 (out ++ [((rdA z 0).1, (rdB z 0).1, (rdB z 0).1 + (rdC z 0).1)]) := by
  rw [getLC, if_neg (by rw [h]; simp), h]
theorem readN_zero (zs : List Int) (e most : Int) (he : (readN zs e most).2.2 ≠ 0) : (readN zs e most).1 = 0 := by
  unfold readN at he ⊢
  split
  · rfl
  · rename_i h1
    rw [if_neg h1] at he
    split
    · rfl
    · rename_i h2
      rw [if_neg h2] at he
      split
      · rfl
      · rename_i h3
        rw [if_neg h3] at he
        exfalso
        apply he
        first | rfl | (dsimp only; omega) | (simp_all)
def RgcR (w1 : World) (E n : Nat) (R : Option (List RunQ) × List Int × Int) (u i : Value) (wr : World) : Prop := ∃ (k : Nat) (out : List RunQ) (z : List Int) (e : Int), k ≤ n ∧ i = .int .i64 k ∧ Hid (RefAt wr E z e) ∧ Hid (IsBytes z) ∧
  Hid (wr.ownsRow w1.heap.size 61 3 u out.length (flatR runL out)) ∧ Hid (∀ q ∈ out, RunOk q) ∧ Hid (out.length ≤ k) ∧ Hid ((e = 0 ∧ getLC (n - k) z 0 out = R) ∨ (e ≠ 0 ∧ finC R = ([], z, e))) ∧ Hid (Kp (Jb E) w1 wr)
set_option maxRecDepth 100000 in
set_option maxHeartbeats 8000000 in
theorem rgetc_any (E : Nat) (zs : List Int) (w : World) (h : RefAt w E zs 0) (hz : IsBytes zs) :
    Calls Tryz.prog 31 #[.pointer (some ⟨E, 0, none⟩)] w fun r w' => ∃ v', r = .returned v' ∧ ClSl w' v' (getC zs 0).1 ∧ RefAt w' E (getC zs 0).2.1 (getC zs 0).2.2 ∧ Kp (Jb E) w w' := by
  have CN := hid (refi_number E zs 0 1024 w h hz)
  have ht := readN_topD zs 0 1024 hz (by decide)
  have hte := readN_zero zs 0 1024
  have hbz := readN_okD zs 0 1024 hz
  have HG : Hid (getC zs 0 = finC (getLC (readN zs 0 1024).1.toNat (readN zs 0 1024).2.1 (readN zs 0 1024).2.2 [])) := hid rfl
  obtain ⟨G, hG⟩ : ∃ G, getC zs 0 = G := ⟨_, rfl⟩
  rw [hG] at HG ⊢
  obtain ⟨⟨n0, z0, e0⟩, hr⟩ : ∃ r, readN zs 0 1024 = r := ⟨_, rfl⟩
  rw [hr] at CN ht hbz HG hte
  dsimp only at CN ht hbz HG hte
  obtain ⟨n, rfl⟩ : ∃ n : Nat, n0 = (n : Int) := ⟨n0.toNat, by omega⟩
  rw [Int.toNat_natCast] at HG
  obtain ⟨R, hR⟩ : ∃ R, getLC n z0 e0 [] = R := ⟨_, rfl⟩
  rw [hR] at HG
  have HST : Hid ((e0 = 0 ∧ getLC (n - 0) z0 0 [] = R) ∨ (e0 ≠ 0 ∧ finC R = ([], z0, e0))) := hid (by
    by_cases he : e0 = 0
    · left; exact ⟨he, by rw [Nat.sub_zero, ← hR, he]⟩
    · right
      refine ⟨he, ?_⟩
      have hn : n = 0 := by have := hte he; omega
      rw [← hR, hn]
      unfold getLC finC
      dsimp only
      rw [if_pos (show rightC [] = true from rfl)])
  have hn4 : n ≤ 1024 := by have := ht.2; omega
  have HN4 := hid hn4
  have HBZ := hid hbz
  have HELT : Hid (E < w.heap.size) := hid h.lt
  clear h hz ht hte hbz hG hr hR
  go_enter Tryz.func31, Tryz.ntmps31
  go_wp2_with fail
  refine CN.out.mono ?_
  rintro r w1 ⟨rfl, r1, k1⟩
  have HR1 := hid r1
  have K1 := hid k1
  have HEL1 : Hid (E < w1.heap.size) := hid r1.lt
  clear r1 k1 CN
  go_wp2_with fail
  go_loopw [4, 5] (RgcR w1 E n R) (fun _ i _ => n - (intOf i).toNat)
  case atStart => exact ⟨0, [], z0, e0, Nat.zero_le _, rfl, HR1, HBZ, hid ⟨by simp [flatR], .inl ⟨rfl, rfl⟩⟩, hid (by simp), hid (Nat.le_refl _), HST, hid (Kp.refl _ _)⟩
  case round =>
    clear HST HR1
    obtain ⟨k, out, z, e, hk, rfl, HE, HB, HO, HOK, HLN, HS, HK⟩ := hrel
    obtain ⟨a4, c4, rfl⟩ := own_shape HO.out
    have c0 := Blk.cell HE.out 0
    have c1 := Blk.cell HE.out 1
    simp only [List.getElem?_cons_zero, List.getElem?_cons_succ] at c0 c1
    have hn5 := HN4.out
    by_cases he : e = 0
    · subst he
      have HS0 : Hid (getLC (n - k) z 0 out = R) := hid (by
        rcases HS.out with h | h
        · exact h.2
        · exact absurd rfl h.1)
      clear HS
      by_cases hlt : k < n
      · have HLT := hid hlt
        have CA := hid (refi_number E z 0 7 wr HE.out HB.out)
        have ta := readN_topD z 0 7 HB.out (by decide)
        have ba := readN_okD z 0 7 HB.out
        have hne := fun h => getLC_err (n - (k + 1)) z out h
        have hnx := fun h => getLC_next (n - (k + 1)) z out h
        rw [show n - (k + 1) + 1 = n - k by omega, HS0.out] at hne hnx
        unfold rdC rdB at hne hnx
        unfold rdA at hne hnx
        obtain ⟨⟨a1, z1, e1⟩, hf1⟩ : ∃ f, readN z 0 7 = f := ⟨_, rfl⟩
        rw [hf1] at CA ta ba hne hnx
        dsimp only at CA ta ba hne hnx
        have CB : Hid (∀ wx, RefAt wx E z1 e1 → Calls Tryz.prog 52 #[.pointer (some ⟨E, 0, none⟩), .int .u64 1099511627776] wx fun r w' => r = .returned (.int .u64 (readN z1 e1 1099511627776).1) ∧ RefAt w' E (readN z1 e1 1099511627776).2.1 (readN z1 e1 1099511627776).2.2 ∧ Kp (Jb E) wx w') := hid (fun wx h => refi_number E z1 e1 _ wx h ba)
        have tb := readN_topD z1 e1 1099511627776 ba (by decide)
        have bb := readN_okD z1 e1 1099511627776 ba
        obtain ⟨⟨a2, z2, e2⟩, hf2⟩ : ∃ f, readN z1 e1 1099511627776 = f := ⟨_, rfl⟩
        rw [hf2] at CB tb bb hne hnx
        dsimp only at CB tb bb hne hnx
        have CC : Hid (∀ wx, RefAt wx E z2 e2 → Calls Tryz.prog 52 #[.pointer (some ⟨E, 0, none⟩), .int .u64 1099511627776] wx fun r w' => r = .returned (.int .u64 (readN z2 e2 1099511627776).1) ∧ RefAt w' E (readN z2 e2 1099511627776).2.1 (readN z2 e2 1099511627776).2.2 ∧ Kp (Jb E) wx w') := hid (fun wx h => refi_number E z2 e2 _ wx h bb)
        have tc := readN_topD z2 e2 1099511627776 bb (by decide)
        have bc := readN_okD z2 e2 1099511627776 bb
        obtain ⟨⟨a3, z3, e3⟩, hf3⟩ : ∃ f, readN z2 e2 1099511627776 = f := ⟨_, rfl⟩
        rw [hf3] at CC tc bc hne hnx
        dsimp only at CC tc bc hne hnx
        obtain ⟨t, ht⟩ : ∃ t, a2 + a3 = t := ⟨_, rfl⟩
        have HQK : Hid (RunOk (a1, a2, t)) := hid (by unfold RunOk I64; dsimp only; omega)
        rw [ht] at hnx
        have HST : Hid ((e3 = 0 ∧ getLC (n - (k + 1)) z3 0 (out ++ [(a1, a2, t)]) = R) ∨ (e3 ≠ 0 ∧ finC R = ([], z3, e3))) := hid (by
          by_cases h : e3 = 0
          · exact .inl ⟨h, (hnx h).symm⟩
          · exact .inr ⟨h, hne h⟩)
        have HB' := hid bc
        have hwt : IntKind.i64.wrap (a2 + a3) = t := by rw [← ht]; exact IntWalk.i64_in _ (by omega)
        have q1 := ta.1
        have q2 := ta.2
        have q3 := tb.1
        have q4 := tb.2
        have q5 := tc.1
        have q6 := tc.2
        clear hf1 hf2 hf3 ta tb tc ba bb bc hne hnx ht
        go_wp2_with fail
        refine CA.out.mono ?_
        rintro r w4 ⟨rfl, r4, k4⟩
        have HE4 := hid r4
        have HK4 := hid (HK.out.trans k4 (fun _ _ h => h))
        have HO4 := hid (ownsRow_kpJ HO.out k4 HEL1.out)
        clear r4 k4 c0 c1 CA
        go_wp2_with fail
        refine (CB.out w4 HE4.out).mono ?_
        rintro r w5 ⟨rfl, r5, k5⟩
        have HE5 := hid r5
        have HK5 := hid (HK4.out.trans k5 (fun _ _ h => h))
        have HO5 := hid (ownsRow_kpJ HO4.out k5 HEL1.out)
        clear r5 k5 CB
        go_wp2_with fail
        refine (CC.out w5 HE5.out).mono ?_
        rintro r w6 ⟨rfl, r6, k6⟩
        have HE6 := hid r6
        have HK6 := hid (HK5.out.trans k6 (fun _ _ h => h))
        have HO6 := hid (ownsRow_kpJ HO5.out k6 HEL1.out)
        clear r6 k6 CC
        have MK := hid (make_run1 w6 a1 a2 t)
        obtain ⟨i0, zz, hi, hz0, hz1, hz2, hz3⟩ := run_info3
        have B2 : Hid (out.length + [(a1, a2, t)].length ≤ maxLen ∧ (out.length + [(a1, a2, t)].length) * 24 ≤ 140737488355328 ∧ w1.heap.size ≤ (w6.alloc (.cells #[.int .i64 a1, .int .i64 a2, .int .i64 t] 61 (0, 0))).heap.size) := hid (by
          have h1 := HK6.out.size
          have h2 := ((Kp.refl Nb w6).alloc (.cells #[.int .i64 a1, .int .i64 a2, .int .i64 t] 61 (0, 0))).size
          have h3 := HLN.out
          refine ⟨?_, ?_, Nat.le_trans h1 h2⟩ <;> rw [List.length_singleton]
          · unfold maxLen; omega
          · omega)
        go_wp2_with (first
          | (refine wpList_val (by rfl) _ _ (exec_buildSliceD rfl (qs := #[(0, .agg #[.int .i64 a1, .int .i64 a2, .int .i64 t])]) (by simp [Act.eval, Act.put]) MK.out) ?_)
          | (at_builtin; refine wpList_append_rows (f := runL) (z := (0, 0, 0)) (c := 3) rfl _ _ 23 rfl w1.heap.size 61 i0 zz 24 under_clock hi hz0 hz1 hz2 hz3 (by decide) _ _ _ rfl (ownsRow_kpD HO6.out ((Kp.refl Nb _).alloc _)) _ [(a1, a2, t)] rfl (rows_oneR (Blk.new _ _ _)) (fun x hx => rfl) (fun x _ => run_one' x) B2.out.1 B2.out.2.1 B2.out.2.2 ?_))
        intro v10 w10 hown hgrow
        have kx : Kp (fun i => w1.heap.size ≤ i) w6 w10 := ((Kp.refl (fun i => w1.heap.size ≤ i) w6).alloc (.cells #[.int .i64 a1, .int .i64 a2, .int .i64 t] 61 (0, 0))).grown hgrow (fun g hg h => (row_cells HO6.out hg).1)
        have HE10 := hid (HE6.out.kept kx (fun h => by have := HEL1.out; omega))
        have HK10 : Hid (Kp (Jb E) w1 w10) := hid (HK6.out.trans kx (fun i hi h => by have : w1.heap.size ≤ i := h; omega))
        have HO10 : Hid (w10.ownsRow w1.heap.size 61 3 v10 (out ++ [(a1, a2, t)]).length (flatR runL (out ++ [(a1, a2, t)]))) := hid (by rw [List.length_append, flatR_append]; exact hown)
        obtain ⟨a10, c10, rfl⟩ := own_shape hown
        have RE : Hid (RgcR w1 E n R (.slice a10 (out.length + [(a1, a2, t)].length) c10) (.int .i64 ((k : Int) + 1)) w10) := hid ⟨k + 1, out ++ [(a1, a2, t)], z3, e3, HLT.out, by go_num, HE10, HB', HO10, hid (fun x hx => by
          rcases List.mem_append.1 hx with hx | hx
          · exact HOK.out x hx
          · rw [List.mem_singleton.1 hx]; exact HQK.out), hid (by rw [List.length_append, List.length_singleton]; have := HLN.out; omega), HST, HK10⟩
        clear hown hgrow HK10 HE10 HO10 kx
        go_wp2
        go_roundw
        case rel => exact RE.out
        case measure => have := HLT.out; simp [intOf]; omega
      · obtain rfl : k = n := by omega
        have HRS : Hid (R = (some out, z, 0)) := hid (by have := HS0.out; rw [Nat.sub_self] at this; exact this.symm)
        have HM : Hid (ClSl wr (.slice a4 out.length c4) out) := hid (cl_owned HO.out HOK.out)
        have CR := hid (rright_any _ out wr HM.out (by have := HLN.out; omega))
        obtain ⟨rb, hrb⟩ : ∃ b, rightC out = b := ⟨_, rfl⟩
        have HG2 : Hid (G = if rb then (out, z, 0) else ([], failS z 0 11, failE 0 11)) := hid (by rw [HG.out, HRS.out, ← hrb]; rfl)
        rw [hrb] at CR
        clear hrb HS0
        go_wp2_with fail
        refine CR.out.mono ?_
        rintro r w5 ⟨rfl, k5⟩
        have HE5 := hid (HE.out.kept k5 (fun h => h))
        have HK5 := hid (HK.out.trans k5 (fun _ _ h => h.elim))
        have HM5 := hid (HM.out.kept k5)
        have c0 := Blk.cell HE5.out 0
        have c1 := Blk.cell HE5.out 1
        simp only [List.getElem?_cons_zero, List.getElem?_cons_succ] at c0 c1
        have KE : Hid (Kp (Jb E) w w5) := hid (K1.out.trans HK5.out (fun _ _ h => h))
        clear k5 CR
        cases rb with
        | true =>
          go_wp2
          go_ret
          have hG : G = (out, z, 0) := HG2.out
          rw [hG]
          exact ⟨_, rfl, HM5.out, HE5.out, KE.out⟩
        | false =>
          have CX := hid (refi_fail E z 0 11 w5 HE5.out)
          clear c0 c1
          go_wp2_with fail
          refine CX.out.mono ?_
          rintro r w6 ⟨rfl, r6, k6⟩
          have HE6 := hid r6
          have KE6 := hid (KE.out.trans k6 (fun _ _ h => h))
          have c0 := Blk.cell HE6.out 0
          have c1 := Blk.cell HE6.out 1
          have hfe : failE 0 11 = 11 := rfl
          simp only [List.getElem?_cons_zero, List.getElem?_cons_succ] at c0 c1
          rw [hfe] at c1
          clear r6 k6 CX
          go_wp2
          go_ret
          have hG : G = ([], failS z 0 11, failE 0 11) := HG2.out
          rw [hG]
          exact ⟨_, rfl, cl_nil _, HE6.out, KE6.out⟩
    · have HS0 : Hid (finC R = ([], z, e)) := hid (by
        rcases HS.out with h | h
        · exact absurd h.1 he
        · exact h.2)
      have KE : Hid (Kp (Jb E) w wr) := hid (K1.out.trans HK.out (fun _ _ h => h))
      have HE' := HE
      by_cases hlt : k < n
      · go_wp2
        go_ret
        rw [HG.out, HS0.out]
        exact ⟨_, rfl, cl_nil _, HE'.out, KE.out⟩
      · go_wp2
        go_ret
        rw [HG.out, HS0.out]
        exact ⟨_, rfl, cl_nil _, HE'.out, KE.out⟩

end Go.Proofs.YtbbfibgijackhaaGreatDoor

namespace Go.Proofs.YtbbfibgijackhaaGreatDoor
open Go.RowKit

def TxAt (w : World) (g : Nat) (xs : List (List UInt8)) : Prop := ∀ k, k < xs.length → w.cell? ⟨g, k, none⟩ = some (.string (bs (xs[k]?.getD [])))
theorem TxAt.kept {w w' : World} {g : Nat} {xs : List (List UInt8)} (h : TxAt w g xs) (k : Kp Nb w w') : TxAt w' g xs := fun i hi => k.cell (h i hi) (fun h => h)
theorem tx_cells {B : Nat} {w : World} {v : Value} {xs : List (List UInt8)} {n : Nat} (h : TxOwn B w v xs) (hn : xs.length = n) (h0 : 0 < n) : ∃ g cap, v = .slice (some ⟨g, 0, none⟩) n cap ∧ n ≤ cap ∧ cap ≤ maxLen ∧ TxAt w g xs := by
  subst hn
  obtain ⟨g, cap, vs, e0, hbg, hg, hnc, hcm, hvl, hvt⟩ := rowblk h h0
  refine ⟨g, cap, e0, hnc, hcm, fun k hk => ?_⟩
  rw [hg.cell k, ← List.getElem?_take_of_lt (show k < xs.length * 1 by omega), hvt, flat_tx, List.getElem?_map, List.getElem?_eq_getElem hk]
  rfl
theorem rsplit_at (s : List UInt8) (c : UInt8) (n : Int) (hn : (c.toNat : Int) = n) (w : World) (hl : s.length ≤ 1000000) :
    Calls Tryz.prog 56 #[.string (bs s), .int .u8 n] w fun e w' => ∃ v', e = .returned v' ∧ TxOwn w.heap.size w' v' (splL c s) ∧ Kp Nb w w' := by
  rw [← hn]
  exact rsplit_any s c w hl
theorem rnumber_at (s : List UInt8) (V : Value) (hV : numV s = V) (w : World) (hl : s.length ≤ 1000000) :
    Calls Tryz.prog 57 #[.string (bs s)] w fun e w' => e = .returned V ∧ w = w' := by
  rw [← hV]
  exact (rnumber_any s w hl).mono fun e w' h => ⟨h.1, h.2.symm⟩
theorem numV_none {s : List UInt8} (h : numT s = none) : numV s = .tuple #[.int .i64 0, .bool false] := by unfold numV; rw [h]
theorem numV_some {s : List UInt8} {n : Nat} (h : numT s = some n) : numV s = .tuple #[.int .i64 (n : Int), .bool true] := by unfold numV; rw [h]
theorem numV_any (s : List UInt8) : ∃ x y, numV s = .tuple #[.int .i64 x, .bool y] := by
  unfold numV
  split
  · exact ⟨_, _, rfl⟩
  · exact ⟨_, _, rfl⟩
theorem numT_lt {s : List UInt8} {n : Nat} (h : numT s = some n) : n < 1000000000000000000 := by
  unfold numT at h
  split at h
  · cases h
  · rename_i hc
    have h1 := decFrom_lt s n h
    have h2 : s.length ≤ 18 := by
      rcases Nat.lt_or_ge 18 s.length with h | h
      · exact (hc (.inr (.inl h))).elim
      · exact h
    have h3 := Nat.pow_le_pow_right (n := 10) (by decide) h2
    have e : (10 : Nat) ^ 18 = 1000000000000000000 := by decide
    omega
theorem prsR_ne {w : List UInt8} (h : (splL 58 w).length ≠ 2) : prsR w = none := by
  unfold prsR
  split
  · rename_i p0 p1 hp
    rw [hp] at h
    exact (h rfl).elim
  · rfl
theorem prsR_two {w : List UInt8} {p0 p1 : List UInt8} (h : splL 58 w = [p0, p1]) : prsR w = (numT p0).bind fun a => prsQ (splL 45 p1) a := by
  unfold prsR
  rw [h]
theorem spl_some (c : UInt8) (s : List UInt8) : ∃ q0 R, splL c s = q0 :: R := by
  cases h : splL c s with
  | nil => exfalso; have := congrArg List.length h; unfold splL at this; simp at this
  | cons q0 R => exact ⟨q0, R, rfl⟩
def ParOut (w : World) (x : Option (List RunQ)) (e : Ending) (w' : World) : Prop := ∃ v', e = .returned (.tuple #[v', .bool x.isSome]) ∧ ClSl w' v' (x.getD []) ∧ Kp Nb w w'
def RprR (w1 : World) (ws : List (List UInt8)) (i u : Value) (wr : World) : Prop := ∃ (k : Nat) (c : List RunQ), k ≤ ws.length ∧ i = .int .i64 k ∧ Hid (prsL (ws.take k) = some c) ∧ Hid (wr.ownsRow w1.heap.size 61 3 u c.length (flatR runL c)) ∧ Hid (∀ q ∈ c, RunOk q) ∧ Hid (Kp Nb w1 wr)
theorem take_atW {s : List (List UInt8)} {k : Nat} (hk : k < s.length) : s.take (k + 1) = s.take k ++ [s[k]?.getD []] := by
  rw [List.take_succ_eq_append_getElem hk, List.getElem?_eq_getElem hk]
  rfl
theorem prs_next {ws : List (List UInt8)} {k : Nat} {c : List RunQ} (hk : k < ws.length) (h : prsL (ws.take k) = some c) : prsL (ws.take (k + 1)) = (prsR (ws[k]?.getD [])).map (fun r => c ++ [r]) := by
  rw [take_atW hk]
  exact prsL_snoc _ _ c h
theorem prs_bad {ws : List (List UInt8)} {k : Nat} (hk : k < ws.length) (h : prsR (ws[k]?.getD []) = none) : prsL ws = none := by
  have e : ws = ws.take k ++ (ws[k]?.getD [] :: ws.drop (k + 1)) := by
    rw [List.getElem?_eq_getElem hk, Option.getD_some, ← List.drop_eq_getElem_cons hk, List.take_append_drop]
  rw [e]
  exact prsL_none _ _ _ h

set_option maxRecDepth 100000 in
set_option maxHeartbeats 16000000 in
theorem rparse_any (s : List UInt8) (w : World) (hl : s.length ≤ 1000) : Calls Tryz.prog 33 #[.string (bs s)] w (ParOut w (parT s)) := by
  by_cases h0 : s = [45]
  · subst h0
    have e : (bs [45]) = ⟨#[45]⟩ := rfl
    have HPT : Hid (parT [45] = some []) := hid rfl
    rw [e]
    clear e
    go_enter Tryz.func33, Tryz.ntmps33
    go_wp2
    go_ret2
    rw [HPT.out]
    exact ⟨_, rfl, cl_nil _, Kp.refl _ _⟩
  · obtain ⟨ws, hws⟩ : ∃ ws, splL 32 s = ws := ⟨_, rfl⟩
    have HPT0 : parT s = (prsL ws).bind fun c => if rightC c then some c else none := by unfold parT; rw [if_neg h0, hws]
    have hwl : ws.length ≤ 1001 := by rw [← hws]; unfold splL; rw [List.length_append, List.length_singleton]; have := (splS_len 32 s).1; omega
    have hw0 : 0 < ws.length := by rw [← hws]; unfold splL; simp
    have HMEM : Hid (∀ x ∈ ws, x.length ≤ 1000) := hid (fun x hx => by have := spl_mem (c := 32) (s := s) (x := x) (by rw [hws]; exact hx); omega)
    have CS := hid (rsplit_at s 32 32 rfl w (by omega))
    rw [hws] at CS
    have hq : ((bs s).toList == [45]) = false := by
      rw [bs_toList, beq_eq_false_iff_ne]
      exact h0
    have hne : bs s ≠ ⟨#[45]⟩ := fun e => h0 (by have := congrArg (fun x : ByteArray => x.data.toList) e; exact this)
    obtain ⟨S, hS⟩ : ∃ S, bs s = S := ⟨_, rfl⟩
    rw [hS] at CS hq hne ⊢
    obtain ⟨PT, hPT⟩ : ∃ x, parT s = x := ⟨_, rfl⟩
    rw [hPT] at HPT0 ⊢
    have HPT := hid HPT0
    clear HPT0 hPT hS hws h0 hl
    obtain ⟨L, hL⟩ : ∃ L, ws.length = L := ⟨_, rfl⟩
    have HLE := hid hL
    rw [hL] at hwl hw0
    go_enter Tryz.func33, Tryz.ntmps33
    go_wp2_with fail
    refine CS.out.mono ?_
    rintro r w1 ⟨vw, rfl, ow, k1⟩
    obtain ⟨gw, cw, rfl, hcw, hcm, htw⟩ := tx_cells ow hL hw0
    have HW := hid htw
    have K1 := hid k1
    unfold maxLen at hcm
    clear ow k1 htw CS hne hq hL
    go_wp2_with fail
    go_loopw [21, 4] (RprR w1 ws) (fun i _ _ => L - (intOf i).toNat)
    case atStart => exact ⟨0, [], Nat.zero_le _, rfl, hid rfl, hid ⟨by simp [flatR], .inl ⟨rfl, rfl⟩⟩, hid (by simp), hid (Kp.refl _ _)⟩
    case round =>
      obtain ⟨k, c, hk, rfl, HP, HO, HOK, HK⟩ := hrel
      rw [HLE.out] at hk
      obtain ⟨a4, c4, rfl⟩ := own_shape HO.out
      have hcl : c.length = k := by rw [prsL_len _ _ HP.out, List.length_take, HLE.out]; omega
      have HCL := hid hcl
      rw [hcl] at HO
      rw [hcl]
      by_cases hlt : k < L
      · have HLT := hid hlt
        have hkc : k < ws.length := by rw [HLE.out]; exact hlt
        have hbad := fun h => prs_bad (ws := ws) hkc h
        have hnx := prs_next hkc HP.out
        have ck := (HW.out.kept HK.out) k hkc
        obtain ⟨wk, hwk⟩ : ∃ x, ws[k]?.getD [] = x := ⟨_, rfl⟩
        have hmw : wk.length ≤ 1000 := HMEM.out wk (by rw [← hwk, List.getElem?_eq_getElem hkc]; exact List.getElem_mem hkc)
        rw [hwk] at hbad hnx ck
        have HBAD : Hid (prsR wk = none → PT = none) := hid (fun h => by rw [HPT.out, hbad h]; rfl)
        have HNX : Hid (∀ r, prsR wk = some r → prsL (ws.take (k + 1)) = some (c ++ [r])) := hid (fun r h => by rw [hnx, h]; rfl)
        have CS := hid (rsplit_at wk 58 58 rfl wr (by omega))
        obtain ⟨tv, htv⟩ : ∃ x, bs wk = x := ⟨_, rfl⟩
        rw [htv] at CS ck
        have HMW := hid hmw
        clear hbad hnx hwk hkc htv hmw hcl HP
        go_wp2_with fail
        refine CS.out.mono ?_
        rintro r w2 ⟨v7, rfl, o7, k2⟩
        have HK2 := hid (HK.out.trans k2 (fun _ _ h => h))
        have HO2 := hid (ownsRow_kpD HO.out k2)
        have O7 := hid o7
        have HEND : Hid (Kp Nb w w2) := hid (K1.out.trans HK2.out (fun _ _ h => h))
        clear k2 o7 CS ck HK HO
        by_cases hp2 : (splL 58 wk).length = 2
        · obtain ⟨p0, p1, hP⟩ : ∃ p0 p1, splL 58 wk = [p0, p1] := by
            rcases h : splL 58 wk with _ | ⟨p0, _ | ⟨p1, _ | ⟨p2, R⟩⟩⟩
            · rw [h] at hp2; simp at hp2
            · rw [h] at hp2; simp at hp2
            · exact ⟨_, _, rfl⟩
            · rw [h] at hp2; simp at hp2
          have hR := prsR_two hP
          have hm0 : p0.length ≤ 1000 := by have := spl_mem (c := 58) (s := wk) (x := p0) (by rw [hP]; simp); have := HMW.out; omega
          have hm1 : p1.length ≤ 1000 := by have := spl_mem (c := 58) (s := wk) (x := p1) (by rw [hP]; simp); have := HMW.out; omega
          rw [hP] at O7
          obtain ⟨g7, c7, rfl, hc7, hm7, ht7⟩ := tx_cells O7.out (n := 2) rfl (by decide)
          have d0 : w2.cell? ⟨g7, 0, none⟩ = some (.string (bs p0)) := ht7 0 (by simp)
          have d1 : w2.cell? ⟨g7, 1, none⟩ = some (.string (bs p1)) := ht7 1 (by simp)
          have D0 := hid d0
          have CS2 := hid (rsplit_at p1 45 45 rfl w2 (by omega))
          obtain ⟨q0, QR, hQ⟩ := spl_some 45 p1
          rw [hQ] at CS2 hR
          have hmq : ∀ q ∈ q0 :: QR, q.length ≤ 1000 := fun q hq => by have := spl_mem (c := 45) (s := p1) (x := q) (by rw [hQ]; exact hq); omega
          have HMQ := hid hmq
          have HR := hid hR
          have HM0 := hid hm0
          obtain ⟨tp0, htp0⟩ : ∃ x, bs p0 = x := ⟨_, rfl⟩
          obtain ⟨tp1, htp1⟩ : ∃ x, bs p1 = x := ⟨_, rfl⟩
          have HTP := hid htp0
          rw [htp0] at D0 d0
          rw [htp1] at CS2 d1
          unfold maxLen at hm7
          clear hP hR hm0 hm1 ht7 hQ hmq htp0 htp1 hp2 O7 d0
          go_wp2_with fail
          refine CS2.out.mono ?_
          rintro r w3 ⟨v8, rfl, o8, k3⟩
          have HK3 := hid (HK2.out.trans k3 (fun _ _ h => h))
          have HO3 := hid (ownsRow_kpD HO2.out k3)
          have d0 : w3.cell? ⟨g7, 0, none⟩ = some (.string tp0) := k3.cell D0.out (fun h => h)
          have O8 := hid o8
          have HEND3 : Hid (Kp Nb w w3) := hid (K1.out.trans HK3.out (fun _ _ h => h))
          clear k3 o8 CS2 d1 D0 HK2 HO2 HEND
          have hq0 : q0.length ≤ 1000 := HMQ.out q0 (by simp)
          obtain ⟨tq0, htq0⟩ : ∃ x, bs q0 = x := ⟨_, rfl⟩
          cases hna : numT p0 with
          | none =>
            have HNO : Hid (PT = none) := hid (HBAD.out (by rw [HR.out, hna]; rfl))
            obtain ⟨x1, y1, hxy⟩ := numV_any q0
            have CN0 : Hid (∀ wx, Calls Tryz.prog 57 #[.string tp0] wx fun e w' => e = .returned (.tuple #[.int .i64 0, .bool false]) ∧ wx = w') := hid (fun wx => by rw [← HTP.out]; exact rnumber_at p0 _ (numV_none hna) wx (by have := HM0.out; omega))
            have CN1 : Hid (∀ wx, Calls Tryz.prog 57 #[.string tq0] wx fun e w' => e = .returned (.tuple #[.int .i64 x1, .bool y1]) ∧ wx = w') := hid (fun wx => by rw [← htq0]; exact rnumber_at q0 _ hxy wx (by omega))
            obtain ⟨nq, hnq⟩ : ∃ n, (q0 :: QR).length = n := ⟨_, rfl⟩
            have hnq1 : 0 < nq := by rw [← hnq]; simp
            obtain ⟨g8, c8, rfl, hc8, hm8, ht8⟩ := tx_cells O8.out hnq (by omega)
            have d2 : w3.cell? ⟨g8, 0, none⟩ = some (.string tq0) := by rw [← htq0]; exact ht8 0 (by simp)
            unfold maxLen at hm8
            clear O8 ht8 hnq hna hxy htq0 hq0
            go_wp2_with fail
            refine (CN0.out _).mono ?_
            rintro r w4 ⟨rfl, rfl⟩
            go_wp2_with fail
            refine (CN1.out _).mono ?_
            rintro r w5 ⟨rfl, rfl⟩
            go_wp2
            go_ret2
            rw [HNO.out]
            exact ⟨_, rfl, cl_nil _, HEND3.out⟩
          | some a =>
            have ha := numT_lt hna
            cases hnb : numT q0 with
            | none =>
              have HNO : Hid (PT = none) := hid (HBAD.out (by rw [HR.out, hna, Option.bind_some]; rcases QR with _ | ⟨q1, _ | ⟨q2, R⟩⟩ <;> simp [prsQ, hnb]))
              have hxy := numV_none hnb
              have CN0 : Hid (∀ wx, Calls Tryz.prog 57 #[.string tp0] wx fun e w' => e = .returned (.tuple #[.int .i64 (a : Int), .bool true]) ∧ wx = w') := hid (fun wx => by rw [← HTP.out]; exact rnumber_at p0 _ (numV_some hna) wx (by have := HM0.out; omega))
              have CN1 : Hid (∀ wx, Calls Tryz.prog 57 #[.string tq0] wx fun e w' => e = .returned (.tuple #[.int .i64 (0 : Int), .bool false]) ∧ wx = w') := hid (fun wx => by rw [← htq0]; exact rnumber_at q0 _ hxy wx (by omega))
              obtain ⟨nq, hnq⟩ : ∃ n, (q0 :: QR).length = n := ⟨_, rfl⟩
              have hnq1 : 0 < nq := by rw [← hnq]; simp
              obtain ⟨g8, c8, rfl, hc8, hm8, ht8⟩ := tx_cells O8.out hnq (by omega)
              have d2 : w3.cell? ⟨g8, 0, none⟩ = some (.string tq0) := by rw [← htq0]; exact ht8 0 (by simp)
              unfold maxLen at hm8
              clear O8 ht8 hnq hna hxy htq0 hq0 hnb
              go_wp2_with fail
              refine (CN0.out _).mono ?_
              rintro r w4 ⟨rfl, rfl⟩
              go_wp2_with fail
              refine (CN1.out _).mono ?_
              rintro r w5 ⟨rfl, rfl⟩
              go_wp2
              go_ret2
              rw [HNO.out]
              exact ⟨_, rfl, cl_nil _, HEND3.out⟩
            | some b =>
              have hb := numT_lt hnb
              have hxy := numV_some hnb
              rcases QR with _ | ⟨q1, _ | ⟨q2, R⟩⟩
              · have HNR := hid (HNX.out ((a : Int), (b : Int), (b : Int)) (by rw [HR.out, hna, Option.bind_some]; dsimp only [prsQ]; rw [hnb]; rfl))
                have CN0 : Hid (∀ wx, Calls Tryz.prog 57 #[.string tp0] wx fun e w' => e = .returned (.tuple #[.int .i64 (a : Int), .bool true]) ∧ wx = w') := hid (fun wx => by rw [← HTP.out]; exact rnumber_at p0 _ (numV_some hna) wx (by have := HM0.out; omega))
                have CN1 : Hid (∀ wx, Calls Tryz.prog 57 #[.string tq0] wx fun e w' => e = .returned (.tuple #[.int .i64 (b : Int), .bool true]) ∧ wx = w') := hid (fun wx => by rw [← htq0]; exact rnumber_at q0 _ hxy wx (by omega))
                obtain ⟨g8, c8, rfl, hc8, hm8, ht8⟩ := tx_cells O8.out (n := 1) rfl (by decide)
                have d2 : w3.cell? ⟨g8, 0, none⟩ = some (.string tq0) := by rw [← htq0]; exact ht8 0 (by simp)
                unfold maxLen at hm8
                clear O8 ht8 hna hxy htq0 hq0 hnb
                go_wp2_with fail
                refine (CN0.out _).mono ?_
                rintro r w4 ⟨rfl, rfl⟩
                go_wp2_with fail
                refine (CN1.out _).mono ?_
                rintro r w5 ⟨rfl, rfl⟩
                obtain ⟨M, hM⟩ : ∃ M, w3.heap.size = M := ⟨_, rfl⟩
                obtain ⟨W8, hW8⟩ : ∃ W, W = (w3.alloc (.cells (runL (0, 0, 0)).toArray 61)).setCells M 0 (runL ((a : Int), (b : Int), (b : Int))) := ⟨_, rfl⟩
                have hz := Blk.new w3 61 (runL (0, 0, 0))
                rw [hM] at hz
                have KW8 : Hid (Kp Nb w3 W8) := hid (by rw [hW8]; exact Kp.setCells (fun h => absurd h (by omega)) _ 0 _ ((Kp.refl Nb w3).alloc _))
                have TH := hid (run_there (q := ((a : Int), (b : Int), (b : Int))) hz)
                have HZ8 : Hid (Blk W8 M 61 (runL ((a : Int), (b : Int), (b : Int)))) := hid (by rw [hW8]; exact row_set hz rfl)
                have RZ := hid (range_ofR HZ8.out)
                have HO8 := hid (ownsRow_kpD HO3.out KW8.out)
                have HMS : Hid (w3.heap.size = M) := hid hM
                clear hz
                go_upto_region 16 with (first
                  | (refine wpList_store_mid (by rfl) 61 (.tmp 13) (.tmp 62) (by rfl) M 0 (runL ((a : Int), (b : Int), (b : Int))).toArray (by rfl) (by rfl) TH.out (run_infoA ((a : Int), (b : Int), (b : Int))) (run_one ((a : Int), (b : Int), (b : Int))) ?_))
                rw [show (w3.alloc (.cells #[.int .i64 0, .int .i64 0, .int .i64 0] 61)).setCells M 0 (runL ((a : Int), (b : Int), (b : Int))) = W8 from hW8.symm]
                clear hW8 hM TH
                have MK := hid (make_run1 W8 (a : Int) (b : Int) (b : Int))
                obtain ⟨fs, hfs⟩ := under_run
                obtain ⟨i0, zz, hi, hz0, hz1, hz2, hz3⟩ := run_info3
                have B2 : Hid (k + [((a : Int), (b : Int), (b : Int))].length ≤ maxLen ∧ (k + [((a : Int), (b : Int), (b : Int))].length) * 24 ≤ 140737488355328 ∧ w1.heap.size ≤ (W8.alloc (.cells #[.int .i64 (a : Int), .int .i64 (b : Int), .int .i64 (b : Int)] 61 (0, 0))).heap.size) := hid (by
                  have h0 := HK3.out.size
                  have h1 := KW8.out.size
                  have h2 := ((Kp.refl Nb W8).alloc (.cells #[.int .i64 (a : Int), .int .i64 (b : Int), .int .i64 (b : Int)] 61 (0, 0))).size
                  have h3 := HLT.out
                  refine ⟨?_, ?_, by omega⟩ <;> rw [List.length_singleton]
                  · unfold maxLen; omega
                  · omega)
                go_wp2_with (first
                  | (refine wpList_load_mid (by rfl) 61 (.tmp 13) (by rfl) M 0 (by rfl) (runL ((a : Int), (b : Int), (b : Int))) _ RZ.out hfs rfl (run_infoL ((a : Int), (b : Int), (b : Int))) ?_)
                  | (refine wpList_val (by rfl) _ _ (exec_buildSliceD rfl (qs := #[(0, .agg #[.int .i64 (a : Int), .int .i64 (b : Int), .int .i64 (b : Int)])]) (by simp [Act.eval, Act.put]) MK.out) ?_)
                  | (at_builtin; refine wpList_append_rows (f := runL) (z := (0, 0, 0)) (c := 3) rfl _ _ 23 rfl w1.heap.size 61 i0 zz 24 under_clock hi hz0 hz1 hz2 hz3 (by decide) _ _ _ rfl (ownsRow_kpD HO8.out ((Kp.refl Nb _).alloc _)) _ [((a : Int), (b : Int), (b : Int))] rfl (rows_oneR (Blk.new _ _ _)) (fun x hx => rfl) (fun x _ => run_one' x) B2.out.1 B2.out.2.1 B2.out.2.2 ?_))
                intro v10 w10 hown hgrow
                have HK10 : Hid (Kp Nb w1 w10) := hid (((HK3.out.trans KW8.out (fun _ _ h => h)).trans ((Kp.refl Nb W8).alloc (.cells #[.int .i64 (a : Int), .int .i64 (b : Int), .int .i64 (b : Int)] 61 (0, 0))) (fun _ _ h => h)).grown hgrow (fun g hg h => by have := (row_cells HO8.out hg).1; omega))
                have HO10 : Hid (w10.ownsRow w1.heap.size 61 3 v10 (c ++ [((a : Int), (b : Int), (b : Int))]).length (flatR runL (c ++ [((a : Int), (b : Int), (b : Int))]))) := hid (by rw [List.length_append, HCL.out, flatR_append]; exact hown)
                have HOK10 : Hid (∀ q ∈ c ++ [((a : Int), (b : Int), (b : Int))], RunOk q) := hid (fun q hq => by
                  rcases List.mem_append.1 hq with hq | hq
                  · exact HOK.out q hq
                  · rw [List.mem_singleton.1 hq]; unfold RunOk I64; dsimp only; omega)
                obtain ⟨a10, c10, rfl⟩ := own_shape hown
                clear hown hgrow
                have hb9 := HLT.out
                go_wp2
                go_roundw
                case rel => exact ⟨k + 1, c ++ [((a : Int), (b : Int), (b : Int))], by rw [HLE.out]; exact HLT.out, by go_num, HNR, HO10, HOK10, HK10⟩
                case measure => have := HLT.out; simp [intOf]; omega
              · have hq1 : q1.length ≤ 1000 := HMQ.out q1 (by simp)
                obtain ⟨tq1, htq1⟩ : ∃ x, bs q1 = x := ⟨_, rfl⟩
                cases hnt : numT q1 with
                | none =>
                  have HNO : Hid (PT = none) := hid (HBAD.out (by rw [HR.out, hna, Option.bind_some]; dsimp only [prsQ]; rw [hnb, hnt]; rfl))
                  have hxz := numV_none hnt
                  have CN0 : Hid (∀ wx, Calls Tryz.prog 57 #[.string tp0] wx fun e w' => e = .returned (.tuple #[.int .i64 (a : Int), .bool true]) ∧ wx = w') := hid (fun wx => by rw [← HTP.out]; exact rnumber_at p0 _ (numV_some hna) wx (by have := HM0.out; omega))
                  have CN1 : Hid (∀ wx, Calls Tryz.prog 57 #[.string tq0] wx fun e w' => e = .returned (.tuple #[.int .i64 (b : Int), .bool true]) ∧ wx = w') := hid (fun wx => by rw [← htq0]; exact rnumber_at q0 _ hxy wx (by omega))
                  have CN2 : Hid (∀ wx, Calls Tryz.prog 57 #[.string tq1] wx fun e w' => e = .returned (.tuple #[.int .i64 0, .bool false]) ∧ wx = w') := hid (fun wx => by rw [← htq1]; exact rnumber_at q1 _ hxz wx (by omega))
                  obtain ⟨g8, c8, rfl, hc8, hm8, ht8⟩ := tx_cells O8.out (n := 2) rfl (by decide)
                  have d2 : w3.cell? ⟨g8, 0, none⟩ = some (.string tq0) := by rw [← htq0]; exact ht8 0 (by simp)
                  have D3 : Hid (w3.cell? ⟨g8, 1, none⟩ = some (.string tq1)) := hid (by rw [← htq1]; exact ht8 1 (by simp))
                  unfold maxLen at hm8
                  clear O8 ht8 hna hxy htq0 hq0 hnb hnt hxz htq1 hq1
                  go_wp2_with fail
                  refine (CN0.out _).mono ?_
                  rintro r w4 ⟨rfl, rfl⟩
                  go_wp2_with fail
                  refine (CN1.out _).mono ?_
                  rintro r w5 ⟨rfl, rfl⟩
                  obtain ⟨M, hM⟩ : ∃ M, w3.heap.size = M := ⟨_, rfl⟩
                  obtain ⟨W8, hW8⟩ : ∃ W, W = (w3.alloc (.cells (runL (0, 0, 0)).toArray 61)).setCells M 0 (runL ((a : Int), (b : Int), (b : Int))) := ⟨_, rfl⟩
                  have hz := Blk.new w3 61 (runL (0, 0, 0))
                  rw [hM] at hz
                  have KW8 : Hid (Kp Nb w3 W8) := hid (by rw [hW8]; exact Kp.setCells (fun h => absurd h (by omega)) _ 0 _ ((Kp.refl Nb w3).alloc _))
                  have TH := hid (run_there (q := ((a : Int), (b : Int), (b : Int))) hz)
                  have HZ8 : Hid (Blk W8 M 61 (runL ((a : Int), (b : Int), (b : Int)))) := hid (by rw [hW8]; exact row_set hz rfl)
                  have RZ := hid (range_ofR HZ8.out)
                  have HO8 := hid (ownsRow_kpD HO3.out KW8.out)
                  have HMS : Hid (w3.heap.size = M) := hid hM
                  clear hz
                  go_upto_region 16 with (first
                    | (refine wpList_store_mid (by rfl) 61 (.tmp 13) (.tmp 62) (by rfl) M 0 (runL ((a : Int), (b : Int), (b : Int))).toArray (by rfl) (by rfl) TH.out (run_infoA ((a : Int), (b : Int), (b : Int))) (run_one ((a : Int), (b : Int), (b : Int))) ?_))
                  rw [show (w3.alloc (.cells #[.int .i64 0, .int .i64 0, .int .i64 0] 61)).setCells M 0 (runL ((a : Int), (b : Int), (b : Int))) = W8 from hW8.symm]
                  clear hW8 hM TH
                  have d3 : W8.cell? ⟨g8, 1, none⟩ = some (.string tq1) := KW8.out.cell D3.out (fun h => h)
                  clear d0 d2
                  go_wp2_with fail
                  refine (CN2.out _).mono ?_
                  rintro r w6 ⟨rfl, rfl⟩
                  go_wp2
                  go_ret2
                  rw [HNO.out]
                  exact ⟨_, rfl, cl_nil _, HEND3.out.trans KW8.out (fun _ _ h => h)⟩
                | some t =>
                  have ht := numT_lt hnt
                  have hxz := numV_some hnt
                  by_cases htb : t = b
                  · subst htb
                    have HNO : Hid (PT = none) := hid (HBAD.out (by rw [HR.out, hna, Option.bind_some]; dsimp only [prsQ]; rw [hnb, hnt]; simp))
                    obtain ⟨b, rfl⟩ : ∃ b, b = t := ⟨_, rfl⟩
                    have CN0 : Hid (∀ wx, Calls Tryz.prog 57 #[.string tp0] wx fun e w' => e = .returned (.tuple #[.int .i64 (a : Int), .bool true]) ∧ wx = w') := hid (fun wx => by rw [← HTP.out]; exact rnumber_at p0 _ (numV_some hna) wx (by have := HM0.out; omega))
                    have CN1 : Hid (∀ wx, Calls Tryz.prog 57 #[.string tq0] wx fun e w' => e = .returned (.tuple #[.int .i64 (b : Int), .bool true]) ∧ wx = w') := hid (fun wx => by rw [← htq0]; exact rnumber_at q0 _ hxy wx (by omega))
                    have CN2 : Hid (∀ wx, Calls Tryz.prog 57 #[.string tq1] wx fun e w' => e = .returned (.tuple #[.int .i64 (b : Int), .bool true]) ∧ wx = w') := hid (fun wx => by rw [← htq1]; exact rnumber_at q1 _ hxz wx (by omega))
                    obtain ⟨g8, c8, rfl, hc8, hm8, ht8⟩ := tx_cells O8.out (n := 2) rfl (by decide)
                    have d2 : w3.cell? ⟨g8, 0, none⟩ = some (.string tq0) := by rw [← htq0]; exact ht8 0 (by simp)
                    have D3 : Hid (w3.cell? ⟨g8, 1, none⟩ = some (.string tq1)) := hid (by rw [← htq1]; exact ht8 1 (by simp))
                    unfold maxLen at hm8
                    clear O8 ht8 hna hxy htq0 hq0 hnb hnt hxz htq1 hq1
                    go_wp2_with fail
                    refine (CN0.out _).mono ?_
                    rintro r w4 ⟨rfl, rfl⟩
                    go_wp2_with fail
                    refine (CN1.out _).mono ?_
                    rintro r w5 ⟨rfl, rfl⟩
                    obtain ⟨M, hM⟩ : ∃ M, w3.heap.size = M := ⟨_, rfl⟩
                    obtain ⟨W8, hW8⟩ : ∃ W, W = (w3.alloc (.cells (runL (0, 0, 0)).toArray 61)).setCells M 0 (runL ((a : Int), (b : Int), (b : Int))) := ⟨_, rfl⟩
                    have hz := Blk.new w3 61 (runL (0, 0, 0))
                    rw [hM] at hz
                    have KW8 : Hid (Kp Nb w3 W8) := hid (by rw [hW8]; exact Kp.setCells (fun h => absurd h (by omega)) _ 0 _ ((Kp.refl Nb w3).alloc _))
                    have TH := hid (run_there (q := ((a : Int), (b : Int), (b : Int))) hz)
                    have HZ8 : Hid (Blk W8 M 61 (runL ((a : Int), (b : Int), (b : Int)))) := hid (by rw [hW8]; exact row_set hz rfl)
                    have RZ := hid (range_ofR HZ8.out)
                    have HO8 := hid (ownsRow_kpD HO3.out KW8.out)
                    have HMS : Hid (w3.heap.size = M) := hid hM
                    clear hz
                    go_upto_region 16 with (first
                      | (refine wpList_store_mid (by rfl) 61 (.tmp 13) (.tmp 62) (by rfl) M 0 (runL ((a : Int), (b : Int), (b : Int))).toArray (by rfl) (by rfl) TH.out (run_infoA ((a : Int), (b : Int), (b : Int))) (run_one ((a : Int), (b : Int), (b : Int))) ?_))
                    rw [show (w3.alloc (.cells #[.int .i64 0, .int .i64 0, .int .i64 0] 61)).setCells M 0 (runL ((a : Int), (b : Int), (b : Int))) = W8 from hW8.symm]
                    clear hW8 hM TH
                    have d3 : W8.cell? ⟨g8, 1, none⟩ = some (.string tq1) := KW8.out.cell D3.out (fun h => h)
                    clear d0 d2
                    go_wp2_with fail
                    refine (CN2.out _).mono ?_
                    rintro r w6 ⟨rfl, rfl⟩
                    go_wp2
                    go_ret2
                    rw [HNO.out]
                    exact ⟨_, rfl, cl_nil _, HEND3.out.trans KW8.out (fun _ _ h => h)⟩
                  · have HNR := hid (HNX.out ((a : Int), (b : Int), (t : Int)) (by rw [HR.out, hna, Option.bind_some]; dsimp only [prsQ]; rw [hnb, hnt, Option.bind_some, Option.bind_some, if_neg htb]))
                    have CN0 : Hid (∀ wx, Calls Tryz.prog 57 #[.string tp0] wx fun e w' => e = .returned (.tuple #[.int .i64 (a : Int), .bool true]) ∧ wx = w') := hid (fun wx => by rw [← HTP.out]; exact rnumber_at p0 _ (numV_some hna) wx (by have := HM0.out; omega))
                    have CN1 : Hid (∀ wx, Calls Tryz.prog 57 #[.string tq0] wx fun e w' => e = .returned (.tuple #[.int .i64 (b : Int), .bool true]) ∧ wx = w') := hid (fun wx => by rw [← htq0]; exact rnumber_at q0 _ hxy wx (by omega))
                    have CN2 : Hid (∀ wx, Calls Tryz.prog 57 #[.string tq1] wx fun e w' => e = .returned (.tuple #[.int .i64 (t : Int), .bool true]) ∧ wx = w') := hid (fun wx => by rw [← htq1]; exact rnumber_at q1 _ hxz wx (by omega))
                    obtain ⟨g8, c8, rfl, hc8, hm8, ht8⟩ := tx_cells O8.out (n := 2) rfl (by decide)
                    have d2 : w3.cell? ⟨g8, 0, none⟩ = some (.string tq0) := by rw [← htq0]; exact ht8 0 (by simp)
                    have D3 : Hid (w3.cell? ⟨g8, 1, none⟩ = some (.string tq1)) := hid (by rw [← htq1]; exact ht8 1 (by simp))
                    unfold maxLen at hm8
                    clear O8 ht8 hna hxy htq0 hq0 hnb hnt hxz htq1 hq1
                    go_wp2_with fail
                    refine (CN0.out _).mono ?_
                    rintro r w4 ⟨rfl, rfl⟩
                    go_wp2_with fail
                    refine (CN1.out _).mono ?_
                    rintro r w5 ⟨rfl, rfl⟩
                    obtain ⟨M, hM⟩ : ∃ M, w3.heap.size = M := ⟨_, rfl⟩
                    obtain ⟨W8, hW8⟩ : ∃ W, W = (w3.alloc (.cells (runL (0, 0, 0)).toArray 61)).setCells M 0 (runL ((a : Int), (b : Int), (b : Int))) := ⟨_, rfl⟩
                    have hz := Blk.new w3 61 (runL (0, 0, 0))
                    rw [hM] at hz
                    have KW8 : Hid (Kp Nb w3 W8) := hid (by rw [hW8]; exact Kp.setCells (fun h => absurd h (by omega)) _ 0 _ ((Kp.refl Nb w3).alloc _))
                    have TH := hid (run_there (q := ((a : Int), (b : Int), (b : Int))) hz)
                    have HZ8 : Hid (Blk W8 M 61 (runL ((a : Int), (b : Int), (b : Int)))) := hid (by rw [hW8]; exact row_set hz rfl)
                    have RZ := hid (range_ofR HZ8.out)
                    have HO8 := hid (ownsRow_kpD HO3.out KW8.out)
                    have HMS : Hid (w3.heap.size = M) := hid hM
                    clear hz
                    go_upto_region 16 with (first
                      | (refine wpList_store_mid (by rfl) 61 (.tmp 13) (.tmp 62) (by rfl) M 0 (runL ((a : Int), (b : Int), (b : Int))).toArray (by rfl) (by rfl) TH.out (run_infoA ((a : Int), (b : Int), (b : Int))) (run_one ((a : Int), (b : Int), (b : Int))) ?_))
                    rw [show (w3.alloc (.cells #[.int .i64 0, .int .i64 0, .int .i64 0] 61)).setCells M 0 (runL ((a : Int), (b : Int), (b : Int))) = W8 from hW8.symm]
                    clear hW8 hM TH
                    have d3 : W8.cell? ⟨g8, 1, none⟩ = some (.string tq1) := KW8.out.cell D3.out (fun h => h)
                    have htb' : ¬ ((t : Int) = (b : Int)) := by omega
                    have htbe : ((t : Int) == (b : Int)) = false := by rw [beq_eq_false_iff_ne]; exact htb'
                    clear d0 d2
                    go_wp2_with fail
                    refine (CN2.out _).mono ?_
                    rintro r w6 ⟨rfl, rfl⟩
                    have fz := HZ8.out.frozen 2
                    have e2 : W8.cell? ⟨M, 2, none⟩ = some (.int .i64 (b : Int)) := HZ8.out.cell 2
                    have HZ9 : Hid (Blk (W8.setCell ⟨M, 2, none⟩ (.int .i64 (t : Int))) M 61 (runL ((a : Int), (b : Int), (t : Int)))) := hid (HZ8.out.set 2 _)
                    have KW9 : Hid (Kp Nb w3 (W8.setCell ⟨M, 2, none⟩ (.int .i64 (t : Int)))) := hid (KW8.out.setCell (p := ⟨M, 2, none⟩) (fun h => by have := HMS.out; dsimp only at h; omega) _)
                    clear KW8 HZ8 HO8 RZ
                    go_upto_region 21 with fail
                    obtain ⟨W8b, hW8b⟩ : ∃ W, W = W8.setCell ⟨M, 2, none⟩ (.int .i64 (t : Int)) := ⟨_, rfl⟩
                    rw [← hW8b] at HZ9 KW9 ⊢
                    clear fz e2 d3 hW8b
                    obtain ⟨W8, rfl⟩ : ∃ W, W = W8b := ⟨_, rfl⟩
                    have HZ8 := HZ9
                    have KW8 := KW9
                    have HO8 := hid (ownsRow_kpD HO3.out KW8.out)
                    have RZ := hid (range_ofR HZ8.out)
                    clear HZ9 KW9
                    have MK := hid (make_run1 W8 (a : Int) (b : Int) (t : Int))
                    obtain ⟨fs, hfs⟩ := under_run
                    obtain ⟨i0, zz, hi, hz0, hz1, hz2, hz3⟩ := run_info3
                    have B2 : Hid (k + [((a : Int), (b : Int), (t : Int))].length ≤ maxLen ∧ (k + [((a : Int), (b : Int), (t : Int))].length) * 24 ≤ 140737488355328 ∧ w1.heap.size ≤ (W8.alloc (.cells #[.int .i64 (a : Int), .int .i64 (b : Int), .int .i64 (t : Int)] 61 (0, 0))).heap.size) := hid (by
                      have h0 := HK3.out.size
                      have h1 := KW8.out.size
                      have h2 := ((Kp.refl Nb W8).alloc (.cells #[.int .i64 (a : Int), .int .i64 (b : Int), .int .i64 (t : Int)] 61 (0, 0))).size
                      have h3 := HLT.out
                      refine ⟨?_, ?_, by omega⟩ <;> rw [List.length_singleton]
                      · unfold maxLen; omega
                      · omega)
                    go_wp2_with (first
                      | (refine wpList_load_mid (by rfl) 61 (.tmp 13) (by rfl) M 0 (by rfl) (runL ((a : Int), (b : Int), (t : Int))) _ RZ.out hfs rfl (run_infoL ((a : Int), (b : Int), (t : Int))) ?_)
                      | (refine wpList_val (by rfl) _ _ (exec_buildSliceD rfl (qs := #[(0, .agg #[.int .i64 (a : Int), .int .i64 (b : Int), .int .i64 (t : Int)])]) (by simp [Act.eval, Act.put]) MK.out) ?_)
                      | (at_builtin; refine wpList_append_rows (f := runL) (z := (0, 0, 0)) (c := 3) rfl _ _ 23 rfl w1.heap.size 61 i0 zz 24 under_clock hi hz0 hz1 hz2 hz3 (by decide) _ _ _ rfl (ownsRow_kpD HO8.out ((Kp.refl Nb _).alloc _)) _ [((a : Int), (b : Int), (t : Int))] rfl (rows_oneR (Blk.new _ _ _)) (fun x hx => rfl) (fun x _ => run_one' x) B2.out.1 B2.out.2.1 B2.out.2.2 ?_))
                    intro v10 w10 hown hgrow
                    have HK10 : Hid (Kp Nb w1 w10) := hid (((HK3.out.trans KW8.out (fun _ _ h => h)).trans ((Kp.refl Nb W8).alloc (.cells #[.int .i64 (a : Int), .int .i64 (b : Int), .int .i64 (t : Int)] 61 (0, 0))) (fun _ _ h => h)).grown hgrow (fun g hg h => by have := (row_cells HO8.out hg).1; omega))
                    have HO10 : Hid (w10.ownsRow w1.heap.size 61 3 v10 (c ++ [((a : Int), (b : Int), (t : Int))]).length (flatR runL (c ++ [((a : Int), (b : Int), (t : Int))]))) := hid (by rw [List.length_append, HCL.out, flatR_append]; exact hown)
                    have HOK10 : Hid (∀ q ∈ c ++ [((a : Int), (b : Int), (t : Int))], RunOk q) := hid (fun q hq => by
                      rcases List.mem_append.1 hq with hq | hq
                      · exact HOK.out q hq
                      · rw [List.mem_singleton.1 hq]; unfold RunOk I64; dsimp only; omega)
                    obtain ⟨a10, c10, rfl⟩ := own_shape hown
                    clear hown hgrow
                    have hb9 := HLT.out
                    go_wp2
                    go_roundw
                    case rel => exact ⟨k + 1, c ++ [((a : Int), (b : Int), (t : Int))], by rw [HLE.out]; exact HLT.out, by go_num, HNR, HO10, HOK10, HK10⟩
                    case measure => have := HLT.out; simp [intOf]; omega
              · have HNO : Hid (PT = none) := hid (HBAD.out (by rw [HR.out, hna, Option.bind_some]; dsimp only [prsQ]))
                have CN0 : Hid (∀ wx, Calls Tryz.prog 57 #[.string tp0] wx fun e w' => e = .returned (.tuple #[.int .i64 (a : Int), .bool true]) ∧ wx = w') := hid (fun wx => by rw [← HTP.out]; exact rnumber_at p0 _ (numV_some hna) wx (by have := HM0.out; omega))
                have CN1 : Hid (∀ wx, Calls Tryz.prog 57 #[.string tq0] wx fun e w' => e = .returned (.tuple #[.int .i64 (b : Int), .bool true]) ∧ wx = w') := hid (fun wx => by rw [← htq0]; exact rnumber_at q0 _ hxy wx (by omega))
                obtain ⟨nq, hnq⟩ : ∃ n, (q0 :: q1 :: q2 :: R).length = n := ⟨_, rfl⟩
                have hnq1 : 2 < nq := by rw [← hnq]; simp
                obtain ⟨g8, c8, rfl, hc8, hm8, ht8⟩ := tx_cells O8.out hnq (by omega)
                have hnq2 : (nq : Int) > 2 := by omega
                have d2 : w3.cell? ⟨g8, 0, none⟩ = some (.string tq0) := by rw [← htq0]; exact ht8 0 (by simp)
                unfold maxLen at hm8
                clear O8 ht8 hnq hna hxy htq0 hq0 hnb
                go_wp2_with fail
                refine (CN0.out _).mono ?_
                rintro r w4 ⟨rfl, rfl⟩
                go_wp2_with fail
                refine (CN1.out _).mono ?_
                rintro r w5 ⟨rfl, rfl⟩
                go_wp2
                go_ret2
                rw [HNO.out]
                exact ⟨_, rfl, cl_nil _, HEND3.out⟩
        · have HNO : Hid (PT = none) := hid (HBAD.out (prsR_ne hp2))
          obtain ⟨np, hnp⟩ : ∃ n, (splL 58 wk).length = n := ⟨_, rfl⟩
          rw [hnp] at hp2
          unfold TxOwn at O7
          rw [hnp] at O7
          obtain ⟨a7, c7, rfl⟩ := own_shape O7.out
          have hp3 : ¬ ((np : Int) = 2) := by omega
          have hp4 : ((np : Int) == 2) = false := by rw [beq_eq_false_iff_ne]; exact hp3
          clear O7 hnp
          go_wp2
          go_ret2
          rw [HNO.out]
          exact ⟨_, rfl, cl_nil _, HEND.out⟩
      · obtain rfl : k = L := by omega
        have HPC : Hid (PT = if rightC c then some c else none) := hid (by
          have h := HP.out
          rw [List.take_of_length_le (Nat.le_of_eq HLE.out)] at h
          rw [HPT.out, h]
          rfl)
        have HM : Hid (ClSl wr (.slice a4 k c4) c) := hid (by
          have h := HO.out
          rw [← HCL.out] at h ⊢
          exact cl_owned h HOK.out)
        have CR := hid (rright_any _ c wr HM.out (by have := HCL.out; omega))
        obtain ⟨rb, hrb⟩ : ∃ b, rightC c = b := ⟨_, rfl⟩
        rw [hrb] at CR HPC
        have KE : Hid (Kp Nb w wr) := hid (K1.out.trans HK.out (fun _ _ h => h))
        clear hrb
        go_wp2_with fail
        refine CR.out.mono ?_
        rintro r w5 ⟨rfl, k5⟩
        have HM5 := hid (HM.out.kept k5)
        have KE5 := hid (KE.out.trans k5 (fun _ _ h => h))
        clear k5 CR
        cases rb with
        | true =>
          go_wp2
          go_ret2
          rw [HPC.out]
          exact ⟨_, rfl, HM5.out, KE5.out⟩
        | false =>
          go_wp2
          go_ret2
          rw [HPC.out]
          exact ⟨_, rfl, cl_nil _, KE5.out⟩

end Go.Proofs.YtbbfibgijackhaaGreatDoor

namespace Go.Proofs.YtbbfibgijackhaaGreatDoor
open Go.RowKit

/-- The library's two errors lie in memory. -/
def Ev (w : World) : Prop := (∃ t p, w.cell? ⟨1, 0, none⟩ = some (.iface t p)) ∧ (∃ t p, w.cell? ⟨2, 0, none⟩ = some (.iface t p))
theorem Ev.keptS {S : Nat → Prop} {w w' : World} (h : Ev w) (k : Kp S w w') (h1 : ¬ S 1) (h2 : ¬ S 2) : Ev w' := by
  obtain ⟨⟨t, p, h⟩, ⟨u, q, g⟩⟩ := h
  exact ⟨⟨t, p, k.cell h h1⟩, ⟨u, q, k.cell g h2⟩⟩
theorem Ev.kept {w w' : World} (h : Ev w) (k : Kp Nb w w') : Ev w' := h.keptS k (fun h => h) (fun h => h)
theorem atoi_i64 {s : List UInt8} {v : Int} (h : Lib.atoiAll s = .ok v) : I64 v ∧ s ≠ [] := by
  unfold Lib.atoiAll at h
  split at h
  · cases h
  · dsimp only at h
    refine ⟨?_, by simp⟩
    split at h
    · cases h
    · cases h
    · split at h
      · cases h
      · split at h
        · cases h
        · rename_i h1 h2
          injection h with h
          unfold I64
          split at h <;> omega
theorem atoi_sat (s : List UInt8) : I64 (Lib.atoiSat s) := by unfold Lib.atoiSat I64; split <;> omega
theorem atoi_weak (s : List UInt8) (w : World) (hv : Ev w) (hl : s.length ≤ 1000000) :
    Calls Tryz.prog 66 #[.string (bs s)] w fun e w' => ∃ n, I64 n ∧ Kp Nb w w' ∧ ((e = .returned (.tuple #[.int .i64 n, .nilIface]) ∧ s ≠ []) ∨ ∃ N, e = .returned (.tuple #[.int .i64 n, .iface 114 (.pointer (some ⟨N, 0, none⟩))])) := by
  obtain ⟨⟨t1, p1, h1⟩, ⟨t2, p2, h2⟩⟩ := hv
  have hz : (bs s).size ≤ 1000000 := by rw [bs_size]; exact hl
  cases hA : Lib.atoiAll s
  · rename_i v
    obtain ⟨i1, i2⟩ := atoi_i64 hA
    refine Calls.mono (Any.strconv_Atoi_ok Tryz.laysC172 (bs s) (by omega) v hA w) ?_
    rintro e w' ⟨rfl, hw⟩
    refine ⟨v, i1, ?_, .inl ⟨rfl, i2⟩⟩
    rcases hw with rfl | ⟨t, rfl⟩
    · exact Kp.refl _ _
    · exact kp_below (Go.Joins.below_bytesWorld _ w _ t (Nat.le_refl _))
  · refine Calls.mono (Any.strconv_Atoi_syntax Tryz.laysC172 (bs s) (by omega) hA (.iface t1 p1) w h1 (.inr ⟨_, _, rfl⟩)) ?_
    rintro e w' ⟨N, rfl, -, -, hb⟩
    exact ⟨0, by unfold I64; omega, kp_below hb, .inr ⟨N, rfl⟩⟩
  · refine Calls.mono (Any.strconv_Atoi_range Tryz.laysC172 (bs s) (by omega) hA (.iface t2 p2) w h2 (.inr ⟨_, _, rfl⟩)) ?_
    rintro e w' ⟨N, rfl, -, -, hb⟩
    exact ⟨_, atoi_sat s, kp_below hb, .inr ⟨N, rfl⟩⟩
theorem cut_len {s sep a b : List UInt8} {t : Bool} (h : Lib.cut s sep = (a, b, t)) : a.length ≤ s.length ∧ b.length ≤ s.length := by
  unfold Lib.cut at h
  split at h
  · simp only [Prod.mk.injEq] at h
    obtain ⟨rfl, rfl, -⟩ := h
    rw [List.length_take, List.length_drop]
    omega
  · simp only [Prod.mk.injEq] at h
    obtain ⟨rfl, rfl, -⟩ := h
    exact ⟨Nat.le_refl _, Nat.zero_le _⟩
def PwR (w : World) (N M : Nat) (s : List UInt8) (i : Value) (wr : World) : Prop := ∃ (k : Nat) (x0 x1 x2 : Int), k ≤ 3 ∧ i = .int .i64 k ∧ Hid (I64 x0 ∧ I64 x1 ∧ I64 x2) ∧ Hid (0 < k → s ≠ []) ∧ Hid (Blk wr M 92 [.int .i64 x0, .int .i64 x1, .int .i64 x2]) ∧ Hid (Blk wr N 61 (runL (0, 0, 0))) ∧ Hid (Kp Nb w wr)
def RunOut (w : World) (s : List UInt8) (e : Ending) (w' : World) : Prop := ∃ (q : RunQ) (b : Bool), RunOk q ∧ (b = true → s ≠ []) ∧ e = .returned (.tuple #[runV q, .bool b]) ∧ Kp Nb w w'
set_option maxRecDepth 100000 in
set_option maxHeartbeats 4000000 in
theorem prun_weak (s : List UInt8) (w : World) (hl : s.length ≤ 1000000) (hm : Mx w) (hv : Ev w) : Calls Tryz.prog 55 #[.string (bs s)] w (RunOut w s) := by
  obtain ⟨⟨la, ld, b1⟩, hc1⟩ : ∃ x, Lib.cut s [58] = x := ⟨_, rfl⟩
  obtain ⟨⟨lf, lt, b2⟩, hc2⟩ : ∃ x, Lib.cut ld [45] = x := ⟨_, rfl⟩
  have l1 := cut_len hc1
  have l2 := cut_len hc2
  have hne : la ≠ [] → s ≠ [] := fun h e => by
    subst e
    exact h (List.length_eq_zero_iff.1 (by have := l1.1; rw [List.length_nil] at this; omega))
  have HNE := hid hne
  have HMX := hid hm
  have HEV := hid hv
  have A1 : Hid (∀ wx, Ev wx → Calls Tryz.prog 66 #[.string (bs la)] wx fun e w' => ∃ n, I64 n ∧ Kp Nb wx w' ∧ ((e = .returned (.tuple #[.int .i64 n, .nilIface]) ∧ la ≠ []) ∨ ∃ N, e = .returned (.tuple #[.int .i64 n, .iface 114 (.pointer (some ⟨N, 0, none⟩))]))) := hid (fun wx h => atoi_weak la wx h (by omega))
  have A2 : Hid (∀ wx, Ev wx → Calls Tryz.prog 66 #[.string (bs lf)] wx fun e w' => ∃ n, I64 n ∧ Kp Nb wx w' ∧ ((e = .returned (.tuple #[.int .i64 n, .nilIface]) ∧ lf ≠ []) ∨ ∃ N, e = .returned (.tuple #[.int .i64 n, .iface 114 (.pointer (some ⟨N, 0, none⟩))]))) := hid (fun wx h => atoi_weak lf wx h (by omega))
  have A3 : Hid (∀ wx, Ev wx → Calls Tryz.prog 66 #[.string (bs lt)] wx fun e w' => ∃ n, I64 n ∧ Kp Nb wx w' ∧ ((e = .returned (.tuple #[.int .i64 n, .nilIface]) ∧ lt ≠ []) ∨ ∃ N, e = .returned (.tuple #[.int .i64 n, .iface 114 (.pointer (some ⟨N, 0, none⟩))]))) := hid (fun wx h => atoi_weak lt wx h (by omega))
  have C1 : Hid (∀ wx, Mx wx → Calls Tryz.prog 65 #[.string (bs s), .string ⟨#[58]⟩] wx fun e w' => e = .returned (.tuple #[.string (bs la), .string (bs ld), .bool b1]) ∧ Kp Nb wx w') := hid (fun wx h => cut_any _ [58] _ _ _ wx h (by omega) hc1)
  have C2 : Hid (∀ wx, Mx wx → Calls Tryz.prog 65 #[.string (bs ld), .string ⟨#[45]⟩] wx fun e w' => e = .returned (.tuple #[.string (bs lf), .string (bs lt), .bool b2]) ∧ Kp Nb wx w') := hid (fun wx h => cut_any _ [45] _ _ _ wx h (by omega) hc2)
  obtain ⟨S, hS⟩ : ∃ x, bs s = x := ⟨_, rfl⟩
  obtain ⟨sr, hsr⟩ : ∃ x, bs ld = x := ⟨_, rfl⟩
  obtain ⟨sn, hsn⟩ : ∃ x, bs la = x := ⟨_, rfl⟩
  obtain ⟨sf, hsf⟩ : ∃ x, bs lf = x := ⟨_, rfl⟩
  obtain ⟨st', hst⟩ : ∃ x, bs lt = x := ⟨_, rfl⟩
  rw [hS, hsn, hsr] at C1
  rw [hsr, hsf, hst] at C2
  rw [hsn] at A1
  rw [hsf] at A2
  rw [hst] at A3
  rw [hS]
  clear hm hv hS hsr hsn hsf hst hc1 hc2 l1 l2 hne hl
  obtain ⟨N, hN⟩ : ∃ N, w.heap.size = N := ⟨_, rfl⟩
  obtain ⟨W, hW⟩ : ∃ W, W = w.alloc (.cells #[.int .i64 0, .int .i64 0, .int .i64 0] 61) := ⟨_, rfl⟩
  have HB0 : Hid (Blk W N 61 (runL (0, 0, 0))) := hid (by rw [hW, ← hN]; exact Blk.new w _ _)
  have K0 : Hid (Kp Nb w W) := hid (by rw [hW]; exact (Kp.refl Nb w).alloc _)
  have HM0 := hid (HMX.out.kept K0.out)
  have HNW : Hid (w.heap.size = N) := hid hN
  go_enter Tryz.func55, Tryz.ntmps55
  go_upto_region 1 with fail
  rw [← hW]
  clear hW hN
  go_wp2_with fail
  refine (C1.out W HM0.out).mono ?_
  rintro r w1 ⟨rfl, k1⟩
  have B1 := hid (HB0.out.kept k1 (fun h => h))
  have K1 := hid (K0.out.trans k1 (fun _ _ h => h))
  have M1 := hid (HM0.out.kept k1)
  clear k1
  go_wp2_with fail
  refine (C2.out w1 M1.out).mono ?_
  rintro r w2 ⟨rfl, k2⟩
  have B2 := hid (B1.out.kept k2 (fun h => h))
  have K2 := hid (K1.out.trans k2 (fun _ _ h => h))
  clear k2
  obtain ⟨M, hM⟩ : ∃ M, w2.heap.size = M := ⟨_, rfl⟩
  obtain ⟨W3, hW3⟩ : ∃ W, W = w2.alloc (.cells #[.int .i64 0, .int .i64 0, .int .i64 0] 92) := ⟨_, rfl⟩
  have HZ3 : Hid (Blk W3 M 92 [.int .i64 0, .int .i64 0, .int .i64 0]) := hid (by rw [hW3, ← hM]; exact Blk.new w2 _ _)
  have HB3 : Hid (Blk W3 N 61 (runL (0, 0, 0))) := hid (by rw [hW3]; exact B2.out.alloc _)
  have K3 : Hid (Kp Nb w W3) := hid (by rw [hW3]; exact K2.out.alloc _)
  have HMN : Hid (N ≠ M ∧ w.heap.size ≤ N ∧ w.heap.size ≤ M) := hid (by have := B2.out.lt; have := K2.out.size; have := HNW.out; omega)
  have HZI : Hid (I64 0 ∧ I64 0 ∧ I64 0) := hid (by unfold I64; omega)
  cases b2 with
  | true =>
    go_upto_region 6 with fail
    rw [← hW3]
    clear hW3 hM
    go_wp2
    go_loopw [34] (PwR w N M s) (fun i _ => 3 - (intOf i).toNat)
    case atStart => exact ⟨0, 0, 0, 0, by omega, rfl, HZI, hid (fun h => absurd h (by omega)), HZ3, HB3, K3⟩
    case round =>
      obtain ⟨k, x0, x1, x2, hk, rfl, HI, HSN, HZ, HN, HK⟩ := hrel
      obtain rfl | rfl | rfl | rfl : k = 0 ∨ k = 1 ∨ k = 2 ∨ k = 3 := by omega
      · have ix := idx3_0 sn sf st'
        have e2 : 2 < 3 := by decide
        have cz : wr.cell? ⟨M, 0, none⟩ = some (.int .i64 x0) := HZ.out.cell 0
        go_wp2_with fail
        refine (A1.out wr (HEV.out.kept HK.out)).mono ?_
        rintro r w5 ⟨n, hn, k5, he⟩
        have HNN := hid hn
        have HZ5 := hid (HZ.out.kept k5 (fun h => h))
        have HN5 := hid (HN.out.kept k5 (fun h => h))
        have HK5 := hid (HK.out.trans k5 (fun _ _ h => h))
        clear k5 hn cz
        rcases he with ⟨rfl, hs⟩ | ⟨NE, rfl⟩
        · have HSX : Hid (0 < 0 + 1 → s ≠ []) := hid (fun _ => HNE.out hs)
          have fz := HZ5.out.frozen 0
          have ck : w5.cell? ⟨M, 0, none⟩ = some (.int .i64 x0) := HZ5.out.cell 0
          have HZ6 : Hid (Blk (w5.setCell ⟨M, 0, none⟩ (.int .i64 n)) M 92 [.int .i64 n, .int .i64 x1, .int .i64 x2]) := hid (HZ5.out.set 0 _)
          have HN6 : Hid (Blk (w5.setCell ⟨M, 0, none⟩ (.int .i64 n)) N 61 (runL (0, 0, 0))) := hid (HN5.out.kept (S := Jb M) ((Kp.refl (Jb M) w5).set 0 _) (fun h => HMN.out.1 h))
          have HK6 : Hid (Kp Nb w (w5.setCell ⟨M, 0, none⟩ (.int .i64 n))) := hid (HK5.out.setCell (p := ⟨M, 0, none⟩) (fun h => by have := HMN.out; dsimp only at h; omega) _)
          have HI6 : Hid (I64 n ∧ I64 x1 ∧ I64 x2) := hid ⟨HNN.out, HI.out.2.1, HI.out.2.2⟩
          go_wp2
          go_roundw
          case rel => exact ⟨0 + 1, n, x1, x2, by omega, by go_num, HI6, HSX, HZ6, HN6, HK6⟩
          case measure => simp [intOf]
        · have TH := hid (run_there (q := (0, 0, 0)) HN5.out)
          have HW := hid (row_set (vs := runL (0, 0, 0)) (cs := runL (0, 0, 0)) HN5.out rfl)
          have HKW : Hid (Kp Nb w (w5.setCells N 0 (runL (0, 0, 0)))) := hid (Kp.setCells (fun h => absurd h (by have := HMN.out; omega)) _ 0 _ HK5.out)
          obtain ⟨fs, hfs⟩ := under_run
          go_wp2_with (first
            | (refine wpList_store_mid (by rfl) 61 (.tmp 2) (.tmp 45) (by rfl) N 0 (runL (0, 0, 0)).toArray (by rfl) (by rfl) TH.out (run_infoA (0, 0, 0)) (run_one (0, 0, 0)) ?_))
          refine bodyPost_ret (results_ctD rfl _ N (by rfl) (runV (0, 0, 0)) (.bool false) (by rfl) (row_loadVar Tryz.underlying61 rfl (run_infoL (0, 0, 0)) HW.out 0 (fun j _ => by rw [Nat.zero_add]))) rfl ⟨(0, 0, 0), false, HZI.out, (fun h => by cases h), rfl, HKW.out⟩
      · have ix := idx3_1 sn sf st'
        have e2 : 2 < 3 := by decide
        have cz : wr.cell? ⟨M, 1, none⟩ = some (.int .i64 x1) := HZ.out.cell 1
        go_wp2_with fail
        refine (A2.out wr (HEV.out.kept HK.out)).mono ?_
        rintro r w5 ⟨n, hn, k5, he⟩
        have HNN := hid hn
        have HZ5 := hid (HZ.out.kept k5 (fun h => h))
        have HN5 := hid (HN.out.kept k5 (fun h => h))
        have HK5 := hid (HK.out.trans k5 (fun _ _ h => h))
        clear k5 hn cz
        rcases he with ⟨rfl, hs⟩ | ⟨NE, rfl⟩
        · have HSX : Hid (0 < 1 + 1 → s ≠ []) := hid (fun _ => HSN.out (by omega))
          have fz := HZ5.out.frozen 1
          have ck : w5.cell? ⟨M, 1, none⟩ = some (.int .i64 x1) := HZ5.out.cell 1
          have HZ6 : Hid (Blk (w5.setCell ⟨M, 1, none⟩ (.int .i64 n)) M 92 [.int .i64 x0, .int .i64 n, .int .i64 x2]) := hid (HZ5.out.set 1 _)
          have HN6 : Hid (Blk (w5.setCell ⟨M, 1, none⟩ (.int .i64 n)) N 61 (runL (0, 0, 0))) := hid (HN5.out.kept (S := Jb M) ((Kp.refl (Jb M) w5).set 1 _) (fun h => HMN.out.1 h))
          have HK6 : Hid (Kp Nb w (w5.setCell ⟨M, 1, none⟩ (.int .i64 n))) := hid (HK5.out.setCell (p := ⟨M, 1, none⟩) (fun h => by have := HMN.out; dsimp only at h; omega) _)
          have HI6 : Hid (I64 x0 ∧ I64 n ∧ I64 x2) := hid ⟨HI.out.1, HNN.out, HI.out.2.2⟩
          go_wp2
          go_roundw
          case rel => exact ⟨1 + 1, x0, n, x2, by omega, by go_num, HI6, HSX, HZ6, HN6, HK6⟩
          case measure => simp [intOf]
        · have TH := hid (run_there (q := (0, 0, 0)) HN5.out)
          have HW := hid (row_set (vs := runL (0, 0, 0)) (cs := runL (0, 0, 0)) HN5.out rfl)
          have HKW : Hid (Kp Nb w (w5.setCells N 0 (runL (0, 0, 0)))) := hid (Kp.setCells (fun h => absurd h (by have := HMN.out; omega)) _ 0 _ HK5.out)
          obtain ⟨fs, hfs⟩ := under_run
          go_wp2_with (first
            | (refine wpList_store_mid (by rfl) 61 (.tmp 2) (.tmp 45) (by rfl) N 0 (runL (0, 0, 0)).toArray (by rfl) (by rfl) TH.out (run_infoA (0, 0, 0)) (run_one (0, 0, 0)) ?_))
          refine bodyPost_ret (results_ctD rfl _ N (by rfl) (runV (0, 0, 0)) (.bool false) (by rfl) (row_loadVar Tryz.underlying61 rfl (run_infoL (0, 0, 0)) HW.out 0 (fun j _ => by rw [Nat.zero_add]))) rfl ⟨(0, 0, 0), false, HZI.out, (fun h => by cases h), rfl, HKW.out⟩
      · have ix := idx3_2 sn sf st'
        have e2 : 2 < 3 := by decide
        have cz : wr.cell? ⟨M, 2, none⟩ = some (.int .i64 x2) := HZ.out.cell 2
        go_wp2_with fail
        refine (A3.out wr (HEV.out.kept HK.out)).mono ?_
        rintro r w5 ⟨n, hn, k5, he⟩
        have HNN := hid hn
        have HZ5 := hid (HZ.out.kept k5 (fun h => h))
        have HN5 := hid (HN.out.kept k5 (fun h => h))
        have HK5 := hid (HK.out.trans k5 (fun _ _ h => h))
        clear k5 hn cz
        rcases he with ⟨rfl, hs⟩ | ⟨NE, rfl⟩
        · have HSX : Hid (0 < 2 + 1 → s ≠ []) := hid (fun _ => HSN.out (by omega))
          have fz := HZ5.out.frozen 2
          have ck : w5.cell? ⟨M, 2, none⟩ = some (.int .i64 x2) := HZ5.out.cell 2
          have HZ6 : Hid (Blk (w5.setCell ⟨M, 2, none⟩ (.int .i64 n)) M 92 [.int .i64 x0, .int .i64 x1, .int .i64 n]) := hid (HZ5.out.set 2 _)
          have HN6 : Hid (Blk (w5.setCell ⟨M, 2, none⟩ (.int .i64 n)) N 61 (runL (0, 0, 0))) := hid (HN5.out.kept (S := Jb M) ((Kp.refl (Jb M) w5).set 2 _) (fun h => HMN.out.1 h))
          have HK6 : Hid (Kp Nb w (w5.setCell ⟨M, 2, none⟩ (.int .i64 n))) := hid (HK5.out.setCell (p := ⟨M, 2, none⟩) (fun h => by have := HMN.out; dsimp only at h; omega) _)
          have HI6 : Hid (I64 x0 ∧ I64 x1 ∧ I64 n) := hid ⟨HI.out.1, HI.out.2.1, HNN.out⟩
          go_wp2
          go_roundw
          case rel => exact ⟨2 + 1, x0, x1, n, by omega, by go_num, HI6, HSX, HZ6, HN6, HK6⟩
          case measure => simp [intOf]
        · have TH := hid (run_there (q := (0, 0, 0)) HN5.out)
          have HW := hid (row_set (vs := runL (0, 0, 0)) (cs := runL (0, 0, 0)) HN5.out rfl)
          have HKW : Hid (Kp Nb w (w5.setCells N 0 (runL (0, 0, 0)))) := hid (Kp.setCells (fun h => absurd h (by have := HMN.out; omega)) _ 0 _ HK5.out)
          obtain ⟨fs, hfs⟩ := under_run
          go_wp2_with (first
            | (refine wpList_store_mid (by rfl) 61 (.tmp 2) (.tmp 45) (by rfl) N 0 (runL (0, 0, 0)).toArray (by rfl) (by rfl) TH.out (run_infoA (0, 0, 0)) (run_one (0, 0, 0)) ?_))
          refine bodyPost_ret (results_ctD rfl _ N (by rfl) (runV (0, 0, 0)) (.bool false) (by rfl) (row_loadVar Tryz.underlying61 rfl (run_infoL (0, 0, 0)) HW.out 0 (fun j _ => by rw [Nat.zero_add]))) rfl ⟨(0, 0, 0), false, HZI.out, (fun h => by cases h), rfl, HKW.out⟩
      · have c0 : wr.cell? ⟨M, 0, none⟩ = some (.int .i64 x0) := HZ.out.cell 0
        have c1 : wr.cell? ⟨M, 1, none⟩ = some (.int .i64 x1) := HZ.out.cell 1
        have c2 : wr.cell? ⟨M, 2, none⟩ = some (.int .i64 x2) := HZ.out.cell 2
        have TH := hid (run_there (q := (x0, x1, x2)) HN.out)
        have HW := hid (row_set (vs := runL (0, 0, 0)) (cs := runL (x0, x1, x2)) HN.out rfl)
        have HKW : Hid (Kp Nb w (wr.setCells N 0 (runL (x0, x1, x2)))) := hid (Kp.setCells (fun h => absurd h (by have := HMN.out; omega)) _ 0 _ HK.out)
        obtain ⟨fs, hfs⟩ := under_run
        go_wp2_with (first
          | (refine wpList_store_mid (by rfl) 61 (.tmp 2) (.tmp 56) (by rfl) N 0 (runL (x0, x1, x2)).toArray (by rfl) (by rfl) TH.out (run_infoA (x0, x1, x2)) (run_one (x0, x1, x2)) ?_))
        refine bodyPost_ret (results_ctD rfl _ N (by rfl) (runV (x0, x1, x2)) (.bool true) (by rfl) (row_loadVar Tryz.underlying61 rfl (run_infoL (x0, x1, x2)) HW.out 0 (fun j _ => by rw [Nat.zero_add]))) rfl ⟨(x0, x1, x2), true, HI.out, (fun _ => HSN.out (by omega)), rfl, HKW.out⟩
  | false =>
    go_upto_region 6 with fail
    rw [← hW3]
    clear hW3 hM
    go_wp2
    go_loopw [34] (PwR w N M s) (fun i _ => 3 - (intOf i).toNat)
    case atStart => exact ⟨0, 0, 0, 0, by omega, rfl, HZI, hid (fun h => absurd h (by omega)), HZ3, HB3, K3⟩
    case round =>
      obtain ⟨k, x0, x1, x2, hk, rfl, HI, HSN, HZ, HN, HK⟩ := hrel
      obtain rfl | rfl | rfl | rfl : k = 0 ∨ k = 1 ∨ k = 2 ∨ k = 3 := by omega
      · have ix := idx3_0 sn sf sf
        have e2 : 2 < 3 := by decide
        have cz : wr.cell? ⟨M, 0, none⟩ = some (.int .i64 x0) := HZ.out.cell 0
        go_wp2_with fail
        refine (A1.out wr (HEV.out.kept HK.out)).mono ?_
        rintro r w5 ⟨n, hn, k5, he⟩
        have HNN := hid hn
        have HZ5 := hid (HZ.out.kept k5 (fun h => h))
        have HN5 := hid (HN.out.kept k5 (fun h => h))
        have HK5 := hid (HK.out.trans k5 (fun _ _ h => h))
        clear k5 hn cz
        rcases he with ⟨rfl, hs⟩ | ⟨NE, rfl⟩
        · have HSX : Hid (0 < 0 + 1 → s ≠ []) := hid (fun _ => HNE.out hs)
          have fz := HZ5.out.frozen 0
          have ck : w5.cell? ⟨M, 0, none⟩ = some (.int .i64 x0) := HZ5.out.cell 0
          have HZ6 : Hid (Blk (w5.setCell ⟨M, 0, none⟩ (.int .i64 n)) M 92 [.int .i64 n, .int .i64 x1, .int .i64 x2]) := hid (HZ5.out.set 0 _)
          have HN6 : Hid (Blk (w5.setCell ⟨M, 0, none⟩ (.int .i64 n)) N 61 (runL (0, 0, 0))) := hid (HN5.out.kept (S := Jb M) ((Kp.refl (Jb M) w5).set 0 _) (fun h => HMN.out.1 h))
          have HK6 : Hid (Kp Nb w (w5.setCell ⟨M, 0, none⟩ (.int .i64 n))) := hid (HK5.out.setCell (p := ⟨M, 0, none⟩) (fun h => by have := HMN.out; dsimp only at h; omega) _)
          have HI6 : Hid (I64 n ∧ I64 x1 ∧ I64 x2) := hid ⟨HNN.out, HI.out.2.1, HI.out.2.2⟩
          go_wp2
          go_roundw
          case rel => exact ⟨0 + 1, n, x1, x2, by omega, by go_num, HI6, HSX, HZ6, HN6, HK6⟩
          case measure => simp [intOf]
        · have TH := hid (run_there (q := (0, 0, 0)) HN5.out)
          have HW := hid (row_set (vs := runL (0, 0, 0)) (cs := runL (0, 0, 0)) HN5.out rfl)
          have HKW : Hid (Kp Nb w (w5.setCells N 0 (runL (0, 0, 0)))) := hid (Kp.setCells (fun h => absurd h (by have := HMN.out; omega)) _ 0 _ HK5.out)
          obtain ⟨fs, hfs⟩ := under_run
          go_wp2_with (first
            | (refine wpList_store_mid (by rfl) 61 (.tmp 2) (.tmp 45) (by rfl) N 0 (runL (0, 0, 0)).toArray (by rfl) (by rfl) TH.out (run_infoA (0, 0, 0)) (run_one (0, 0, 0)) ?_))
          refine bodyPost_ret (results_ctD rfl _ N (by rfl) (runV (0, 0, 0)) (.bool false) (by rfl) (row_loadVar Tryz.underlying61 rfl (run_infoL (0, 0, 0)) HW.out 0 (fun j _ => by rw [Nat.zero_add]))) rfl ⟨(0, 0, 0), false, HZI.out, (fun h => by cases h), rfl, HKW.out⟩
      · have ix := idx3_1 sn sf sf
        have e2 : 2 < 3 := by decide
        have cz : wr.cell? ⟨M, 1, none⟩ = some (.int .i64 x1) := HZ.out.cell 1
        go_wp2_with fail
        refine (A2.out wr (HEV.out.kept HK.out)).mono ?_
        rintro r w5 ⟨n, hn, k5, he⟩
        have HNN := hid hn
        have HZ5 := hid (HZ.out.kept k5 (fun h => h))
        have HN5 := hid (HN.out.kept k5 (fun h => h))
        have HK5 := hid (HK.out.trans k5 (fun _ _ h => h))
        clear k5 hn cz
        rcases he with ⟨rfl, hs⟩ | ⟨NE, rfl⟩
        · have HSX : Hid (0 < 1 + 1 → s ≠ []) := hid (fun _ => HSN.out (by omega))
          have fz := HZ5.out.frozen 1
          have ck : w5.cell? ⟨M, 1, none⟩ = some (.int .i64 x1) := HZ5.out.cell 1
          have HZ6 : Hid (Blk (w5.setCell ⟨M, 1, none⟩ (.int .i64 n)) M 92 [.int .i64 x0, .int .i64 n, .int .i64 x2]) := hid (HZ5.out.set 1 _)
          have HN6 : Hid (Blk (w5.setCell ⟨M, 1, none⟩ (.int .i64 n)) N 61 (runL (0, 0, 0))) := hid (HN5.out.kept (S := Jb M) ((Kp.refl (Jb M) w5).set 1 _) (fun h => HMN.out.1 h))
          have HK6 : Hid (Kp Nb w (w5.setCell ⟨M, 1, none⟩ (.int .i64 n))) := hid (HK5.out.setCell (p := ⟨M, 1, none⟩) (fun h => by have := HMN.out; dsimp only at h; omega) _)
          have HI6 : Hid (I64 x0 ∧ I64 n ∧ I64 x2) := hid ⟨HI.out.1, HNN.out, HI.out.2.2⟩
          go_wp2
          go_roundw
          case rel => exact ⟨1 + 1, x0, n, x2, by omega, by go_num, HI6, HSX, HZ6, HN6, HK6⟩
          case measure => simp [intOf]
        · have TH := hid (run_there (q := (0, 0, 0)) HN5.out)
          have HW := hid (row_set (vs := runL (0, 0, 0)) (cs := runL (0, 0, 0)) HN5.out rfl)
          have HKW : Hid (Kp Nb w (w5.setCells N 0 (runL (0, 0, 0)))) := hid (Kp.setCells (fun h => absurd h (by have := HMN.out; omega)) _ 0 _ HK5.out)
          obtain ⟨fs, hfs⟩ := under_run
          go_wp2_with (first
            | (refine wpList_store_mid (by rfl) 61 (.tmp 2) (.tmp 45) (by rfl) N 0 (runL (0, 0, 0)).toArray (by rfl) (by rfl) TH.out (run_infoA (0, 0, 0)) (run_one (0, 0, 0)) ?_))
          refine bodyPost_ret (results_ctD rfl _ N (by rfl) (runV (0, 0, 0)) (.bool false) (by rfl) (row_loadVar Tryz.underlying61 rfl (run_infoL (0, 0, 0)) HW.out 0 (fun j _ => by rw [Nat.zero_add]))) rfl ⟨(0, 0, 0), false, HZI.out, (fun h => by cases h), rfl, HKW.out⟩
      · have ix := idx3_2 sn sf sf
        have e2 : 2 < 3 := by decide
        have cz : wr.cell? ⟨M, 2, none⟩ = some (.int .i64 x2) := HZ.out.cell 2
        go_wp2_with fail
        refine (A2.out wr (HEV.out.kept HK.out)).mono ?_
        rintro r w5 ⟨n, hn, k5, he⟩
        have HNN := hid hn
        have HZ5 := hid (HZ.out.kept k5 (fun h => h))
        have HN5 := hid (HN.out.kept k5 (fun h => h))
        have HK5 := hid (HK.out.trans k5 (fun _ _ h => h))
        clear k5 hn cz
        rcases he with ⟨rfl, hs⟩ | ⟨NE, rfl⟩
        · have HSX : Hid (0 < 2 + 1 → s ≠ []) := hid (fun _ => HSN.out (by omega))
          have fz := HZ5.out.frozen 2
          have ck : w5.cell? ⟨M, 2, none⟩ = some (.int .i64 x2) := HZ5.out.cell 2
          have HZ6 : Hid (Blk (w5.setCell ⟨M, 2, none⟩ (.int .i64 n)) M 92 [.int .i64 x0, .int .i64 x1, .int .i64 n]) := hid (HZ5.out.set 2 _)
          have HN6 : Hid (Blk (w5.setCell ⟨M, 2, none⟩ (.int .i64 n)) N 61 (runL (0, 0, 0))) := hid (HN5.out.kept (S := Jb M) ((Kp.refl (Jb M) w5).set 2 _) (fun h => HMN.out.1 h))
          have HK6 : Hid (Kp Nb w (w5.setCell ⟨M, 2, none⟩ (.int .i64 n))) := hid (HK5.out.setCell (p := ⟨M, 2, none⟩) (fun h => by have := HMN.out; dsimp only at h; omega) _)
          have HI6 : Hid (I64 x0 ∧ I64 x1 ∧ I64 n) := hid ⟨HI.out.1, HI.out.2.1, HNN.out⟩
          go_wp2
          go_roundw
          case rel => exact ⟨2 + 1, x0, x1, n, by omega, by go_num, HI6, HSX, HZ6, HN6, HK6⟩
          case measure => simp [intOf]
        · have TH := hid (run_there (q := (0, 0, 0)) HN5.out)
          have HW := hid (row_set (vs := runL (0, 0, 0)) (cs := runL (0, 0, 0)) HN5.out rfl)
          have HKW : Hid (Kp Nb w (w5.setCells N 0 (runL (0, 0, 0)))) := hid (Kp.setCells (fun h => absurd h (by have := HMN.out; omega)) _ 0 _ HK5.out)
          obtain ⟨fs, hfs⟩ := under_run
          go_wp2_with (first
            | (refine wpList_store_mid (by rfl) 61 (.tmp 2) (.tmp 45) (by rfl) N 0 (runL (0, 0, 0)).toArray (by rfl) (by rfl) TH.out (run_infoA (0, 0, 0)) (run_one (0, 0, 0)) ?_))
          refine bodyPost_ret (results_ctD rfl _ N (by rfl) (runV (0, 0, 0)) (.bool false) (by rfl) (row_loadVar Tryz.underlying61 rfl (run_infoL (0, 0, 0)) HW.out 0 (fun j _ => by rw [Nat.zero_add]))) rfl ⟨(0, 0, 0), false, HZI.out, (fun h => by cases h), rfl, HKW.out⟩
      · have c0 : wr.cell? ⟨M, 0, none⟩ = some (.int .i64 x0) := HZ.out.cell 0
        have c1 : wr.cell? ⟨M, 1, none⟩ = some (.int .i64 x1) := HZ.out.cell 1
        have c2 : wr.cell? ⟨M, 2, none⟩ = some (.int .i64 x2) := HZ.out.cell 2
        have TH := hid (run_there (q := (x0, x1, x2)) HN.out)
        have HW := hid (row_set (vs := runL (0, 0, 0)) (cs := runL (x0, x1, x2)) HN.out rfl)
        have HKW : Hid (Kp Nb w (wr.setCells N 0 (runL (x0, x1, x2)))) := hid (Kp.setCells (fun h => absurd h (by have := HMN.out; omega)) _ 0 _ HK.out)
        obtain ⟨fs, hfs⟩ := under_run
        go_wp2_with (first
          | (refine wpList_store_mid (by rfl) 61 (.tmp 2) (.tmp 56) (by rfl) N 0 (runL (x0, x1, x2)).toArray (by rfl) (by rfl) TH.out (run_infoA (x0, x1, x2)) (run_one (x0, x1, x2)) ?_))
        refine bodyPost_ret (results_ctD rfl _ N (by rfl) (runV (x0, x1, x2)) (.bool true) (by rfl) (row_loadVar Tryz.underlying61 rfl (run_infoL (x0, x1, x2)) HW.out 0 (fun j _ => by rw [Nat.zero_add]))) rfl ⟨(x0, x1, x2), true, HI.out, (fun _ => HSN.out (by omega)), rfl, HKW.out⟩
theorem spl_no (c : UInt8) : ∀ (s : List UInt8) (p : List (List UInt8) × List UInt8), (∀ y ∈ p.1 ++ [p.2], c ∉ y) → ∀ y ∈ (s.foldl (splF c) p).1 ++ [(s.foldl (splF c) p).2], c ∉ y
  | [], p, h => h
  | b :: s, p, h => by
    rw [List.foldl_cons]
    refine spl_no c s _ ?_
    unfold splF
    split
    · intro y hy
      dsimp only at hy
      rcases List.mem_append.1 hy with hy | hy
      · exact h y hy
      · rw [List.mem_singleton.1 hy]; simp
    · rename_i hb
      intro y hy
      dsimp only at hy
      rcases List.mem_append.1 hy with hy | hy
      · exact h y (List.mem_append.2 (.inl hy))
      · rw [List.mem_singleton.1 hy]
        intro hm
        rcases List.mem_append.1 hm with hm | hm
        · exact h p.2 (by simp) hm
        · exact hb (List.mem_singleton.1 hm).symm
theorem splL_no (c : UInt8) (s : List UInt8) : ∀ y ∈ splL c s, c ∉ y := spl_no c s ([], []) (by simp)
abbrev strV (l : List UInt8) : Value := .string (bs l)
theorem dsplit_any (s : List UInt8) (w : World) (hm : Mx w) (hl : s.length ≤ 1000000) :
    Calls Tryz.prog 54 #[.string (bs s), .string ⟨#[32]⟩] w fun e w' => e = .returned (.slice (some ⟨w.heap.size, 0, none⟩) (splL 32 s).length (splL 32 s).length) ∧ w' = w.alloc (.cells ((splL 32 s).map strV).toArray 9) := by
  obtain ⟨m, hm⟩ := hm
  obtain ⟨q0, R, hq⟩ := spl_some 32 s
  have hno := splL_no 32 s
  have hj := spl_join 32 s
  rw [hq] at hno hj ⊢
  obtain ⟨s1, s2⟩ := split_join 32 q0 R hno
  rw [hj] at s1 s2
  have h := Tryz.strings_Split (bs s) (bs [32]) m w (by rw [bs_size]; omega) hm (by decide)
  rw [s1, s2, List.map_map] at h
  rw [List.length_cons]
  exact h
def PdR (w : World) (N : Nat) (ws : List (List UInt8)) (s : List UInt8) (u i : Value) (wr : World) : Prop := ∃ (k : Nat) (c : List RunQ), k ≤ ws.length ∧ i = .int .i64 k ∧ Hid (c.length = k) ∧ Hid (0 < k → s ≠ []) ∧ Hid (wr.ownsRow (N + 1) 61 3 u c.length (flatR runL c)) ∧ Hid (∀ q ∈ c, RunOk q) ∧ Hid (Blk wr N 9 (ws.map strV)) ∧ Hid (Kp Nb w wr)
set_option maxRecDepth 100000 in
set_option maxHeartbeats 4000000 in
theorem dparse_none (s : List UInt8) (w : World) (hl : s.length ≤ 1000) (hno : parT s = none) (hm : Mx w) (hv : Ev w) (ht : Tab w) :
    Calls Tryz.prog 32 #[.string (bs s)] w fun e w' => e = .returned (.tuple #[.slice none 0 0, .bool false]) ∧ Kp Nb w w' := by
  have h0 : s ≠ [45] := fun e => by rw [e] at hno; cases hno
  have HNC : Hid (∀ c, s ≠ [] → textC c ≠ s) := hid (fun c hs e => by
    cases hr : rightC c with
    | true => have := (parT_iff s c).2 ⟨hr, e⟩; rw [hno] at this; cases this
    | false => unfold textC at e; rw [hr] at e; exact hs e.symm)
  obtain ⟨ws, hws⟩ : ∃ ws, splL 32 s = ws := ⟨_, rfl⟩
  have HMEM : Hid (∀ x ∈ ws, x.length ≤ 1000 ∧ (x ≠ [] → s ≠ [])) := hid (fun x hx => by
    have h := spl_mem (c := 32) (s := s) (x := x) (by rw [hws]; exact hx)
    refine ⟨by omega, fun hx0 e => hx0 (List.length_eq_zero_iff.1 ?_)⟩
    rw [e, List.length_nil] at h
    omega)
  have hwl : ws.length ≤ 1001 := by rw [← hws]; unfold splL; rw [List.length_append, List.length_singleton]; have := (splS_len 32 s).1; omega
  have hw0 : 0 < ws.length := by rw [← hws]; unfold splL; simp
  obtain ⟨L, hL⟩ : ∃ L, ws.length = L := ⟨_, rfl⟩
  have HLE := hid hL
  have HBG : Hid (0 < L ∧ L ≤ 1001) := hid (by omega)
  have HMX := hid hm
  have HEV := hid hv
  have HTB := hid ht
  obtain ⟨N, hN⟩ : ∃ N, w.heap.size = N := ⟨_, rfl⟩
  obtain ⟨W, hW⟩ : ∃ W, W = w.alloc (.cells (ws.map strV).toArray 9) := ⟨_, rfl⟩
  have HB0 : Hid (Blk W N 9 (ws.map strV)) := hid (by rw [hW, ← hN]; exact Blk.new w _ _)
  have K0 : Hid (Kp Nb w W) := hid (by rw [hW]; exact (Kp.refl Nb w).alloc _)
  have HNW : Hid (w.heap.size = N) := hid hN
  have CS : Hid (Calls Tryz.prog 54 #[.string (bs s), .string ⟨#[32]⟩] w fun e w' => e = .returned (.slice (some ⟨N, 0, none⟩) L L) ∧ w' = W) := hid (by
    have h := dsplit_any s w hm (by omega)
    rw [hws, hN, hL, ← hW] at h
    exact h)
  have hne : bs s ≠ ⟨#[45]⟩ := fun e => h0 (by have := congrArg (fun x : ByteArray => x.data.toList) e; exact this)
  have hq : ((bs s).toList == [45]) = false := by
    rw [bs_toList, beq_eq_false_iff_ne]
    exact h0
  obtain ⟨S, hS⟩ : ∃ S, bs s = S := ⟨_, rfl⟩
  have HTN : Hid (∀ c, s ≠ [] → bs (textC c) ≠ S ∧ ((bs (textC c)).toList == S.toList) = false) := hid (fun c hs => by
    have h := HNC.out c hs
    rw [← hS]
    refine ⟨fun e => h (by have := congrArg (fun x : ByteArray => x.data.toList) e; exact this), ?_⟩
    rw [bs_toList, bs_toList, beq_eq_false_iff_ne]
    exact h)
  rw [hS] at CS hne hq ⊢
  clear hm hv ht hno h0 hws hwl hw0 hL hN hW hS HNC hl
  go_enter Tryz.func32, Tryz.ntmps32
  go_wp2_with fail
  refine CS.out.mono ?_
  rintro r w1 ⟨rfl, rfl⟩
  clear hne hq
  go_wp2_with fail
  go_loopw [4, 14] (PdR w N ws s) (fun _ i _ => L - (intOf i).toNat)
  case atStart => exact ⟨0, [], Nat.zero_le _, rfl, hid rfl, hid (fun h => absurd h (by omega)), hid (World.ownsRow_nil _ _ _ _), hid (by simp), HB0, K0⟩
  case round =>
    obtain ⟨k, c, hk, rfl, HCL, HSN, HO, HOKS, HB, HK⟩ := hrel
    rw [HLE.out] at hk
    rw [HCL.out] at HO
    obtain ⟨a4, c4, rfl⟩ := own_shape HO.out
    by_cases hlt : k < L
    · have HLT := hid hlt
      have hkc : k < ws.length := by rw [HLE.out]; exact hlt
      obtain ⟨wk, hwk⟩ : ∃ x, ws[k]? = some x := ⟨_, List.getElem?_eq_getElem hkc⟩
      have hmk := HMEM.out wk (List.mem_of_getElem? hwk)
      have HWE := hid hmk.2
      have ck : wr.cell? ⟨N, k, none⟩ = some (.string (bs wk)) := by
        rw [HB.out.cell k, List.getElem?_map, hwk]
        rfl
      have CP := hid (prun_weak wk wr (by omega) (HMX.out.kept HK.out) (HEV.out.kept HK.out))
      obtain ⟨tv, htv⟩ : ∃ s, bs wk = s := ⟨_, rfl⟩
      rw [htv] at CP ck
      clear htv hwk hkc hmk
      go_wp2_with fail
      refine CP.out.mono ?_
      rintro r w6 ⟨⟨qn, qf, qt⟩, b, hqo, hqb, rfl, k6⟩
      have HQO := hid hqo
      have HQB := hid hqb
      have HO6 := hid (ownsRow_kpD HO.out k6)
      have HB6 := hid (HB.out.kept k6 (fun h => h))
      have HK6 := hid (HK.out.trans k6 (fun _ _ h => h))
      clear k6 ck hqo hqb CP
      obtain ⟨M, hM⟩ : ∃ M, w6.heap.size = M := ⟨_, rfl⟩
      obtain ⟨W8, hW8⟩ : ∃ W, W = (w6.alloc (.cells (runL (0, 0, 0)).toArray 61)).setCells M 0 (runL (qn, qf, qt)) := ⟨_, rfl⟩
      have hz := Blk.new w6 61 (runL (0, 0, 0))
      rw [hM] at hz
      have KW8 : Hid (Kp Nb w6 W8) := hid (by rw [hW8]; exact Kp.setCells (fun h => absurd h (by omega)) _ 0 _ ((Kp.refl Nb w6).alloc _))
      have TH := hid (run_there (q := (qn, qf, qt)) hz)
      have HZ8 : Hid (Blk W8 M 61 (runL (qn, qf, qt))) := hid (by rw [hW8]; exact row_set hz rfl)
      have RZ := hid (range_ofR HZ8.out)
      have HO8 := hid (ownsRow_kpD HO6.out KW8.out)
      have HB8 := hid (HB6.out.kept KW8.out (fun h => h))
      have HK8 := hid (HK6.out.trans KW8.out (fun _ _ h => h))
      have MK := hid (make_run1 W8 qn qf qt)
      obtain ⟨fs, hfs⟩ := under_run
      clear hz
      go_upto_region 8 with (first
        | (refine wpList_store_mid (by rfl) 61 (.tmp 7) (.tmp 21) (by rfl) M 0 (runL (qn, qf, qt)).toArray (by rfl) (by rfl) TH.out (run_infoA (qn, qf, qt)) (run_one (qn, qf, qt)) ?_))
      rw [show (w6.alloc (.cells #[.int .i64 0, .int .i64 0, .int .i64 0] 61)).setCells M 0 (runL (qn, qf, qt)) = W8 from hW8.symm]
      clear hW8 hM TH
      cases b with
      | false =>
        go_wp2
        go_ret2
        exact ⟨rfl, HK8.out⟩
      | true =>
        obtain ⟨i0, zz, hi, hz0, hz1, hz2, hz3⟩ := run_info3
        have B2 : Hid (k + [(qn, qf, qt)].length ≤ maxLen ∧ (k + [(qn, qf, qt)].length) * 24 ≤ 140737488355328 ∧ N + 1 ≤ (W8.alloc (.cells #[.int .i64 qn, .int .i64 qf, .int .i64 qt] 61 (0, 0))).heap.size) := hid (by
          have h1 := HB8.out.lt
          have h2 := ((Kp.refl Nb W8).alloc (.cells #[.int .i64 qn, .int .i64 qf, .int .i64 qt] 61 (0, 0))).size
          refine ⟨?_, ?_, by omega⟩ <;> rw [List.length_singleton]
          · unfold maxLen; have := HBG.out; omega
          · have := HBG.out; omega)
        go_wp2_with (first
          | (refine wpList_load_mid (by rfl) 61 (.tmp 7) (by rfl) M 0 (by rfl) (runL (qn, qf, qt)) _ RZ.out hfs rfl (run_infoL (qn, qf, qt)) ?_)
          | (refine wpList_val (by rfl) _ _ (exec_buildSliceD rfl (qs := #[(0, .agg #[.int .i64 qn, .int .i64 qf, .int .i64 qt])]) (by simp [Act.eval, Act.put]) MK.out) ?_)
          | (at_builtin; refine wpList_append_rows (f := runL) (z := (0, 0, 0)) (c := 3) rfl _ _ 23 rfl (N + 1) 61 i0 zz 24 under_clock hi hz0 hz1 hz2 hz3 (by decide) _ _ _ rfl (ownsRow_kpD HO8.out ((Kp.refl Nb _).alloc _)) _ [(qn, qf, qt)] rfl (rows_oneR (Blk.new _ _ _)) (fun x hx => rfl) (fun x _ => run_one' x) B2.out.1 B2.out.2.1 B2.out.2.2 ?_))
        intro v10 w10 hown hgrow
        have HK10 : Hid (Kp Nb w w10) := hid ((HK8.out.trans ((Kp.refl Nb W8).alloc (.cells #[.int .i64 qn, .int .i64 qf, .int .i64 qt] 61 (0, 0))) (fun _ _ h => h)).grown hgrow (fun g hg h => by have := (row_cells HO8.out hg).1; have := HNW.out; omega))
        have HB10 : Hid (Blk w10 N 9 (ws.map strV)) := hid ((hgrow.block N (HB8.out.alloc _).lt (fun h => by have := (row_cells HO8.out h.symm).1; omega)).trans (HB8.out.alloc _))
        have HO10 : Hid (w10.ownsRow (N + 1) 61 3 v10 (c ++ [(qn, qf, qt)]).length (flatR runL (c ++ [(qn, qf, qt)]))) := hid (by rw [List.length_append, HCL.out, flatR_append]; exact hown)
        have HOK10 : Hid (∀ q ∈ c ++ [(qn, qf, qt)], RunOk q) := hid (fun q hq => by
          rcases List.mem_append.1 hq with hq | hq
          · exact HOKS.out q hq
          · rw [List.mem_singleton.1 hq]; exact HQO.out)
        have HCL10 : Hid ((c ++ [(qn, qf, qt)]).length = k + 1) := hid (by rw [List.length_append, HCL.out]; rfl)
        have HSN10 : Hid (0 < k + 1 → s ≠ []) := hid (fun _ => HWE.out (HQB.out (by trivial)))
        obtain ⟨a10, c10, rfl⟩ := own_shape hown
        clear hown hgrow
        have hb9 := HBG.out
        go_wp2
        go_roundw
        case rel => exact ⟨k + 1, c ++ [(qn, qf, qt)], by rw [HLE.out]; exact HLT.out, by go_num, HCL10, HSN10, HO10, HOK10, HB10, HK10⟩
        case measure => have := HLT.out; simp [intOf]; omega
    · obtain rfl : k = L := by omega
      have HM : Hid (ClSl wr (.slice a4 k c4) c) := hid (by
        have h := HO.out
        rw [← HCL.out] at h ⊢
        exact cl_owned h HOKS.out)
      have C9 := hid (text_any (.slice a4 k c4) c wr HM.out (by have := HCL.out; have := HBG.out; omega) (HTB.out.kept HK.out))
      obtain ⟨tn1, tn2⟩ := HTN.out c (HSN.out HBG.out.1)
      obtain ⟨T, hT⟩ : ∃ T, bs (textC c) = T := ⟨_, rfl⟩
      rw [hT] at C9 tn1 tn2
      clear hT
      go_wp2_with fail
      refine C9.out.mono ?_
      rintro r w9 ⟨rfl, k9⟩
      have HK9 := hid (HK.out.trans k9 (fun _ _ h => h))
      clear k9
      go_wp2
      go_ret2
      exact ⟨rfl, HK9.out⟩
theorem dparse_any (s : List UInt8) (w : World) (hl : s.length ≤ 1000) (hm : Mx w) (hv : Ev w) (ht : Tab w) : Calls Tryz.prog 32 #[.string (bs s)] w (ParOut w (parT s)) := by
  cases hp : parT s with
  | none =>
    refine (dparse_none s w hl hp hm hv ht).mono ?_
    rintro e w' ⟨rfl, k⟩
    exact ⟨_, rfl, cl_nil _, k⟩
  | some c =>
    obtain ⟨hr, hs⟩ := (parT_iff s c).1 hp
    have h := parse_any c w hr (by have := parT_len hp; omega) hm ht
    rw [hs] at h
    refine h.mono ?_
    rintro e w' ⟨v', rfl, h1, -, h3⟩
    exact ⟨v', rfl, h1, h3⟩

end Go.Proofs.YtbbfibgijackhaaGreatDoor
