/-
  Of the texts DtAw, DtAx what is used. No condition but what each says.
-/
import Derived.Test.YtogoophofgkboaaGreatDoorQf
import Derived.Test.YtogoophofgkboaaGreatDoorQd
namespace Go.Proofs.YtogoophofgkboaaGreatDoor
section
open Go.RowKit
theorem st_one (m : Nat) : st [48 + (m : Int) % 10] = bs [UInt8.ofNat (48 + m % 10)] := by
  have e : (48 + (m : Int) % 10).toNat = 48 + m % 10 := by omega
  unfold st
  rw [List.map_cons, List.map_nil, e]
theorem bs_append (a b : List UInt8) : bs a ++ bs b = bs (a ++ b) := by
  apply ByteArray.ext
  simp [ByteArray.data_append]
theorem bs_size (a : List UInt8) : (bs a).size = a.length := by simp [ByteArray.size]
def RdgR (n : Nat) (w : World) (v s : Value) (wr : World) : Prop := ∃ (m : Nat) (S : List UInt8), v = .int .i64 (m : Int) ∧ s = .string (bs S) ∧ Hid (Lib.decDigits n = Lib.decDigits m ++ S) ∧ m ≤ n ∧ Hid (Kp Nb w wr)
set_option maxRecDepth 100000 in
set_option maxHeartbeats 1000000 in
theorem rdigits_any (n : Int) (w : World) (h0 : 0 ≤ n) (h1 : n < 9223372036854775808) :
    Calls Tryz.prog 103 #[.int .i64 n] w fun e w' => e = .returned (.string (bs (Lib.itoa n))) ∧ Kp Nb w w' := by
  obtain ⟨N, rfl⟩ : ∃ N : Nat, n = (N : Int) := ⟨n.toNat, by omega⟩
  have HL : Hid ((Lib.decDigits N).length ≤ 25) := hid (by
    have := itoa_len (N : Int) ⟨by omega, h1⟩
    rw [itoa_pos _ h0, Int.toNat_natCast] at this
    exact this)
  have HI : Hid (Lib.itoa (N : Int) = Lib.decDigits N) := hid (by rw [itoa_pos _ h0, Int.toNat_natCast])
  rw [HI.out]
  go_enter Tryz.func103, Tryz.ntmps103
  go_wp2
  go_loopw [0, 3] (RdgR N w) (fun v _ _ => (intOf v).toNat)
  case atStart => exact ⟨N, [], rfl, rfl, hid (by rw [List.append_nil]), Nat.le_refl _, hid (Kp.refl Nb w)⟩
  case round =>
    obtain ⟨m, S, rfl, rfl, HD, hm, HK⟩ := hrel
    have hc := conv_one wr (48 + (m : Int) % 10) (by omega) (by omega)
    have HS : Hid (S.length ≤ 25) := hid (by have h := HL.out; rw [HD.out, List.length_append] at h; omega)
    have HA : Hid (st [48 + (m : Int) % 10] ++ bs S = bs (UInt8.ofNat (48 + m % 10) :: S)) := hid (by rw [st_one, bs_append]; rfl)
    have hsz : (bs S).size ≤ 25 := by rw [bs_size]; exact HS.out
    have g2 : ¬ (9223372036854775807 < (st [48 + (m : Int) % 10]).size + (bs S).size) := by rw [st_size]; simp only [List.length_cons, List.length_nil]; omega
    obtain ⟨T, hT⟩ : ∃ T, bs S = T := ⟨_, rfl⟩
    by_cases hgt : 9 < m
    · have HD2 : Hid (Lib.decDigits N = Lib.decDigits (m / 10) ++ (UInt8.ofNat (48 + m % 10) :: S)) := hid (by
        rw [HD.out]
        conv => lhs; rw [Lib.decDigits]
        rw [dif_neg (by omega), List.append_assoc]
        rfl)
      have gx : (m : Int) > 9 := by omega
      have HR := hid (show RdgR N w (.int .i64 ((m : Int) / 10)) (.string (st [48 + (m : Int) % 10] ++ bs S)) (wr.alloc (.cells #[.int .u8 (48 + (m : Int) % 10)] 5)) from ⟨m / 10, _, by rw [Int.natCast_ediv]; rfl, by rw [HA.out], HD2, by omega, hid (HK.out.alloc _)⟩)
      have HM := hid (show (intOf (.int .i64 ((m : Int) / 10))).toNat < (intOf (.int .i64 (m : Int))).toNat by simp only [intOf]; omega)
      rw [hT] at HR HA hsz g2 ⊢
      clear hT HD2 HD HS
      go_wp2
      exact ⟨HR.out, HM.out⟩
    · have HE : Hid (UInt8.ofNat (48 + m % 10) :: S = Lib.decDigits N) := hid (by
        rw [HD.out]
        conv => rhs; rw [Lib.decDigits]
        rw [dif_pos (by omega), Nat.mod_eq_of_lt (by omega)]
        rfl)
      have gx : ¬ ((m : Int) > 9) := by omega
      have em : (m : Int) % 10 = (m : Int) := by omega
      rw [em] at hc g2 HA
      rw [HE.out] at HA
      rw [hT] at HA hsz g2 ⊢
      clear hT HE HD HS
      go_wp2
      go_ret
      exact ⟨by rw [← HA.out]; rfl, HK.out.alloc _⟩
def textD (a b : Int) : List UInt8 := Lib.itoa a ++ [58] ++ Lib.itoa b
set_option maxRecDepth 100000 in
set_option maxHeartbeats 2000000 in
theorem rdot_any (a b : Int) (w : World) (ha : 0 ≤ a) (ha1 : a < 9223372036854775808) (hb : 0 ≤ b) (hb1 : b < 9223372036854775808) :
    Calls Tryz.prog 79 #[.agg #[.int .i64 a, .int .i64 b]] w fun e w' => e = .returned (.string (bs (textD a b))) ∧ Kp Nb w w' := by
  obtain ⟨N, hN⟩ : ∃ N, w.heap.size = N := ⟨_, rfl⟩
  obtain ⟨W, hW⟩ : ∃ W, W = w.alloc (.cells #[.int .i64 a, .int .i64 b] 23) := ⟨_, rfl⟩
  have HB0 : Hid (Blk W N 23 [.int .i64 a, .int .i64 b]) := hid (by rw [hW, ← hN]; exact Blk.new w _ _)
  have K0 : Hid (Kp Nb w W) := hid (by rw [hW]; exact (Kp.refl Nb w).alloc _)
  obtain ⟨sn, hsn⟩ : ∃ t, bs (Lib.itoa a) = t := ⟨_, rfl⟩
  obtain ⟨sf, hsf⟩ : ∃ t, bs (Lib.itoa b) = t := ⟨_, rfl⟩
  obtain ⟨s1, hs1⟩ : ∃ t, bs (Lib.itoa a ++ [58]) = t := ⟨_, rfl⟩
  obtain ⟨s2, hs2⟩ : ∃ t, bs (textD a b) = t := ⟨_, rfl⟩
  have L1 := itoa_len a ⟨by omega, ha1⟩
  have L2 := itoa_len b ⟨by omega, hb1⟩
  have A1 : Hid (∀ w : World, (Op.stringOp .add sn ⟨#[58]⟩).run Tryz.prog w = .ok (.string s1) w) := hid (fun w => by rw [← hsn, ← hs1]; exact add_bs w _ [58] (by omega) (by decide))
  have A2 : Hid (∀ w : World, (Op.stringOp .add s1 sf).run Tryz.prog w = .ok (.string s2) w) := hid (fun w => by rw [← hs1, ← hsf, ← hs2]; exact add_bs w _ _ (by rw [List.length_append]; simp only [List.length_singleton]; omega) (by omega))
  have C1 : Hid (∀ wx, Calls Tryz.prog 103 #[.int .i64 a] wx fun e w' => e = .returned (.string sn) ∧ Kp Nb wx w') := hid (fun wx => by rw [← hsn]; exact rdigits_any a wx ha ha1)
  have C2 : Hid (∀ wx, Calls Tryz.prog 103 #[.int .i64 b] wx fun e w' => e = .returned (.string sf) ∧ Kp Nb wx w') := hid (fun wx => by rw [← hsf]; exact rdigits_any b wx hb hb1)
  rw [hs2]
  clear ha ha1 hb hb1 hsn hsf hs1 hs2 L1 L2
  go_enter Tryz.func79, Tryz.ntmps79
  go_upto_region 1 with fail
  rw [← hW]
  clear hW hN
  refine region_vals2 [none, none, some 8, some 0, some 1, some 2, some 3, some 4, some 5, some 6, some 7] [[(1, none)], [(3, some 0)], [(4, some 1)], [(5, some 2)], [(1, none)], [(7, some 4)], [(8, some 5)], [(6, some 3), (9, some 6)], [(10, some 7)]] [some 3, some 4, some 5, some 6, some 7, some 8, some 9, some 10, some 2] [.pointer (some ⟨N, 0, none⟩), .int .i64 a, .string sn, .string s1, .pointer (some ⟨N, 1, none⟩), .int .i64 b, .string sf, .string s2, .string s2] (fun w' => Hid (Kp Nb W w')) (by kernel_rfl) (by kernel_rfl) (by kernel_rfl) ?hS (VFrom.all (n := 9) (by kernel_rfl) ?hstep) ?hend
  case hstep =>
    refine VFrom.cons (VStep.val _ rfl _ rfl (.pointer (some ⟨N, 0, none⟩)) rfl trivial (fun ev wq hS he hr => ?_)) ?_
    · have r0 : ev (.tmp 1) = .pointer (some ⟨N, 0, none⟩) := hr (1, none) (by simp); have hk := he.1; clear hr he
      go_simp
    refine VFrom.cons (VStep.val _ rfl _ rfl (.int .i64 a) rfl trivial (fun ev wq hS he hr => ?_)) ?_
    · have r0 : ev (.tmp 3) = .pointer (some ⟨N, 0, none⟩) := hr (3, some 0) (by simp); have hk := he.1; clear hr he
      have c0 := (HB0.out.kept hS.out (fun h => h)).cell 0
      go_simp
    refine VFrom.cons (VStep.call _ rfl _ rfl (.string sn) rfl trivial 103 #[.int .i64 a] (fun ev wq hS he hr => ?_) (fun wq hS => ?_)) ?_
    · have r0 : ev (.tmp 4) = .int .i64 a := hr (4, some 1) (by simp); have hk := he.1; have hf := he.2; clear hr he
      go_simp
    · exact (C1.out wq).mono fun e w' ⟨h1, h2⟩ => ⟨h1, hS.out.trans h2 (fun _ _ h => h)⟩
    refine VFrom.cons (VStep.val _ rfl _ rfl (.string s1) rfl trivial (fun ev wq hS he hr => ?_)) ?_
    · have r0 : ev (.tmp 5) = .string sn := hr (5, some 2) (by simp); have hk := he.1; clear hr he
      have e1 := A1.out wq
      go_simp
    refine VFrom.cons (VStep.val _ rfl _ rfl (.pointer (some ⟨N, 1, none⟩)) rfl trivial (fun ev wq hS he hr => ?_)) ?_
    · have r0 : ev (.tmp 1) = .pointer (some ⟨N, 0, none⟩) := hr (1, none) (by simp); have hk := he.1; clear hr he
      go_simp
    refine VFrom.cons (VStep.val _ rfl _ rfl (.int .i64 b) rfl trivial (fun ev wq hS he hr => ?_)) ?_
    · have r0 : ev (.tmp 7) = .pointer (some ⟨N, 1, none⟩) := hr (7, some 4) (by simp); have hk := he.1; clear hr he
      have c0 := (HB0.out.kept hS.out (fun h => h)).cell 1
      go_simp
    refine VFrom.cons (VStep.call _ rfl _ rfl (.string sf) rfl trivial 103 #[.int .i64 b] (fun ev wq hS he hr => ?_) (fun wq hS => ?_)) ?_
    · have r0 : ev (.tmp 8) = .int .i64 b := hr (8, some 5) (by simp); have hk := he.1; have hf := he.2; clear hr he
      go_simp
    · exact (C2.out wq).mono fun e w' ⟨h1, h2⟩ => ⟨h1, hS.out.trans h2 (fun _ _ h => h)⟩
    refine VFrom.cons (VStep.val _ rfl _ rfl (.string s2) rfl trivial (fun ev wq hS he hr => ?_)) ?_
    · have r0 : ev (.tmp 6) = .string s1 := hr (6, some 3) (by simp); have r1 : ev (.tmp 9) = .string sf := hr (9, some 6) (by simp); have hk := he.1; clear hr he
      have e1 := A2.out wq
      go_simp
    refine VFrom.cons (VStep.val _ rfl _ rfl (.string s2) rfl trivial (fun ev wq hS he hr => ?_)) ?_
    · have r0 : ev (.tmp 10) = .string s2 := hr (10, some 7) (by simp); have hk := he.1; clear hr he
      go_simp
    exact VFrom.nil
  case hS => exact hid ((Kp.refl Nb W).drew)
  case hend =>
    intro w5 h5
    have K5 := hid (K0.out.trans h5.out (fun _ _ h => h))
    clear h5 K0 C1 C2 A1 A2 HB0
    simp only [putAll, List.zip_cons_cons, List.zip_nil_right, List.foldl_cons, List.foldl_nil, Act.put, List.setIfInBounds_toArray, List.set_cons_zero, List.set_cons_succ]
    go_wp2
    go_ret
    exact ⟨rfl, K5.out⟩
theorem join_snoc (sep : UInt8) (xs : List (List UInt8)) (y : List UInt8) (h : xs ≠ []) : Lib.join (xs ++ [y]) [sep] = Lib.join xs [sep] ++ [sep] ++ y := by
  obtain ⟨d, u, rfl⟩ := snoc_of xs h
  rw [jn_join, jn_join]
  unfold jnL
  simp
def preT (c : List RunQ) (k : Nat) : List UInt8 := Lib.join ((c.take k).map textR) [32]
theorem preT_step (c : List RunQ) (k : Nat) (hk : k < c.length) : preT c (k + 1) = (if 0 < k then preT c k ++ [32] else []) ++ textR (runAt c k) := by
  unfold preT
  rw [take_snocR c k hk, List.map_append, List.map_cons, List.map_nil]
  by_cases h : 0 < k
  · rw [if_pos h, join_snoc]
    intro e
    have := congrArg List.length e
    rw [List.length_map, List.length_take, List.length_nil] at this
    omega
  · have : k = 0 := by omega
    subst this
    rw [if_neg (by omega), List.take_zero, List.map_nil, List.nil_append, join_one, List.nil_append]
theorem preT_len (c : List RunQ) (k : Nat) (h : ∀ q ∈ c, RunOk q) : (preT c k).length ≤ k * 78 := by
  have := join_len [32] ((c.take k).map textR) (fun x hx => by
    obtain ⟨q, hq, rfl⟩ := List.mem_map.1 hx
    exact textR_len q (h q (List.mem_of_mem_take hq)))
  rw [List.length_map, List.length_take] at this
  simp only [List.length_singleton] at this
  have h2 : min k c.length * (1 + 77) ≤ k * (1 + 77) := Nat.mul_le_mul_right _ (Nat.min_le_left _ _)
  unfold preT
  omega
def RtxR (w : World) (c : List RunQ) (i s : Value) (wr : World) : Prop := ∃ k : Nat, k ≤ c.length ∧ i = .int .i64 k ∧ s = .string (bs (preT c k)) ∧ Hid (Kp Nb w wr)
set_option maxRecDepth 100000 in
set_option maxHeartbeats 8000000 in
theorem rtext_any (v : Value) (c : List RunQ) (w : World) (hs : ClSl w v c) (hl : c.length ≤ 1000) :
    Calls Tryz.prog 80 #[v] w fun e w' => e = .returned (.string (bs (textC c))) ∧ Kp Nb w w' := by
  obtain ⟨pv, dv, rfl⟩ := hs.shape
  obtain ⟨L, hL⟩ : ∃ L, c.length = L := ⟨_, rfl⟩
  have HLE := hid hL
  rw [hL] at hs hl ⊢
  have HS := hid hs
  have hLb := hl
  obtain ⟨R, hR⟩ : ∃ b, rightC c = b := ⟨_, rfl⟩
  have HRR := hid hR
  have CR : Hid (Calls Tryz.prog 38 #[.slice pv L dv] w fun e w' => e = .returned (.bool R) ∧ Kp Nb w w') := hid (by rw [← hR]; exact rright_any _ c w hs (by omega))
  have HT : Hid (textC c = if R then (if L = 0 then [45] else preT c L) else []) := hid (by
    unfold textC preT
    rw [hR, hL, ← hL, List.take_length])
  obtain ⟨Z, hZ⟩ : ∃ z, bs (textC c) = z := ⟨_, rfl⟩
  have HZE : Hid (Z = bs (if R then (if L = 0 then [45] else preT c L) else [])) := hid (by rw [← hZ, HT.out])
  rw [hZ]
  clear hs hL hl hR HT hZ
  go_enter Tryz.func80, Tryz.ntmps80
  go_wp2_with fail
  refine CR.out.mono ?_
  rintro r w1 ⟨rfl, k1⟩
  have K1 := hid k1
  clear k1 CR
  cases R with
  | false =>
    go_wp2
    go_ret
    exact ⟨by rw [HZE.out]; rfl, K1.out⟩
  | true =>
    by_cases h0 : L = 0
    · subst h0
      go_wp2
      go_ret
      exact ⟨by rw [HZE.out]; rfl, K1.out⟩
    · have HZF : Hid (Z = bs (preT c L)) := hid (by rw [HZE.out, if_pos rfl, if_neg h0])
      have HG : Hid (∀ q ∈ c, goodR q = true) := hid (right_good HRR.out)
      have HOKS : Hid (∀ q ∈ c, RunOk q) := hid (fun q hq => by have := goodR_of.1 (HG.out q hq); unfold RunOk I64; omega)
      have T0 : Hid (Kp Nb w w1) := K1
      have hgt : ¬ ((L : Int) = 0) := by omega
      clear HRR
      have hLe : ((L : Int) == 0) = false := by rw [beq_eq_false_iff_ne]; exact hgt
      go_wp2_with fail
      clear hLe
      go_loopw [14, 3] (RtxR w c) (fun i _ _ => L - (intOf i).toNat)
      case atStart => exact ⟨0, Nat.zero_le _, rfl, rfl, T0⟩
      case round =>
        clear T0 K1
        obtain ⟨k, hk, rfl, rfl, HK⟩ := hrel
        rw [HLE.out] at hk
        by_cases hlt : k < L
        · obtain ⟨blk, off, cap, e1, hc, hm, hcell⟩ := cl_shape (HS.out.kept HK.out) (by intro h; have := HLE.out; rw [h, List.length_nil] at this; omega)
          rw [HLE.out] at e1 hc hcell
          injection e1 with e1 _ e2
          subst e1 e2
          have HR := hid (hcell k hlt)
          obtain ⟨⟨qn, qf, qt⟩, hq⟩ : ∃ q, runAt c k = q := ⟨_, rfl⟩
          have HOK := HS.out.1 k
          rw [hq] at HR HOK
          have HQ := hid hq
          obtain ⟨M, hM⟩ : ∃ M, wr.heap.size = M := ⟨_, rfl⟩
          obtain ⟨W2, hW2⟩ : ∃ W, W = (wr.alloc (.cells (runL (0, 0, 0)).toArray 38)).setCells M 0 (runL (qn, qf, qt)) := ⟨_, rfl⟩
          have hz := Blk.new wr 38 (runL (0, 0, 0))
          rw [hM] at hz
          have KW : Hid (Kp Nb wr W2) := hid (by rw [hW2]; exact Kp.setCells (fun h => absurd h (by omega)) _ 0 _ ((Kp.refl Nb wr).alloc _))
          have HMW : Hid (wr.heap.size = M) := hid hM
          have TH := hid (run_there (q := (qn, qf, qt)) hz)
          have HZ : Hid (Blk W2 M 38 (runL (qn, qf, qt))) := hid (by rw [hW2]; exact row_set hz rfl)
          have HK2 := hid (HK.out.trans KW.out (fun _ _ h => h))
          unfold maxLen at hm
          obtain ⟨fs, hfs⟩ := under_run
          clear hz hcell hq
          go_upto_region 9 with (first
            | (refine wpList_load_mid (by rfl) 38 (.tmp 17) (by rfl) blk (off + k * 3) (by rfl) (runL (qn, qf, qt)) _ HR.out hfs rfl (run_infoL (qn, qf, qt)) ?_)
            | (refine wpList_store_mid (by rfl) 38 (.tmp 5) (.tmp 18) (by rfl) M 0 (runL (qn, qf, qt)).toArray (by rfl) (by rfl) TH.out (run_infoA (qn, qf, qt)) (run_one (qn, qf, qt)) ?_))
          rw [show (wr.alloc (.cells #[.int .i64 0, .int .i64 0, .int .i64 0] 38)).setCells M 0 (runL (qn, qf, qt)) = W2 from hW2.symm]
          clear hW2 TH hM
          have c0 : W2.cell? ⟨M, 0, none⟩ = some (.int .i64 qn) := HZ.out.cell 0
          have c1 : W2.cell? ⟨M, 1, none⟩ = some (.int .i64 qf) := HZ.out.cell 1
          have c2 : W2.cell? ⟨M, 2, none⟩ = some (.int .i64 qt) := HZ.out.cell 2
          have hkc : k < c.length := by rw [HLE.out]; exact hlt
          have hgq := HG.out _ (runAt_mem hkc)
          have hok := HOKS.out _ (runAt_mem hkc)
          have hst := preT_step c k hkc
          rw [HQ.out] at hgq hok hst
          have g := goodR_of.1 hgq
          dsimp only at g
          have hpl := preT_len c k HOKS.out
          have hln := itoa_len qn hok.1
          have hlf := itoa_len qf hok.2.1
          have hlt2 := itoa_len qt hok.2.2
          have HLT := hid hlt
          obtain ⟨P, hP⟩ : ∃ P, preT c k = P := ⟨_, rfl⟩
          rw [hP] at hst hpl ⊢
          obtain ⟨Q, hQ⟩ : ∃ Q, (if 0 < k then P ++ [32] else []) = Q := ⟨_, rfl⟩
          have HQ0 : Hid (¬ 0 < k → P = Q) := hid (fun h => by
            have : k = 0 := by omega
            subst this
            rw [← hQ, if_neg h, ← hP]
            rfl)
          have hql : Q.length ≤ P.length + 1 := by rw [← hQ]; split <;> simp
          obtain ⟨D, hD⟩ : ∃ D, textD qn qf = D := ⟨_, rfl⟩
          have hdl : D.length ≤ 60 := by rw [← hD]; unfold textD; simp only [List.length_append, List.length_singleton]; omega
          obtain ⟨E, hE⟩ : ∃ E, Lib.itoa qt = E := ⟨_, rfl⟩
          rw [hE] at hlt2
          have HN1 : Hid (qf < qt → preT c (k + 1) = Q ++ D ++ ([45] ++ E)) := hid (fun h => by rw [hst, hQ, ← hD, ← hE]; unfold textR textD; dsimp only; rw [if_pos h]; simp only [List.append_assoc])
          have HN2 : Hid (¬ qf < qt → preT c (k + 1) = Q ++ D) := hid (fun h => by rw [hst, hQ, ← hD]; unfold textR textD; dsimp only; rw [if_neg h]; simp only [List.append_assoc, List.append_nil])
          obtain ⟨sP, hsP⟩ : ∃ t, bs P = t := ⟨_, rfl⟩
          obtain ⟨sQ, hsQ⟩ : ∃ t, bs Q = t := ⟨_, rfl⟩
          obtain ⟨sD, hsD⟩ : ∃ t, bs D = t := ⟨_, rfl⟩
          obtain ⟨sE, hsE⟩ : ∃ t, bs E = t := ⟨_, rfl⟩
          obtain ⟨sQD, hsQD⟩ : ∃ t, bs (Q ++ D) = t := ⟨_, rfl⟩
          obtain ⟨s5, hs5⟩ : ∃ t, bs ([45] ++ E) = t := ⟨_, rfl⟩
          obtain ⟨s6, hs6⟩ : ∃ t, bs (Q ++ D ++ ([45] ++ E)) = t := ⟨_, rfl⟩
          have A0 : Hid (0 < k → ∀ w : World, (Op.stringOp .add sP ⟨#[32]⟩).run Tryz.prog w = .ok (.string sQ) w) := hid (fun h w => by rw [← hsP, ← hsQ, ← hQ, if_pos h]; exact add_bs w _ [32] (by omega) (by decide))
          have A1 : ∀ w : World, (Op.stringOp .add sQ sD).run Tryz.prog w = .ok (.string sQD) w := fun w => by rw [← hsQ, ← hsD, ← hsQD]; exact add_bs w _ _ (by omega) (by omega)
          have A2 : ∀ w : World, (Op.stringOp .add ⟨#[45]⟩ sE).run Tryz.prog w = .ok (.string s5) w := fun w => by rw [← hsE, ← hs5]; exact add_bs w [45] _ (by decide) (by omega)
          have A3 : ∀ w : World, (Op.stringOp .add sQD s5).run Tryz.prog w = .ok (.string s6) w := fun w => by rw [← hsQD, ← hs5, ← hs6]; exact add_bs w _ _ (by rw [List.length_append]; omega) (by simp only [List.length_append, List.length_singleton]; omega)
          have CD : Hid (∀ wx, Calls Tryz.prog 79 #[.agg #[.int .i64 qn, .int .i64 qf]] wx fun e w' => e = .returned (.string sD) ∧ Kp Nb wx w') := hid (fun wx => by rw [← hsD, ← hD]; exact rdot_any qn qf wx (by omega) (by omega) (by omega) (by omega))
          have CE : Hid (∀ wx, Calls Tryz.prog 103 #[.int .i64 qt] wx fun e w' => e = .returned (.string sE) ∧ Kp Nb wx w') := hid (fun wx => by rw [← hsE, ← hE]; exact rdigits_any qt wx (by omega) (by omega))
          have HR1 : Hid (qf < qt → bs (preT c (k + 1)) = s6) := hid (fun h => by rw [HN1.out h, hs6])
          have HR2 : Hid (¬ qf < qt → bs (preT c (k + 1)) = sQD) := hid (fun h => by rw [HN2.out h, hsQD])
          have HPQ : Hid (¬ 0 < k → sP = sQ) := hid (fun h => by rw [← hsP, ← hsQ, HQ0.out h])
          rw [hsP]
          clear hP hQ hD hE hsP hsQ hsD hsE hsQD hs5 hs6 hst hgq hok g hpl hln hlf hlt2 hql hdl HN1 HN2 HQ0 hkc HR KW HK
          by_cases hk0 : 0 < k
          · have hA0 := A0.out hk0
            have hk1 : (k : Int) > 0 := by omega
            go_wp2_with fail
            refine (CD.out W2).mono ?_
            rintro r w4 ⟨rfl, k4⟩
            clear hA0
            have HZ4 := hid (HZ.out.kept k4 (fun h => h))
            have HK4 := hid (HK2.out.trans k4 (fun _ _ h => h))
            have d1 : w4.cell? ⟨M, 1, none⟩ = some (.int .i64 qf) := HZ4.out.cell 1
            have d2 : w4.cell? ⟨M, 2, none⟩ = some (.int .i64 qt) := HZ4.out.cell 2
            clear k4 c0 c1 c2
            by_cases hft : qf < qt
            · have h6 := hid (HR1.out hft)
              have hft' : qt > qf := hft
              go_wp2_with fail
              refine (CE.out w4).mono ?_
              rintro r w5 ⟨rfl, k5⟩
              have HK5 := hid (HK4.out.trans k5 (fun _ _ h => h))
              clear k5 d1 d2
              go_wp2
              go_roundw
              case rel => exact ⟨k + 1, by rw [HLE.out]; have := HLT.out; omega, by go_num, by rw [h6.out], HK5⟩
              case measure => have := HLT.out; simp [intOf]; omega
            · have h6 := hid (HR2.out (by omega))
              have hft' : ¬ qt > qf := by omega
              go_wp2
              go_roundw
              case rel => exact ⟨k + 1, by rw [HLE.out]; have := HLT.out; omega, by go_num, by rw [h6.out], HK4⟩
              case measure => have := HLT.out; simp [intOf]; omega
          · have hA0 := HPQ.out hk0
            have hk1 : ¬ ((k : Int) > 0) := by omega
            subst hA0
            go_wp2_with fail
            refine (CD.out W2).mono ?_
            rintro r w4 ⟨rfl, k4⟩
            have HZ4 := hid (HZ.out.kept k4 (fun h => h))
            have HK4 := hid (HK2.out.trans k4 (fun _ _ h => h))
            have d1 : w4.cell? ⟨M, 1, none⟩ = some (.int .i64 qf) := HZ4.out.cell 1
            have d2 : w4.cell? ⟨M, 2, none⟩ = some (.int .i64 qt) := HZ4.out.cell 2
            clear k4 c0 c1 c2
            by_cases hft : qf < qt
            · have h6 := hid (HR1.out hft)
              have hft' : qt > qf := hft
              go_wp2_with fail
              refine (CE.out w4).mono ?_
              rintro r w5 ⟨rfl, k5⟩
              have HK5 := hid (HK4.out.trans k5 (fun _ _ h => h))
              clear k5 d1 d2
              go_wp2
              go_roundw
              case rel => exact ⟨k + 1, by rw [HLE.out]; have := HLT.out; omega, by go_num, by rw [h6.out], HK5⟩
              case measure => have := HLT.out; simp [intOf]; omega
            · have h6 := hid (HR2.out (by omega))
              have hft' : ¬ qt > qf := by omega
              go_wp2
              go_roundw
              case rel => exact ⟨k + 1, by rw [HLE.out]; have := HLT.out; omega, by go_num, by rw [h6.out], HK4⟩
              case measure => have := HLT.out; simp [intOf]; omega
        · obtain rfl : k = L := by omega
          have hz := HZF.out
          go_wp2
          go_ret
          exact ⟨by rw [hz]; rfl, HK.out⟩
end
section
open Go.RowKit
theorem st_bs (s : List UInt8) : st (s.map fun b => (b.toNat : Int)) = bs s := by
  unfold st bs
  rw [List.map_map]
  congr 2
  conv => rhs; rw [← List.map_id s]
  apply List.map_congr_left
  intro b _
  simp
theorem idx_bs (s : List UInt8) (w : World) (i : Nat) (hi : i < s.length) : (Instr.index 9 (.string (bs s)) (.int .i64 i)).run Tryz.prog w = .ok (.int .u8 ((s[i]?.getD 0).toNat : Int)) w := by
  have h := idx_any (s.map fun b => (b.toNat : Int)) w (fun j => by
    rw [List.getElem?_map]
    cases s[j]? with
    | none => decide
    | some b => have := b.toNat_lt; simp only [Option.map_some, Option.getD_some]; omega) i (by rw [List.length_map]; exact hi)
  rw [st_bs] at h
  rw [h, List.getElem?_map, List.getElem?_eq_getElem hi]
  rfl
theorem sl_bs (s : List UInt8) (w : World) (i : Nat) (hi : i < s.length) : (Instr.slice 9 (.string (bs s)) (some (.int .i64 (i : Int))) (some (.int .i64 ((i : Int) + 1))) none).run Tryz.prog w = .ok (.string (bs [s[i]?.getD 0])) w := by
  rw [run_slice_string (P := Tryz.prog) w 9 (bs s) .i64 .i64 i ((i : Int) + 1) Tryz.underlying9 (by omega) (by omega) (by rw [bs_size]; omega)]
  congr 2
  apply ByteArray.ext
  rw [ByteArray.data_extract]
  apply Array.ext'
  simp only [Array.toList_extract, List.extract_eq_take_drop, Int.toNat_natCast, show ((i : Int) + 1).toNat = i + 1 by omega, show i + 1 - i = 1 by omega]
  rw [List.drop_eq_getElem_cons hi, List.getElem?_eq_getElem hi]
  rfl
abbrev txL (l : List UInt8) : List Value := [.string (bs l)]
theorem flat_tx (xs : List (List UInt8)) : flatR txL xs = xs.map fun l => Value.string (bs l) := by
  unfold flatR
  induction xs with
  | nil => rfl
  | cons x xs ih => rw [List.flatMap_cons, ih]; rfl
theorem str_info : ∃ i z, Tryz.prog.info? 9 = some i ∧ i.zero = some z ∧ i.size = 1 ∧ i.bytes = 16 ∧ z.cells.size = 1 := by
  obtain ⟨i, z, h1, h2, h3, h4, h5⟩ := str_zc
  exact ⟨i, z, h1, h2, h3, h4, by rw [h5]; rfl⟩
theorem make_str1 (w : World) : (Instr.buildSlice 103 1 #[(0, .string ⟨#[]⟩)]).run Tryz.prog w = .ok (.slice (some ⟨w.heap.size, 0, none⟩) 1 1) (w.alloc (.cells #[.string ⟨#[]⟩] 9 (0, 0))) := by kernel_rfl
theorem rows_one_tx {W : World} {B : Nat} {x : List UInt8} (h : Blk W B 9 (txL x)) : RowsSl txL [] 1 W (.slice (some ⟨B, 0, none⟩) 1 1) [x] := by
  refine .inr ⟨B, 0, 1, rfl, Nat.le_refl _, by unfold maxLen; omega, fun i hi => ?_⟩
  have e : i = 0 := by simp at hi; omega
  subst e
  exact h.range 0 _ (fun j _ => by rw [Nat.zero_add]; rfl)
theorem store_str {w : World} {B i : Nat} {vs : List Value} {t : Nat} (h : Blk w B t vs) (x y : ByteArray) (hv : vs[i]? = some (.string y)) : (Instr.storeAt 9 (.pointer (some ⟨B, i, none⟩)) (.string x)).run Tryz.prog w = .ok () (w.setCell ⟨B, i, none⟩ (.string x)) := by
  have hc := (h.cell i).trans hv
  have hf := h.frozen i
  go_simp
/-- What Split leaves: an own row of the pieces. -/
def TxOwn (B : Nat) (w : World) (v : Value) (xs : List (List UInt8)) : Prop := w.ownsRow B 9 1 v xs.length (flatR txL xs)
def RspR (w : World) (c : UInt8) (s : List UInt8) (i u : Value) (wr : World) : Prop := ∃ k : Nat, k ≤ s.length ∧ i = .int .i64 k ∧ Hid (TxOwn w.heap.size wr u (splL c (s.take k))) ∧ Hid (Kp Nb w wr)
theorem take_at {s : List UInt8} {k : Nat} (hk : k < s.length) : s.take (k + 1) = s.take k ++ [s[k]?.getD 0] := by
  rw [List.take_succ_eq_append_getElem hk, List.getElem?_eq_getElem hk]
  rfl
set_option maxRecDepth 100000 in
set_option maxHeartbeats 8000000 in
theorem rsplit_any (s : List UInt8) (c : UInt8) (w : World) (hl : s.length ≤ 1000000) :
    Calls Tryz.prog 75 #[.string (bs s), .int .u8 (c.toNat : Int)] w fun e w' => ∃ v', e = .returned v' ∧ TxOwn w.heap.size w' v' (splL c s) ∧ Kp Nb w w' := by
  obtain ⟨L, hL⟩ : ∃ L, s.length = L := ⟨_, rfl⟩
  have HLE := hid hL
  have HLB : Hid (L ≤ 1000000) := hid (by omega)
  have HSZ := bs_size s
  rw [hL] at HSZ
  have HIX : Hid (∀ i, i < L → ∀ w : World, (Instr.index 9 (.string (bs s)) (.int .i64 i)).run Tryz.prog w = .ok (.int .u8 ((s[i]?.getD 0).toNat : Int)) w) := hid (fun i hi w => idx_bs s w i (by omega))
  have HSL : Hid (∀ i, i < L → ∀ w : World, (Instr.slice 9 (.string (bs s)) (some (.int .i64 (i : Int))) (some (.int .i64 ((i : Int) + 1))) none).run Tryz.prog w = .ok (.string (bs [s[i]?.getD 0])) w) := hid (fun i hi w => sl_bs s w i (by omega))
  obtain ⟨S, hS⟩ : ∃ S, bs s = S := ⟨_, rfl⟩
  rw [hS] at HSZ HIX HSL ⊢
  have HLB2 : L ≤ 1000000 := HLB.out
  obtain ⟨cv, hcv⟩ : ∃ z, (c.toNat : Int) = z := ⟨_, rfl⟩
  have HCV := hid hcv
  rw [hcv]
  obtain ⟨i0, zz, hi, hz0, hz1, hz2, hz3⟩ := str_info
  have MK := hid (fun w => make_str1 w)
  clear hS hcv hL hl
  go_enter Tryz.func75, Tryz.ntmps75
  obtain ⟨W, hW⟩ : ∃ W, W = w.alloc (.cells #[.string ⟨#[]⟩] 9 (0, 0)) := ⟨_, rfl⟩
  have HB : Hid (Blk W w.heap.size 9 [.string ⟨#[]⟩]) := hid (by rw [hW]; exact Blk.new w _ _)
  have HO : Hid (TxOwn w.heap.size W (.slice (some ⟨w.heap.size, 0, none⟩) 1 1) (splL c (s.take 0))) := hid (by
    unfold TxOwn
    exact own_put rfl (Nat.le_refl _) HB.out (Nat.le_refl _) (by unfold maxLen; omega) rfl rfl)
  have K0 : Hid (Kp Nb w W) := hid (by rw [hW]; exact (Kp.refl Nb w).alloc _)
  clear HB
  go_wp2_with (first
    | (refine wpList_val (by rfl) _ _ (exec_buildSliceD rfl (qs := #[(0, .string ⟨#[]⟩)]) (by simp [Act.eval]) (MK.out _)) ?_))
  go_loopw [6, 5] (RspR w c s) (fun i _ _ => L - (intOf i).toNat)
  case atStart => rw [← hW]; exact ⟨0, Nat.zero_le _, rfl, HO, K0⟩
  case round =>
    clear HO K0 hW
    obtain ⟨k, hk, rfl, HO, HK⟩ := hrel
    rw [HLE.out] at hk
    obtain ⟨a4, cap, rfl⟩ := own_shape HO.out
    by_cases hlt : k < L
    · have HLT := hid hlt
      have HKB : Hid ((k : Int) < 1000000) := hid (by have := HLB.out; omega)
      have ix := HIX.out k hlt
      have SLI := hid (HSL.out k hlt)
      have htk := take_at (s := s) (k := k) (by rw [HLE.out]; exact hlt)
      have hspl := splS_snoc c (s[k]?.getD 0) (s.take k)
      rw [← htk] at hspl
      have hln := (splS_len c (s.take k)).1
      rw [List.length_take] at hln
      obtain ⟨b, hb⟩ : ∃ b, s[k]?.getD 0 = b := ⟨_, rfl⟩
      rw [hb] at ix SLI hspl
      obtain ⟨⟨d, u⟩, hdu⟩ : ∃ p, splS c (s.take k) = p := ⟨_, rfl⟩
      have hcur : splL c (s.take k) = d ++ [u] := by unfold splL; rw [hdu]
      rw [hdu] at hspl hln
      dsimp only at hln
      rw [hcur] at HO ⊢
      obtain ⟨n, hn⟩ : ∃ n, d.length = n := ⟨_, rfl⟩
      have HN := hid hn
      have hlen : (d ++ [u]).length = n + 1 := by rw [List.length_append, hn]; rfl
      rw [hlen] at ⊢
      have HNB : Hid (n ≤ 1000000) := hid (by have := HLB.out; omega)
      by_cases hbc : b = c
      · have HNX : Hid (splL c (s.take (k + 1)) = (d ++ [u]) ++ [[]]) := hid (by unfold splL; rw [hspl]; unfold splF; rw [if_pos hbc])
        have hbv : (b.toNat : Int) = cv := by rw [hbc]; exact HCV.out
        have HO1 : Hid (wr.ownsRow w.heap.size 9 1 (.slice a4 (n + 1) cap) (n + 1) (flatR txL (d ++ [u]))) := hid (by have h := HO.out; unfold TxOwn at h; rw [hlen] at h; exact h)
        have B2 : Hid (n + 1 + [([] : List UInt8)].length ≤ maxLen ∧ (n + 1 + [([] : List UInt8)].length) * 16 ≤ 140737488355328 ∧ w.heap.size ≤ (wr.alloc (.cells #[.string ⟨#[]⟩] 9 (0, 0))).heap.size) := hid (by
          have h1 := HK.out.size
          have h2 := ((Kp.refl Nb wr).alloc (.cells #[.string ⟨#[]⟩] 9 (0, 0))).size
          have h3 := HNB.out
          refine ⟨?_, ?_, by omega⟩ <;> rw [List.length_singleton]
          · unfold maxLen; omega
          · omega)
        rw [hbv] at ix
        clear hspl hdu hcur hb hbc hbv htk hln hn HO SLI hlen
        go_wp2_with (first
          | (refine wpList_val (by rfl) _ _ (exec_buildSliceD rfl (qs := #[(0, .string ⟨#[]⟩)]) (by simp [Act.eval, Act.put]) (MK.out _)) ?_)
          | (at_builtin; refine wpList_append_rows (f := txL) (z := []) (c := 1) rfl _ _ 103 rfl w.heap.size 9 i0 zz 16 Tryz.underlying103 hi hz0 hz1 hz2 hz3 (by decide) _ _ _ rfl (ownsRow_kpD HO1.out ((Kp.refl Nb _).alloc _)) _ [[]] rfl (rows_one_tx (Blk.new _ _ _)) (fun x hx => rfl) (fun x _ u hu => by rw [List.mem_singleton.1 hu]; rfl) B2.out.1 B2.out.2.1 B2.out.2.2 ?_))
        intro v10 w10 hown hgrow
        have kx : Kp (fun i => w.heap.size ≤ i) wr w10 := ((Kp.refl (fun i => w.heap.size ≤ i) wr).alloc (.cells #[.string ⟨#[]⟩] 9 (0, 0))).grown hgrow (fun g hg h => (row_cells HO1.out hg).1)
        have HK10 : Hid (Kp Nb w w10) := hid (HK.out.trans kx (fun i hi h => by have : w.heap.size ≤ i := h; omega))
        have HO10 : Hid (TxOwn w.heap.size w10 v10 (splL c (s.take (k + 1)))) := hid (by
          unfold TxOwn
          rw [HNX.out, flatR_append, List.length_append, List.length_append, HN.out]
          exact hown)
        obtain ⟨a10, c10, rfl⟩ := own_shape hown
        clear hown hgrow kx
        go_wp2
        go_roundw
        case rel => exact ⟨k + 1, by rw [HLE.out]; have := HLT.out; omega, by go_num, HO10, HK10⟩
        case measure => have := HLT.out; simp [intOf]; omega
      · have HNX : Hid (splL c (s.take (k + 1)) = d ++ [u ++ [b]]) := hid (by unfold splL; rw [hspl]; unfold splF; rw [if_neg hbc])
        have hul : u.length ≤ 1000000 := by
          have h := (splS_len c (s.take k)).2
          rw [hdu, List.length_take] at h
          dsimp only at h
          have := HLB.out
          have := HLE.out
          omega
        have hbv : ¬ ((b.toNat : Int) = cv) := fun e => hbc (UInt8.toNat_inj.1 (by have := HCV.out; omega))
        obtain ⟨g, cap', vs, e0, hbg, hg, hnc, hcm, hvl, hvt⟩ := rowblk HO.out (by rw [hlen]; omega)
        rw [hlen] at e0 hnc hvt
        injection e0 with e0 en e1
        clear en
        subst e0 e1
        have HG2 := hid hg
        have hvn : vs[n]? = some (.string (bs u)) := by
          rw [← List.getElem?_take_of_lt (show n < (n + 1) * 1 by omega), hvt, flat_tx, List.map_append, List.getElem?_append_right (by rw [List.length_map, hn]; exact Nat.le_refl _), List.length_map, hn, Nat.sub_self]
          rfl
        obtain ⟨sU, hsU⟩ : ∃ t, bs u = t := ⟨_, rfl⟩
        obtain ⟨sB, hsB⟩ : ∃ t, bs [b] = t := ⟨_, rfl⟩
        obtain ⟨sUB, hsUB⟩ : ∃ t, bs (u ++ [b]) = t := ⟨_, rfl⟩
        have ADD : Hid (∀ w : World, (Op.stringOp .add sU sB).run Tryz.prog w = .ok (.string sUB) w) := hid (fun w => by rw [← hsU, ← hsB, ← hsUB]; exact add_bs w _ _ (by omega) (by simp))
        have HUB := hid hsUB
        rw [hsU] at hvn
        rw [hsB] at SLI
        have HGC := hid hvn
        have HROW := hid (show w.heap.size ≤ g ∧ n + 1 ≤ cap ∧ cap ≤ maxLen ∧ vs.length = cap * 1 ∧ vs.take ((n + 1) * 1) = flatR txL (d ++ [u]) from ⟨hbg, hnc, hcm, hvl, hvt⟩)
        have HKL : Hid ((n : Int) < 1000001 ∧ 0 ≤ (n : Int)) := hid (by have := HNB.out; omega)
        obtain ⟨bx, hbx⟩ : ∃ z, (b.toNat : Int) = z := ⟨_, rfl⟩
        rw [hbx] at ix hbv
        clear hbx hbc
        obtain ⟨w2, hw2⟩ : ∃ w2, w2 = wr := ⟨_, rfl⟩
        rw [← hw2] at HG2 HK ⊢
        clear hspl hdu hcur hb htk hln hn HO hlen hul hg hvn hsU hsB hsUB hbg hnc hcm hvl hvt hw2
        have hbe : (bx == cv) = false := by rw [beq_eq_false_iff_ne]; exact hbv
        clear hi hz0 hz1 hz2 hz3
        go_upto_region 7 with fail
        clear hbe hbv ix
        refine region_vals_last (n := 13) [none, none, none, none, none, none, none, none, none, none, none, none, none, none, none, none, none, none, none, none, none, none, some 0, some 1, some 2, some 3, some 4, some 5, some 6, some 7, some 8, some 9, some 10, some 11, some 12, none] [[(5, none)], [(5, none)], [(23, some 1)], [(24, some 2)], [(22, some 0), (25, some 3)], [(26, some 4)], [(0, none)], [(6, none)], [(6, none)], [(30, some 8)], [(28, some 6), (29, some 7), (31, some 9)], [(27, some 5), (32, some 10)], [(22, some 0), (25, some 3)], [(34, some 12), (33, some 11)]] [some 22, some 23, some 24, some 25, some 26, some 27, some 28, some 29, some 30, some 31, some 32, some 33, some 34] [.slice (some ⟨g, 0, none⟩) (n + 1) cap, .slice (some ⟨g, 0, none⟩) (n + 1) cap, .int .i64 ((n : Int) + 1), .int .i64 (n : Int), .pointer (some ⟨g, n, none⟩), .string sU, .string S, .int .i64 (k : Int), .int .i64 (k : Int), .int .i64 ((k : Int) + 1), .string sB, .string sUB, .pointer (some ⟨g, n, none⟩)] (fun w' => Hid (Kp Nb w2 w')) (by kernel_rfl) (by kernel_rfl) (by kernel_rfl) (by kernel_rfl) ({ dst := none, op := Op.store 9 (Operand.tmp 34) (Operand.tmp 33), type := 0, pos := "ref.go:216", after := #[{ on := 12, ground := Ground.data }, { on := 11, ground := Ground.data }, { on := 0, ground := Ground.phase }, { on := 1, ground := Ground.phase }, { on := 2, ground := Ground.phase }, { on := 3, ground := Ground.phase }, { on := 4, ground := Ground.phase }, { on := 5, ground := Ground.phase }, { on := 6, ground := Ground.phase }, { on := 7, ground := Ground.phase }, { on := 8, ground := Ground.phase }, { on := 9, ground := Ground.phase }, { on := 10, ground := Ground.phase }, { on := 11, ground := Ground.phase }], guard := none }) rfl rfl (by kernel_rfl) (by kernel_rfl) ?hS (?hstep : VFrom _ _ _ _ _ _ 0 13).start ?hend
        case hstep =>
          refine VFrom.cons (VStep.val _ rfl _ rfl (.slice (some ⟨g, 0, none⟩) (n + 1) cap) rfl trivial (fun ev wq hS he hr => ?_)) ?_
          · have r0 : ev (.tmp 5) = .slice (some ⟨g, 0, none⟩) (n + 1) cap := hr (5, none) (by simp); have hk := he.1; clear hr he
            go_simp
          refine VFrom.cons (VStep.val _ rfl _ rfl (.slice (some ⟨g, 0, none⟩) (n + 1) cap) rfl trivial (fun ev wq hS he hr => ?_)) ?_
          · have r0 : ev (.tmp 5) = .slice (some ⟨g, 0, none⟩) (n + 1) cap := hr (5, none) (by simp); have hk := he.1; clear hr he
            go_simp
          refine VFrom.cons (VStep.val _ rfl _ rfl (.int .i64 ((n : Int) + 1)) rfl trivial (fun ev wq hS he hr => ?_)) ?_
          · have r0 : ev (.tmp 23) = .slice (some ⟨g, 0, none⟩) (n + 1) cap := hr (23, some 1) (by simp); have hk := he.1; clear hr he
            go_simp
          refine VFrom.cons (VStep.val _ rfl _ rfl (.int .i64 (n : Int)) rfl trivial (fun ev wq hS he hr => ?_)) ?_
          · have r0 : ev (.tmp 24) = .int .i64 ((n : Int) + 1) := hr (24, some 2) (by simp); have hk := he.1; clear hr he
            have e1 := HKL.out; have e2 : IntKind.i64.wrap (n : Int) = n := IntWalk.i64_in _ (by omega)
            go_simp
          refine VFrom.cons (VStep.val _ rfl _ rfl (.pointer (some ⟨g, n, none⟩)) rfl trivial (fun ev wq hS he hr => ?_)) ?_
          · have r0 : ev (.tmp 22) = .slice (some ⟨g, 0, none⟩) (n + 1) cap := hr (22, some 0) (by simp); have r1 : ev (.tmp 25) = .int .i64 (n : Int) := hr (25, some 3) (by simp); have hk := he.1; clear hr he
            have e1 := HKL.out; have e2 : ¬ ((n : Int) + 1 ≤ (n : Int)) := by omega
            go_simp
          refine VFrom.cons (VStep.val _ rfl _ rfl (.string sU) rfl trivial (fun ev wq hS he hr => ?_)) ?_
          · have r0 : ev (.tmp 26) = .pointer (some ⟨g, n, none⟩) := hr (26, some 4) (by simp); have hk := he.1; clear hr he
            have c0 := ((HG2.out.kept hS.out (fun h => h)).cell n).trans HGC.out
            go_simp
          refine VFrom.cons (VStep.val _ rfl _ rfl (.string S) rfl trivial (fun ev wq hS he hr => ?_)) ?_
          · have r0 : ev (.tmp 0) = .string S := hr (0, none) (by simp); have hk := he.1; clear hr he
            go_simp
          refine VFrom.cons (VStep.val _ rfl _ rfl (.int .i64 (k : Int)) rfl trivial (fun ev wq hS he hr => ?_)) ?_
          · have r0 : ev (.tmp 6) = .int .i64 (k : Int) := hr (6, none) (by simp); have hk := he.1; clear hr he
            go_simp
          refine VFrom.cons (VStep.val _ rfl _ rfl (.int .i64 (k : Int)) rfl trivial (fun ev wq hS he hr => ?_)) ?_
          · have r0 : ev (.tmp 6) = .int .i64 (k : Int) := hr (6, none) (by simp); have hk := he.1; clear hr he
            go_simp
          refine VFrom.cons (VStep.val _ rfl _ rfl (.int .i64 ((k : Int) + 1)) rfl trivial (fun ev wq hS he hr => ?_)) ?_
          · have r0 : ev (.tmp 30) = .int .i64 (k : Int) := hr (30, some 8) (by simp); have hk := he.1; clear hr he
            have e1 := HKB.out; have e2 : IntKind.i64.wrap ((k : Int) + 1) = (k : Int) + 1 := IntWalk.i64_in _ (by omega)
            go_simp
          refine VFrom.cons (VStep.val _ rfl _ rfl (.string sB) rfl trivial (fun ev wq hS he hr => ?_)) ?_
          · have r0 : ev (.tmp 28) = .string S := hr (28, some 6) (by simp); have r1 : ev (.tmp 29) = .int .i64 (k : Int) := hr (29, some 7) (by simp); have r2 : ev (.tmp 31) = .int .i64 ((k : Int) + 1) := hr (31, some 9) (by simp); have hk := he.1; clear hr he
            have e1 := SLI.out wq
            go_simp
          refine VFrom.cons (VStep.val _ rfl _ rfl (.string sUB) rfl trivial (fun ev wq hS he hr => ?_)) ?_
          · have r0 : ev (.tmp 27) = .string sU := hr (27, some 5) (by simp); have r1 : ev (.tmp 32) = .string sB := hr (32, some 10) (by simp); have hk := he.1; clear hr he
            have e1 := ADD.out wq
            go_simp
          refine VFrom.cons (VStep.val _ rfl _ rfl (.pointer (some ⟨g, n, none⟩)) rfl trivial (fun ev wq hS he hr => ?_)) ?_
          · have r0 : ev (.tmp 22) = .slice (some ⟨g, 0, none⟩) (n + 1) cap := hr (22, some 0) (by simp); have r1 : ev (.tmp 25) = .int .i64 (n : Int) := hr (25, some 3) (by simp); have hk := he.1; clear hr he
            have e1 := HKL.out; have e2 : ¬ ((n : Int) + 1 ≤ (n : Int)) := by omega
            go_simp
          exact VFrom.nil
        case hS => exact hid (Kp.refl Nb w2).drew
        case hend =>
          intro af wy haf kh
          have HG3 := HG2.out.kept kh.out (fun h => h)
          have HG4 := hid (HG3.set n (.string sUB))
          have HKY : Hid (Kp Nb w (wy.setCell ⟨g, n, none⟩ (.string sUB))) := hid ((HK.out.trans kh.out (fun _ _ h => h)).setCell (p := ⟨g, n, none⟩) (fun h => by have := HROW.out.1; dsimp only at h; omega) _)
          have HOW : Hid (TxOwn w.heap.size (wy.setCell ⟨g, n, none⟩ (.string sUB)) (.slice (some ⟨g, 0, none⟩) (n + 1) cap) (splL c (s.take (k + 1)))) := hid (by
            unfold TxOwn
            have hlen : (d ++ [u ++ [b]]).length = n + 1 := by rw [List.length_append, HN.out]; rfl
            rw [HNX.out, hlen]
            obtain ⟨r1, r2, r3, r4, r5⟩ := HROW.out
            refine own_put (by rw [flat_tx, List.length_map, hlen]; omega) r1 HG4.out r2 r3 (by rw [List.length_set]; exact r4) ?_
            rw [List.take_set, r5, flat_tx, flat_tx, List.map_append, List.map_append, List.set_append_right _ _ (by rw [List.length_map, HN.out]; exact Nat.le_refl _), List.length_map, HN.out, Nat.sub_self, ← HUB.out]
            rfl)
          refine wp_store_at 9 (.tmp 34) (.tmp 33) rfl (p := ⟨g, n, none⟩) (v := .string sUB) (by rw [haf.out]; kernel_rfl) (by rw [haf.out]; kernel_rfl) (store_str HG3 sUB sU HGC.out) ?_
          rw [haf.out]
          clear haf kh HG3
          simp only [putAll, List.zip_cons_cons, List.zip_nil_right, List.foldl_cons, List.foldl_nil, Act.put, List.setIfInBounds_toArray, List.set_cons_zero, List.set_cons_succ]
          go_wp2
          go_roundw
          case rel => exact ⟨k + 1, by rw [HLE.out]; have := HLT.out; omega, by go_num, HOW, HKY⟩
          case measure => have := HLT.out; simp [intOf]; omega
    · obtain rfl : k = L := by omega
      have HF : Hid (TxOwn w.heap.size wr (.slice a4 (splL c (s.take k)).length cap) (splL c s)) := hid (by
        have h := HO.out
        rw [List.take_of_length_le (Nat.le_of_eq HLE.out)] at h ⊢
        exact h)
      go_wp2
      go_ret
      exact ⟨_, rfl, HF.out, HK.out⟩
def RnuR (w : World) (s : List UInt8) (i u : Value) (wr : World) : Prop := ∃ (k : Nat) (n : Nat), k ≤ s.length ∧ i = .int .i64 k ∧ u = .int .i64 (n : Int) ∧ Hid (Lib.decFrom 0 (s.take k) = some n) ∧ wr = w
theorem decFrom_bad (s : List UInt8) (k : Nat) (hk : k < s.length) (h : Lib.digitVal (s[k]?.getD 0) = none) : Lib.decFrom 0 s = none := by
  have e : s = s.take k ++ (s[k]?.getD 0 :: s.drop (k + 1)) := by
    rw [List.getElem?_eq_getElem hk, Option.getD_some, ← List.drop_eq_getElem_cons hk, List.take_append_drop]
  rw [e, decFrom_app]
  cases Lib.decFrom 0 (s.take k) with
  | none => rfl
  | some n =>
    simp only [Option.bind_some, Lib.decFrom]
    rw [h]
def numV (s : List UInt8) : Value := match numT s with
  | some n => .tuple #[.int .i64 (n : Int), .bool true]
  | none => .tuple #[.int .i64 0, .bool false]
set_option maxRecDepth 100000 in
set_option maxHeartbeats 4000000 in
theorem rnumber_any (s : List UInt8) (w : World) (hl : s.length ≤ 1000000) :
    Calls Tryz.prog 100 #[.string (bs s)] w fun e w' => e = .returned (numV s) ∧ w' = w := by
  obtain ⟨L, hL⟩ : ∃ L, s.length = L := ⟨_, rfl⟩
  have HLE := hid hL
  have HSZ := bs_size s
  rw [hL] at HSZ
  have HIX : Hid (∀ i, i < L → ∀ w : World, (Instr.index 9 (.string (bs s)) (.int .i64 i)).run Tryz.prog w = .ok (.int .u8 ((s[i]?.getD 0).toNat : Int)) w) := hid (fun i hi w => idx_bs s w i (by omega))
  obtain ⟨S, hS⟩ : ∃ S, bs s = S := ⟨_, rfl⟩
  rw [hS] at HSZ HIX ⊢
  have hLb : L ≤ 1000000 := by omega
  by_cases h1 : L < 1
  · have HV : Hid (numV s = .tuple #[.int .i64 0, .bool false]) := hid (by unfold numV numT; rw [if_pos (.inl (by omega))])
    rw [HV.out]
    have g1 : (L : Int) < 1 := by omega
    clear hS hL hl h1
    go_enter Tryz.func100, Tryz.ntmps100
    go_wp2
    go_ret2
    exact ⟨rfl, rfl⟩
  · have g1 : ¬ (L : Int) < 1 := by omega
    by_cases h2 : 18 < L
    · have HV : Hid (numV s = .tuple #[.int .i64 0, .bool false]) := hid (by unfold numV numT; rw [if_pos (.inr (.inl (by omega)))])
      rw [HV.out]
      have g2 : (L : Int) > 18 := by omega
      clear hS hL hl h1
      go_enter Tryz.func100, Tryz.ntmps100
      go_wp2
      go_ret2
      exact ⟨rfl, rfl⟩
    · have g2 : ¬ (L : Int) > 18 := by omega
      by_cases h3 : 1 < L ∧ s[0]?.getD 0 = 48
      · have HV : Hid (numV s = .tuple #[.int .i64 0, .bool false]) := hid (by unfold numV numT; rw [if_pos (.inr (.inr (by rw [hL]; exact h3)))])
        rw [HV.out]
        have g3 : (L : Int) > 1 := by omega
        have ix : ∀ w : World, (Instr.index 9 (.string S) (.int .i64 0)).run Tryz.prog w = .ok (.int .u8 ((s[0]?.getD 0).toNat : Int)) w := HIX.out 0 (by omega)
        rw [h3.2, show ((48 : UInt8).toNat : Int) = 48 from rfl] at ix
        clear hS hL hl h1
        go_enter Tryz.func100, Tryz.ntmps100
        go_wp2
        go_ret2
        exact ⟨rfl, rfl⟩
      · have HN : Hid (numT s = Lib.decFrom 0 s) := hid (by
          unfold numT
          rw [if_neg]
          rintro (h | h | h)
          · omega
          · omega
          · rw [hL] at h; exact h3 h)
        have ix0 : ∀ w : World, (Instr.index 9 (.string S) (.int .i64 0)).run Tryz.prog w = .ok (.int .u8 ((s[0]?.getD 0).toNat : Int)) w := HIX.out 0 (by omega)
        have hx0 : 1 < L → ((s[0]?.getD 0).toNat : Int) ≠ 48 := fun h e => h3 ⟨h, UInt8.toNat_inj.1 (by have e48 : (48 : UInt8).toNat = 48 := rfl; omega)⟩
        obtain ⟨x0, hx⟩ : ∃ x, ((s[0]?.getD 0).toNat : Int) = x := ⟨_, rfl⟩
        rw [hx] at ix0 hx0
        have HGO : Hid (∀ k n, k < L → Lib.decFrom 0 (s.take k) = some n → Lib.digitVal (s[k]?.getD 0) = none → numV s = .tuple #[.int .i64 0, .bool false]) := hid (fun k n hk _ h => by unfold numV; rw [HN.out, decFrom_bad s k (by rw [HLE.out]; exact hk) h])
        have HFI : Hid (∀ n, Lib.decFrom 0 s = some n → numV s = .tuple #[.int .i64 (n : Int), .bool true]) := hid (fun n h => by unfold numV; rw [HN.out, h])
        have HL18 : Hid (L ≤ 18) := hid (by omega)
        have ST : ∀ (P : Value → Prop), P (numV s) = P (numV s) := fun _ => rfl
        obtain ⟨V, hV⟩ : ∃ V, numV s = V := ⟨_, rfl⟩
        rw [hV] at HGO HFI ⊢
        clear hS hL hl h3 hx hV ST HN
        go_enter Tryz.func100, Tryz.ntmps100
        by_cases h4 : 1 < L
        · have g3 : (L : Int) > 1 := by omega
          have g4 := hx0 h4
          clear hx0 h1 h2 h4
          go_wp2
          go_loopw [5, 4] (RnuR w s) (fun i _ _ => L - (intOf i).toNat)
          case atStart => exact ⟨0, 0, Nat.zero_le _, rfl, rfl, hid rfl, rfl⟩
          case round =>
            obtain ⟨k, n, hk, rfl, rfl, HD, rfl⟩ := hrel
            rw [HLE.out] at hk
            by_cases hlt : k < L
            · have HLT := hid hlt
              have ix := HIX.out k hlt
              have hgo := HGO.out k n hlt HD.out
              have htk := take_at (s := s) (k := k) (by rw [HLE.out]; exact hlt)
              have hdt := Lib.decFrom_take_lt HD.out (by have := HL18.out; omega)
              have hsn := decFrom_snoc (s.take k) (s[k]?.getD 0)
              rw [← htk, HD.out] at hsn
              have hkb : (k : Int) < 18 := by have := HL18.out; omega
              obtain ⟨b, hb⟩ : ∃ b, s[k]?.getD 0 = b := ⟨_, rfl⟩
              rw [hb] at ix hgo hsn
              have hb2 := b.toNat_lt
              obtain ⟨x, hx⟩ : ∃ x : Nat, b.toNat = x := ⟨_, rfl⟩
              unfold Lib.digitVal at hgo hsn
              rw [hx] at ix hgo hsn hb2
              by_cases hd : 48 ≤ x ∧ x ≤ 57
              · rw [if_pos hd] at hsn
                have HSN : Hid (Lib.decFrom 0 (s.take (k + 1)) = some (n * 10 + (x - 48))) := hid hsn
                have q1 : ¬ (x : Int) < 48 := by omega
                have q2 : ¬ (x : Int) > 57 := by omega
                have q3 : (n : Int) < 100000000000000000 := by omega
                have q4 : 0 ≤ (x : Int) - 48 := by omega
                have q5 : (x : Int) - 48 < 10 := by omega
                have HR : Hid ((n : Int) * 10 + ((x : Int) - 48) = ((n * 10 + (x - 48) : Nat) : Int)) := hid (by omega)
                clear hgo htk hdt hsn hb hx hd HD hb2
                go_wp2
                go_roundw
                case rel => exact ⟨k + 1, n * 10 + (x - 48), by rw [HLE.out]; have := HLT.out; omega, by go_num, by rw [← HR.out], HSN, rfl⟩
                case measure => have := HLT.out; simp [intOf]; omega
              · rw [if_neg hd] at hgo
                have HV := hid (hgo rfl)
                by_cases hd1 : x < 48
                · have q1 : (x : Int) < 48 := by omega
                  clear hgo htk hdt hsn hb hx hd HD
                  go_wp2
                  go_ret2
                  exact ⟨by rw [HV.out]; rfl, rfl⟩
                · have q1 : ¬ (x : Int) < 48 := by omega
                  have q2 : (x : Int) > 57 := by omega
                  clear hgo htk hdt hsn hb hx hd HD
                  go_wp2
                  go_ret2
                  exact ⟨by rw [HV.out]; rfl, rfl⟩
            · obtain rfl : k = L := by omega
              have HE := hid (HFI.out n (by have h := HD.out; rw [List.take_of_length_le (Nat.le_of_eq HLE.out)] at h; exact h))
              go_wp2
              go_ret2
              exact ⟨by rw [HE.out]; rfl, rfl⟩
        · have g3 : ¬ (L : Int) > 1 := by omega
          clear hx0 h1 h2 h4 ix0
          go_wp2
          go_loopw [5, 4] (RnuR w s) (fun i _ _ => L - (intOf i).toNat)
          case atStart => exact ⟨0, 0, Nat.zero_le _, rfl, rfl, hid rfl, rfl⟩
          case round =>
            obtain ⟨k, n, hk, rfl, rfl, HD, rfl⟩ := hrel
            rw [HLE.out] at hk
            by_cases hlt : k < L
            · have HLT := hid hlt
              have ix := HIX.out k hlt
              have hgo := HGO.out k n hlt HD.out
              have htk := take_at (s := s) (k := k) (by rw [HLE.out]; exact hlt)
              have hdt := Lib.decFrom_take_lt HD.out (by have := HL18.out; omega)
              have hsn := decFrom_snoc (s.take k) (s[k]?.getD 0)
              rw [← htk, HD.out] at hsn
              have hkb : (k : Int) < 18 := by have := HL18.out; omega
              obtain ⟨b, hb⟩ : ∃ b, s[k]?.getD 0 = b := ⟨_, rfl⟩
              rw [hb] at ix hgo hsn
              have hb2 := b.toNat_lt
              obtain ⟨x, hx⟩ : ∃ x : Nat, b.toNat = x := ⟨_, rfl⟩
              unfold Lib.digitVal at hgo hsn
              rw [hx] at ix hgo hsn hb2
              by_cases hd : 48 ≤ x ∧ x ≤ 57
              · rw [if_pos hd] at hsn
                have HSN : Hid (Lib.decFrom 0 (s.take (k + 1)) = some (n * 10 + (x - 48))) := hid hsn
                have q1 : ¬ (x : Int) < 48 := by omega
                have q2 : ¬ (x : Int) > 57 := by omega
                have q3 : (n : Int) < 100000000000000000 := by omega
                have q4 : 0 ≤ (x : Int) - 48 := by omega
                have q5 : (x : Int) - 48 < 10 := by omega
                have HR : Hid ((n : Int) * 10 + ((x : Int) - 48) = ((n * 10 + (x - 48) : Nat) : Int)) := hid (by omega)
                clear hgo htk hdt hsn hb hx hd HD hb2
                go_wp2
                go_roundw
                case rel => exact ⟨k + 1, n * 10 + (x - 48), by rw [HLE.out]; have := HLT.out; omega, by go_num, by rw [← HR.out], HSN, rfl⟩
                case measure => have := HLT.out; simp [intOf]; omega
              · rw [if_neg hd] at hgo
                have HV := hid (hgo rfl)
                by_cases hd1 : x < 48
                · have q1 : (x : Int) < 48 := by omega
                  clear hgo htk hdt hsn hb hx hd HD
                  go_wp2
                  go_ret2
                  exact ⟨by rw [HV.out]; rfl, rfl⟩
                · have q1 : ¬ (x : Int) < 48 := by omega
                  have q2 : (x : Int) > 57 := by omega
                  clear hgo htk hdt hsn hb hx hd HD
                  go_wp2
                  go_ret2
                  exact ⟨by rw [HV.out]; rfl, rfl⟩
            · obtain rfl : k = L := by omega
              have HE := hid (HFI.out n (by have h := HD.out; rw [List.take_of_length_le (Nat.le_of_eq HLE.out)] at h; exact h))
              go_wp2
              go_ret2
              exact ⟨by rw [HE.out]; rfl, rfl⟩
end

end Go.Proofs.YtogoophofgkboaaGreatDoor
