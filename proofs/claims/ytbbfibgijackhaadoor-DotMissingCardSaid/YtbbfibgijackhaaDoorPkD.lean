/-
  Layer 3: DotMissing's law. Conditions: a case in memory; the library's tables stand in memory.
  Layer 3's arguments opened: clocks, lists of dots, a case; what the listed tables and the world's shape give; the start's own heap; the wrap that hands both on. No condition.
  Layer 3's arguments opened: lists of dots, a case. No condition.
  PROVED: 'DotMissingCardSaid': whatever was sent, DotMissing returns true and the input reads as it did. Conditions: the listed package-level variables start as the program's text lays them (the card ties them).
-/
import Derived.Test.YtbbfibgijackhaaDoorPkQ
import Derived.Test.YtbbfibgijackhaaDoorPkO
import Derived.Test.YtbbfibgijackhaaDoorPkM
import Derived.Test.YtbbfibgijackhaaDoorRows
import Derived.Handed
import Derived.LaidMore
import Derived.Lay
import Derived.Stop.Joined
import Derived.Lib.LaidTab
import Derived.Test.YtbbfibgijackhaaDoorPkY
import Derived.Test.YtbbfibgijackhaaDoorCards
import Derived.Test.YtbbfibgijackhaaDoorTie
import Derived.ChangeSame
import Derived.ChangeVars
import Derived.SevenTiedAt
namespace Go.Proofs.YtbbfibgijackhaaDoor
open Go.RowKit

theorem run_min2M {P : Program} (w : World) (ts : Array TypeId) (t : TypeId) (k k' : IntKind) (x y : Int) : (Builtin.min_ ts t #[.int k x, .int k' y]).run P w = .ok (.int k (min x y)) w := by
  rw [run_min_int2]
  have e1 : (if y < x then y else x) = min x y := by split <;> omega
  rw [e1]
attribute [-go_sem] run_max_int2 run_min_int2
attribute [local go_sem] run_max2M run_min2M
structure Dms (w : World) (va vb vg : Value) (a b : List RunQ) (g : List DotQ) (D : Nat) (dn dd nd : Int) (W : World) : Prop where
  ha : ClSl W va a
  hb : ClSl W vb b
  hg : RowsSl dotL (0, 0) 2 W vg g
  box : Blk W D 27 (caseL va vb dn dd nd)
  k : Kp Nb w W
theorem Dms.step {w W W' : World} {va vb vg : Value} {a b : List RunQ} {g : List DotQ} {D : Nat} {dn dd nd : Int} (h : Dms w va vb vg a b g D dn dd nd W) (k : Kp Nb W W') : Dms w va vb vg a b g D dn dd nd W' :=
  ⟨h.ha.kept k, h.hb.kept k, RowsSl.kept h.hg k, h.box.kept k (fun h => h), h.k.trans k (fun _ _ h => h)⟩
def MsR (w : World) (a b : List RunQ) (K : Nat) (rr : Bool) (i u : Value) (wr : World) : Prop := ∃ k n : Nat, k ≤ b.length ∧ i = .int .i64 k ∧ u = .int .i64 n ∧ Hid (n ≤ K) ∧ Hid (rr = true → n = min K (missF a (b.take k)).length) ∧ Hid (rr = false → n = 0) ∧ Hid (Kp Nb w wr)
def MtR (w : World) (a b : List RunQ) (K k : Nat) (q : RunQ) (i u : Value) (wr : World) : Prop := ∃ (m : Int) (n : Nat), i = .int .i64 m ∧ u = .int .i64 n ∧ Hid (q.2.1 ≤ m ∧ m ≤ 1099511627778) ∧ Hid (¬ InC a q.1 m) ∧ Hid (n = min K ((missF a (b.take k)).length + (belowX a q m).length)) ∧ Hid (Kp Nb w wr)
/-- What the inner loop comes to when it is left. -/
theorem miss_left {a b : List RunQ} {k K n : Nat} (hk : k < b.length) {m : Int} (hn : n = min K ((missF a (b.take k)).length + (belowX a (runAt b k) m).length)) (h : ¬ (m ≤ (runAt b k).2.2 ∧ n < K)) : n = min K (missF a (b.take (k + 1))).length := by
  rw [missF_snoc a b k hk, List.length_append]
  have h1 := belowX_le a (runAt b k) m
  by_cases h2 : m ≤ (runAt b k).2.2
  · have h3 : ¬ n < K := fun h3 => h ⟨h2, h3⟩
    omega
  · rw [belowX_all a (runAt b k) m (by omega)] at hn
    exact hn
theorem miss_next {a b : List RunQ} {k K n : Nat} {m m' : Int} (h0 : (runAt b k).2.1 ≤ m) (h1 : m ≤ (runAt b k).2.2) (hi : ¬ InC a (runAt b k).1 m) (h2 : n < K) (hn : n = min K ((missF a (b.take k)).length + (belowX a (runAt b k) m).length))
    (hm : AfP a (runAt b k).1 (m + 1) m') : n + 1 = min K ((missF a (b.take k)).length + (belowX a (runAt b k) m').length) := by
  rw [belowX_step a (runAt b k) m m' h0 h1 hi (by have := hm.1; omega) (fun d hd hd2 => hm.2.2 d (by omega) hd2), List.length_append, List.length_singleton]
  omega
theorem miss_here {a b : List RunQ} {k K n : Nat} (hk : k < b.length) {m : Int} (h0 : (runAt b k).2.1 ≤ m) (h1 : m ≤ (runAt b k).2.2) (hi : ¬ InC a (runAt b k).1 m) (h2 : n < K) (hn : n = min K ((missF a (b.take k)).length + (belowX a (runAt b k) m).length)) :
    n < ((missF a b).take K).length ∧ dotAt ((missF a b).take K) n = ((runAt b k).1, m) := by
  have e : n = (missF a (b.take k)).length + (belowX a (runAt b k) m).length := by omega
  have h3 := miss_at hk h0 h1 hi
  rw [← e] at h3
  have h4 := (List.getElem?_eq_some_iff.1 h3).1
  refine ⟨by rw [List.length_take]; omega, ?_⟩
  unfold dotAt
  rw [List.getElem?_take_of_lt h2, h3]
  rfl
set_option maxRecDepth 100000 in
set_option maxHeartbeats 32000000 in
theorem dmiss_any (va vb : Value) (a b : List RunQ) (dn dd nd most : Int) (w : World) (ha : ClSl w va a) (hb : ClSl w vb b) (ht : Tab w) (hm : Mx w) :
    Calls Tryd.prog 3 #[caseV va vb dn dd nd, .int .i64 most] w fun e w' => e = .returned (.bool true) ∧ Kp Nb w w' := by
  have HT := hid ht
  have HM := hid hm
  obtain ⟨pa, da, rfl⟩ := ha.shape
  obtain ⟨pb, db, rfl⟩ := hb.shape
  obtain ⟨nA, hnA⟩ : ∃ n, a.length = n := ⟨_, rfl⟩
  obtain ⟨nB, hnB⟩ : ∃ n, b.length = n := ⟨_, rfl⟩
  have HL := hid (show a.length = nA ∧ b.length = nB from ⟨hnA, hnB⟩)
  have HLE := hid hnB
  obtain ⟨D, hD⟩ : ∃ D, w.heap.size = D := ⟨_, rfl⟩
  obtain ⟨W0, hW0⟩ : ∃ W, W = w.alloc (.cells #[.slice pa a.length da, .slice pb b.length db, .int .i64 dn, .int .i64 dd, .int .i64 nd] 27) := ⟨_, rfl⟩
  have HF : Hid (Dms w (.slice pa a.length da) (.slice pb b.length db) (.slice none 0 0) a b [] D dn dd nd W0) := hid (by
    have k0 : Kp Nb w W0 := by rw [hW0]; exact (Kp.refl Nb w).alloc _
    exact ⟨ha.kept k0, hb.kept k0, .inl ⟨⟨_, _, rfl⟩, rfl⟩, by rw [hW0, ← hD]; exact Blk.new w _ (caseL (.slice pa a.length da) (.slice pb b.length db) dn dd nd), k0⟩)
  rw [hnA, hnB] at HF hW0
  rw [hnA, hnB]
  obtain ⟨K, hK⟩ : ∃ K : Nat, max 0 (min most 50) = (K : Int) := ⟨(max 0 (min most 50)).toNat, by omega⟩
  have HKB : Hid (K ≤ 50) := hid (by omega)
  clear ha hb hnA hnB ht hm
  unfold caseV
  go_enter Tryd.func3, Tryd.ntmps3
  go_upto_region 1 with fail
  rw [← hW0]
  clear hW0 hD
  go_wp2_with fail
  refine (dfirst_any W0 (HT.out.kept HF.out.k) (HM.out.kept HF.out.k)).mono ?_
  rintro r w1 ⟨rfl, k⟩
  have HF := hid (HF.out.step k)
  clear k
  have c0 : World.cell? w1 ⟨D, 0, none⟩ = some (.slice pa nA da) := HF.out.box.cell 0
  have c1 : World.cell? w1 ⟨D, 1, none⟩ = some (.slice pb nB db) := HF.out.box.cell 1
  have c2 : World.cell? w1 ⟨D, 2, none⟩ = some (.int .i64 dn) := HF.out.box.cell 2
  have c3 : World.cell? w1 ⟨D, 3, none⟩ = some (.int .i64 dd) := HF.out.box.cell 3
  have c4 : World.cell? w1 ⟨D, 4, none⟩ = some (.int .i64 nd) := HF.out.box.cell 4
  obtain ⟨G, hG⟩ : ∃ x, decide (40 < nA ∨ 40 < nB) = x := ⟨_, rfl⟩
  have HG := hid hG
  go_wp2_with fail
  have C := great_any pa pb nA nB da db dn dd nd w1
  rw [hG] at C
  clear hG
  unfold caseV at C
  refine C.mono ?_
  rintro r w2 ⟨rfl, k⟩
  have HF := hid (HF.out.step k)
  clear C k c0 c1 c2 c3 c4
  cases G with
  | true =>
    go_wp2
    go_ret
    exact ⟨rfl, HF.out.k⟩
  | false =>
    have HLB : Hid (a.length ≤ 40 ∧ b.length ≤ 40) := hid (by have h1 := of_decide_eq_false HG.out; have := HL.out; omega)
    have c0 : World.cell? w2 ⟨D, 0, none⟩ = some (.slice pa nA da) := HF.out.box.cell 0
    have c1 : World.cell? w2 ⟨D, 1, none⟩ = some (.slice pb nB db) := HF.out.box.cell 1
    obtain ⟨got, hgot⟩ : ∃ g, (dotsOf (missC a b)).take K = g := ⟨_, rfl⟩
    have HGOT := hid hgot
    go_wp2_with fail
    have C := callsIn_wide.1 (some_in 3 (Nat.le_refl _) _ _ a b (K : Int) (by have := HKB.out; omega) w2 HF.out.ha HF.out.hb (by have := HLB.out; omega) (by have := HLB.out; omega))
    rw [Int.toNat_natCast, hgot] at C
    refine C.mono ?_
    rintro r w3 ⟨vg, rfl, hg, k⟩
    obtain ⟨yg, dg, rfl⟩ := own_shape hg
    have HRG := hid (ds_owned hg)
    have HF := hid (HF.out.step k)
    obtain ⟨nG, hnG⟩ : ∃ n, got.length = n := ⟨_, rfl⟩
    rw [hnG] at HRG ⊢
    have HNG := hid hnG
    have HF : Hid (Dms w (.slice pa nA da) (.slice pb nB db) (.slice yg nG dg) a b got D dn dd nd w3) := hid ⟨HF.out.ha, HF.out.hb, HRG.out, HF.out.box, HF.out.k⟩
    clear C k hg hgot hnG c0 c1 HRG hK
    obtain ⟨ra, hra⟩ : ∃ x, rightC a = x := ⟨_, rfl⟩
    obtain ⟨rb, hrb⟩ : ∃ x, rightC b = x := ⟨_, rfl⟩
    have HRA := hid hra
    have HRB := hid hrb
    have HNO : Hid ((ra && rb) = false → nG = 0) := hid (fun h => by
      rw [← HNG.out, ← HGOT.out]
      unfold missC
      rw [hra, hrb, h, if_neg (by decide)]
      simp [dotsOf])
    have HYS : Hid ((ra && rb) = true → got = (missF a b).take K) := hid (fun h => by
      rw [← HGOT.out]
      rw [Bool.and_eq_true] at h
      unfold missC
      rw [hra, hrb, h.1, h.2]
      show (dotsOf (lessC b a)).take K = _
      rw [miss_eq (rightC_rt.1 (hra.trans h.1)) (rightC_rt.1 (hrb.trans h.2))])
    clear hra hrb
    have HNB := hid (show nB ≤ 40 by have := HLB.out; have := HL.out; omega)
    have c0 : World.cell? w3 ⟨D, 0, none⟩ = some (.slice pa nA da) := HF.out.box.cell 0
    have c1 : World.cell? w3 ⟨D, 1, none⟩ = some (.slice pb nB db) := HF.out.box.cell 1
    go_wp2_with fail
    clear c0 c1
    go_loopw [27, 7] (MsR w3 a b K (ra && rb)) (fun i _ _ => nB - (intOf i).toNat)
    case atStart => exact ⟨0, 0, Nat.zero_le _, rfl, rfl, hid (Nat.zero_le _), hid (fun _ => by simp [missF, dotsOf]), hid (fun _ => rfl), hid (Kp.refl _ _)⟩
    case round =>
      obtain ⟨k, n, hk, rfl, rfl, HNK, HN1, HN0, HK⟩ := hrel
      rw [HLE.out] at hk
      by_cases hlt : k < nB
      · have HSB := hid HF.out.hb
        obtain ⟨blk, off, cap, e1, hc, hm, hcell⟩ := cl_shape (HSB.out.kept HK.out) (by intro h; have := HLE.out; rw [h, List.length_nil] at this; omega)
        rw [HLE.out] at e1 hc hcell
        injection e1 with e1 _ e2
        subst e1 e2
        have HR := hid (hcell k hlt)
        obtain ⟨⟨qn, qf, qt⟩, hq⟩ : ∃ q, runAt b k = q := ⟨_, rfl⟩
        have HOK := HSB.out.1 k
        rw [hq] at HR HOK
        have HQ := hid hq
        obtain ⟨M, hM⟩ : ∃ M, wr.heap.size = M := ⟨_, rfl⟩
        obtain ⟨W2, hW2⟩ : ∃ W, W = (wr.alloc (.cells (runL (0, 0, 0)).toArray 33)).setCells M 0 (runL (qn, qf, qt)) := ⟨_, rfl⟩
        have hz := Blk.new wr 33 (runL (0, 0, 0))
        rw [hM] at hz
        have KW : Hid (Kp Nb wr W2) := hid (by rw [hW2]; exact Kp.setCells (fun h => absurd h (by omega)) _ 0 _ ((Kp.refl Nb wr).alloc _))
        have HMW : Hid (wr.heap.size = M) := hid hM
        have TH := hid (run_there (q := (qn, qf, qt)) hz)
        have HZ : Hid (Blk W2 M 33 (runL (qn, qf, qt))) := hid (by rw [hW2]; exact row_set hz rfl)
        have HK2 := hid (HK.out.trans KW.out (fun _ _ h => h))
        unfold maxLen at hm
        obtain ⟨fs, hfs⟩ := under_run
        clear hz hcell hq
        go_upto_region 11 with (first
          | (refine wpList_load_mid (by rfl) 33 (.tmp 29) (by rfl) blk (off + k * 3) (by rfl) (runL (qn, qf, qt)) _ HR.out hfs rfl (run_infoL (qn, qf, qt)) ?_)
          | (refine wpList_store_mid (by rfl) 33 (.tmp 9) (.tmp 30) (by rfl) M 0 (runL (qn, qf, qt)).toArray (by rfl) (by rfl) TH.out (run_infoA (qn, qf, qt)) (run_one (qn, qf, qt)) ?_))
        rw [show (wr.alloc (.cells #[.int .i64 0, .int .i64 0, .int .i64 0] 33)).setCells M 0 (runL (qn, qf, qt)) = W2 from hW2.symm]
        clear hW2 TH hM
        have c0 : W2.cell? ⟨M, 0, none⟩ = some (.int .i64 qn) := HZ.out.cell 0
        have c1 : W2.cell? ⟨M, 1, none⟩ = some (.int .i64 qf) := HZ.out.cell 1
        have c2 : W2.cell? ⟨M, 2, none⟩ = some (.int .i64 qt) := HZ.out.cell 2
        have HJB : Hid (k < b.length) := hid (by rw [HLE.out]; exact hlt)
        have HF2 := hid (HF.out.step HK2.out)
        clear HK KW HMW HR c0 c1 c2
        have c0 : World.cell? W2 ⟨D, 0, none⟩ = some (.slice pa nA da) := HF2.out.box.cell 0
        have c1 : World.cell? W2 ⟨D, 1, none⟩ = some (.slice (some ⟨blk, off, none⟩) nB db) := HF2.out.box.cell 1
        go_wp2_with fail
        have C := rright_any _ a W2 HF2.out.ha (by have := HLB.out; omega)
        rw [HRA.out] at C
        refine C.mono ?_
        rintro r w4 ⟨rfl, k4⟩
        have HF4 := hid (HF2.out.step k4)
        have HZ4 := hid (HZ.out.kept k4 (fun h => h))
        have HK4 := hid (HK2.out.trans k4 (fun _ _ h => h))
        clear C k4 c0 c1 HZ HK2 HF2
        cases ra with
        | false =>
          have hn0 : n = 0 := HN0.out rfl
          have hg0 : nG = 0 := HNO.out rfl
          subst hn0
          subst hg0
          go_wp2
          go_ret
          exact ⟨rfl, HF4.out.k⟩
        | true =>
          have c0 : World.cell? w4 ⟨D, 0, none⟩ = some (.slice pa nA da) := HF4.out.box.cell 0
          have c1 : World.cell? w4 ⟨D, 1, none⟩ = some (.slice (some ⟨blk, off, none⟩) nB db) := HF4.out.box.cell 1
          go_wp2_with fail
          have C := rright_any _ b w4 HF4.out.hb (by have := HLB.out; omega)
          rw [HRB.out] at C
          refine C.mono ?_
          rintro r w5 ⟨rfl, k5⟩
          have HF5 := hid (HF4.out.step k5)
          have HZ5 := hid (HZ4.out.kept k5 (fun h => h))
          have HK5 := hid (HK4.out.trans k5 (fun _ _ h => h))
          clear C k5 c0 c1 HZ4 HK4 HF4
          cases rb with
          | false =>
            have hn0 : n = 0 := HN0.out rfl
            have hg0 : nG = 0 := HNO.out rfl
            subst hn0
            subst hg0
            go_wp2
            go_ret
            exact ⟨rfl, HF5.out.k⟩
          | true =>
            have HN := hid (HN1.out rfl)
            have HGE := hid (HYS.out rfl)
            have HTB := hid (rightC_rt.1 HRB.out)
            have hgq := goodR_of.1 (HTB.out.1 _ (runAt_mem HJB.out))
            rw [HQ.out] at hgq
            dsimp only at hgq
            have HGQ : Hid (0 ≤ qn ∧ qn ≤ 7 ∧ 1 ≤ qf ∧ qf ≤ qt ∧ qt ≤ 1099511627776) := hid hgq
            clear hgq HN1 HN0 HNO HYS
            have c0 : World.cell? w5 ⟨D, 0, none⟩ = some (.slice pa nA da) := HF5.out.box.cell 0
            have e0 : World.cell? w5 ⟨M, 0, none⟩ = some (.int .i64 qn) := HZ5.out.cell 0
            have e1 : World.cell? w5 ⟨M, 1, none⟩ = some (.int .i64 qf) := HZ5.out.cell 1
            have e2 : World.cell? w5 ⟨M, 2, none⟩ = some (.int .i64 qt) := HZ5.out.cell 2
            go_wp2_with fail
            have C := after_any _ a qn qf w5 HF5.out.ha HRA.out (by have := HLB.out; omega) (by have := HGQ.out; omega) (by have := HGQ.out; omega)
            refine C.mono ?_
            rintro r w6 ⟨m0, rfl, ha0, hi0, k6⟩
            have HF6 := hid (HF5.out.step k6)
            have HZ6 := hid (HZ5.out.kept k6 (fun h => h))
            have HK6 := hid (HK5.out.trans k6 (fun _ _ h => h))
            have HS0 : Hid (MtR w6 a b K k (qn, qf, qt) (.int .i64 m0) (.int .i64 n) w6) := hid ⟨m0, n, rfl, rfl, hid ⟨ha0.1, ha0.2.1⟩, hid hi0, hid (by
              rw [belowX_none a (qn, qf, qt) m0 ha0.2.2, List.length_nil, Nat.add_zero]
              exact HN.out), hid (Kp.refl _ _)⟩
            clear C k6 ha0 hi0 c0 e0 e1 e2 HF5 HZ5 HK5 HN
            go_wp2_with fail
            go_loopw [10, 7] (MtR w6 a b K k (qn, qf, qt)) (fun i _ _ => (1099511627779 - intOf i).toNat)
            case atStart => exact HS0.out
            case round =>
              clear HS0
              obtain ⟨m, n, rfl, rfl, HMB, HMI, HMN, HKI⟩ := hrel
              have HMB : Hid (qf ≤ m ∧ m ≤ 1099511627778) := HMB
              have HF7 := hid (HF6.out.step HKI.out)
              have HZ7 := hid (HZ6.out.kept HKI.out (fun h => h))
              have HNL : Hid (n ≤ K) := hid (by rw [HMN.out]; exact Nat.min_le_left _ _)
              have e0 : World.cell? wr ⟨M, 0, none⟩ = some (.int .i64 qn) := HZ7.out.cell 0
              have e1 : World.cell? wr ⟨M, 1, none⟩ = some (.int .i64 qf) := HZ7.out.cell 1
              have e2 : World.cell? wr ⟨M, 2, none⟩ = some (.int .i64 qt) := HZ7.out.cell 2
              by_cases h1 : m ≤ qt
              · by_cases h2 : n < K
                · have HH := miss_here (K := K) (n := n) HJB.out (m := m) (by rw [HQ.out]; exact HMB.out.1) (by rw [HQ.out]; exact h1) (by rw [HQ.out]; exact HMI.out) h2 (by rw [HQ.out]; exact HMN.out)
                  rw [← HGE.out, HNG.out, HQ.out] at HH
                  dsimp only at HH
                  obtain ⟨hnG, hdat⟩ := HH
                  obtain ⟨blkg, offg, capg, eg, hcg, hmg, hcellg⟩ := ds_shape HF7.out.hg (by intro h; have := HNG.out; rw [h, List.length_nil] at this; omega)
                  rw [HNG.out] at eg hcg hcellg
                  injection eg with eg _ eg2
                  subst eg eg2
                  have hrg := hcellg n hnG
                  rw [hdat] at hrg
                  have f0 : World.cell? wr ⟨blkg, offg + n * 2 + 0, none⟩ = some (.int .i64 qn) := hrg 0 _ rfl
                  have f1 : World.cell? wr ⟨blkg, offg + n * 2 + 1, none⟩ = some (.int .i64 m) := hrg 1 _ rfl
                  rw [Nat.add_zero] at f0
                  have hge : ¬ (nG : Int) ≤ (n : Int) := by omega
                  have hn50 : n < 50 := by have := HKB.out; omega
                  have HFN := hid (HF7.out)
                  clear hrg hcellg hdat hmg hcg
                  go_wp2_with fail
                  go_quiet (fail)
                  obtain ⟨W8, hW8⟩ : ∃ W, W = wr.drewN nq := ⟨_, rfl⟩
                  have k8 : Kp Nb wr W8 := by rw [hW8]; exact (Kp.refl Nb wr).drewN nq
                  have HF8 := hid (HF7.out.step k8)
                  have HZ8 := hid (HZ7.out.kept k8 (fun h => h))
                  have HK8 := hid (HKI.out.trans k8 (fun _ _ h => h))
                  rw [← hW8]
                  clear hW8 k8 f0 f1 e0 e1 e2
                  have c0 : World.cell? W8 ⟨D, 0, none⟩ = some (.slice pa nA da) := HF8.out.box.cell 0
                  have e0 : World.cell? W8 ⟨M, 0, none⟩ = some (.int .i64 qn) := HZ8.out.cell 0
                  have w1 : IntKind.i64.wrap (m + 1) = m + 1 := IntWalk.i64_in _ (by have := HMB.out; have := HGQ.out; omega)
                  go_wp2_with fail
                  have C := after_any _ a qn (m + 1) W8 HF8.out.ha HRA.out (by have := HLB.out; omega) (by have := HMB.out; have := HGQ.out; omega) (by have := HGQ.out; omega)
                  refine C.mono ?_
                  rintro r w9 ⟨m', rfl, ha9, hi9, k9⟩
                  have HA9 := hid ha9
                  have HI9 := hid hi9
                  have HK9 := hid (HK8.out.trans k9 (fun _ _ h => h))
                  have HN9 : Hid (n + 1 = min K ((missF a (b.take k)).length + (belowX a (qn, qf, qt) m').length)) := hid (by
                    have h := miss_next (K := K) (n := n) (b := b) (k := k) (m := m) (m' := m') (by rw [HQ.out]; exact HMB.out.1) (by rw [HQ.out]; exact h1) (by rw [HQ.out]; exact HMI.out) h2 (by rw [HQ.out]; exact HMN.out) (by rw [HQ.out]; exact ha9)
                    rwa [HQ.out] at h)
                  clear C k9 ha9 hi9 c0 e0
                  go_wp2
                  go_roundw
                  case rel => exact ⟨m', n + 1, rfl, by go_num, hid ⟨by have := HA9.out.1; have := HMB.out.1; dsimp only at *; omega, HA9.out.2.1⟩, HI9, HN9, HK9⟩
                  case measure => have := HA9.out.1; have := HA9.out.2.1; simp [intOf]; omega
                · skip
                  have HNX : Hid (n = min K (missF a (b.take (k + 1))).length) := hid (miss_left HJB.out (m := m) (by rw [HQ.out]; exact HMN.out) (by rw [HQ.out]; exact fun h => h2 h.2))
                  have HKX := hid (HK6.out.trans HKI.out (fun _ _ h => h))
                  go_wp2
                  go_roundw
                  case rel => exact ⟨k + 1, n, by rw [HLE.out]; omega, by go_num, rfl, HNL, hid (fun _ => HNX.out), hid (fun h => by cases h), HKX⟩
                  case measure => simp [intOf]; omega
              · skip
                have HNX : Hid (n = min K (missF a (b.take (k + 1))).length) := hid (miss_left HJB.out (m := m) (by rw [HQ.out]; exact HMN.out) (by rw [HQ.out]; exact fun h => h1 h.1))
                have HKX := hid (HK6.out.trans HKI.out (fun _ _ h => h))
                go_wp2
                go_roundw
                case rel => exact ⟨k + 1, n, by rw [HLE.out]; omega, by go_num, rfl, HNL, hid (fun _ => HNX.out), hid (fun h => by cases h), HKX⟩
                case measure => simp [intOf]; omega
      · obtain rfl : k = nB := by omega
        cases hra : ra with
        | false =>
          subst hra
          have hn0 : n = 0 := HN0.out rfl
          have hg0 : nG = 0 := HNO.out rfl
          subst hn0
          subst hg0
          have HF4 := hid (HF.out.step HK.out)
          go_wp2
          go_ret
          exact ⟨rfl, HF4.out.k⟩
        | true =>
          subst hra
          have HF4 := hid (HF.out.step HK.out)
          cases hrb : rb with
          | false =>
            subst hrb
            have hn0 : n = 0 := HN0.out rfl
            have hg0 : nG = 0 := HNO.out rfl
            subst hn0
            subst hg0
            go_wp2
            go_ret
            exact ⟨rfl, HF4.out.k⟩
          | true =>
            subst hrb
            have hnn : nG = n := by
              have h1 := HN1.out rfl
              have h2 := HNG.out
              rw [HYS.out rfl, List.length_take] at h2
              rw [← HLE.out, List.take_length] at h1
              omega
            subst hnn
            go_wp2
            go_ret
            exact ⟨rfl, HF4.out.k⟩

end Go.Proofs.YtbbfibgijackhaaDoor

namespace Go.Proofs.YtbbfibgijackhaaDoor
open Go.ChangeShapes Go.WideShapes Go.ChangeAt Go.RowKit

theorem cells_int : Tryd.prog.cellsOf 3 = 1 := by kernel_rfl
theorem cells_run : Tryd.prog.cellsOf 33 = 3 := by kernel_rfl
theorem cells_clock : Tryd.prog.cellsOf 23 = 1 := by kernel_rfl
theorem wf_i64 {z : Int} (h : (Lit.int .i64 z).wf = true) : I64 z := by
  simp [Lit.wf] at h
  have hmin : IntKind.i64.min = -9223372036854775808 := by decide
  rw [hmin] at h
  have := h.2
  exact ⟨h.1, by omega⟩
theorem one_at {cs : List Value} {n : Nat} (i : Nat) (hl : cs.length = n) (hi : i < n) : ∃ y, cs[i]? = some y ∧ (cs.drop i).take 1 = [y] := by
  have hi' : i < cs.length := by omega
  exact ⟨cs[i], List.getElem?_eq_getElem hi', by rw [List.drop_eq_getElem_cons hi', List.take_succ_cons, List.take_zero]⟩
theorem three_at {cs : List Value} {a b c : Value} (hl : cs.length = 3) (h0 : cs[0]? = some a) (h1 : cs[1]? = some b) (h2 : cs[2]? = some c) : cs = [a, b, c] := by
  match cs, hl with
  | [x, y, z], _ =>
    have ea : x = a := by simpa using h0
    have eb : y = b := by simpa using h1
    have ec : z = c := by simpa using h2
    rw [ea, eb, ec]
section
variable {H : Type} {enc : TypeId × Value → H} {W : World}
theorem open_runcs {fuel : Nat} {cs : List Value} {x : DataW H × List MemPlace} (h : DataW.trod enc Tryd.prog W 0 (fun _ => true) true fuel 33 cs = some x) : ∃ q : RunQ, RunOk q ∧ cs = runL q := by
  obtain ⟨xs, k, _, _, hl, hxl, hfs⟩ := DataW.trod_struct Tryd.underlying33 h
  rw [cells_run] at hl
  match xs, hxl with
  | [y0, y1, y2], _ =>
    have g0 : DataW.trod enc Tryd.prog W 0 (fun _ => true) true k 3 ((cs.drop 0).take (Tryd.prog.cellsOf 3)) = some y0 := hfs 0 _ rfl
    have g1 : DataW.trod enc Tryd.prog W 0 (fun _ => true) true k 3 ((cs.drop 1).take (Tryd.prog.cellsOf 3)) = some y1 := hfs 1 _ rfl
    have g2 : DataW.trod enc Tryd.prog W 0 (fun _ => true) true k 3 ((cs.drop 2).take (Tryd.prog.cellsOf 3)) = some y2 := hfs 2 _ rfl
    rw [cells_int] at g0 g1 g2
    obtain ⟨c0, h0, e0⟩ := one_at 0 hl (by omega)
    obtain ⟨c1, h1, e1⟩ := one_at 1 hl (by omega)
    obtain ⟨c2, h2, e2⟩ := one_at 2 hl (by omega)
    rw [e0] at g0
    rw [e1] at g1
    rw [e2] at g2
    obtain ⟨z0, hz0, _, hw0⟩ := DataW.trod_int Tryd.underlying3 g0
    obtain ⟨z1, hz1, _, hw1⟩ := DataW.trod_int Tryd.underlying3 g1
    obtain ⟨z2, hz2, _, hw2⟩ := DataW.trod_int Tryd.underlying3 g2
    simp only [List.cons.injEq, and_true] at hz0 hz1 hz2
    subst hz0 hz1 hz2
    exact ⟨(z0, z1, z2), ⟨wf_i64 hw0, wf_i64 hw1, wf_i64 hw2⟩, three_at hl h0 h1 h2⟩
theorem cl_rows {v : Value} {c : List RunQ} (ho : ∀ q ∈ c, RunOk q) (h : RowsSl runL (0, 0, 0) 3 W v c) : ClSl W v c := ⟨runAt_ok ho, h⟩
set_option maxRecDepth 100000 in
theorem open_clockv {base : Nat} {v : Value} {d : DataW H} {p : List MemPlace} (hv : Value.okWide Tryd.prog W .any base 23 v)
    (h : DataW.Trod enc Tryd.prog W 0 (fun _ => true) true 23 v d p) : ∃ c, ClSl W v c := by
  obtain ⟨fu, hf⟩ := h
  obtain ⟨y0, len0, cap0, rfl⟩ := okWide_slice Tryd.underlying23 hv
  obtain ⟨c, ho, hS⟩ := open_rows runL (0, 0, 0) RunOk 3 cells_run (by decide) (fun _ _ _ h => open_runcs h) Tryd.underlying23 hf
  exact ⟨c, cl_rows ho hS⟩
set_option maxRecDepth 100000 in
theorem clock_in {base : Nat} {v : Value} (hv : Value.okWide Tryd.prog W .any base 23 v) : ∀ g, v.ownBlock = some g → g < W.heap.size := by
  obtain ⟨y0, len0, cap0, rfl⟩ := okWide_slice Tryd.underlying23 hv
  intro g hg
  cases y0 with
  | none => simp [Value.ownBlock] at hg
  | some a =>
    have e : a.block = g := by simpa [Value.ownBlock] using hg
    subst e
    simp only [Value.okWide, Tryd.underlying23, Cell.okWide, Cell.ok] at hv
    obtain ⟨_, _, row, cells, hs, _⟩ := hv.2.2
    rcases Nat.lt_or_ge a.block W.heap.size with h | h
    · exact h
    · exfalso
      have : W.heap[a.block]? = none := Array.getElem?_eq_none h
      simp [World.shape?, this] at hs
end

/-- What the rows list. -/
abbrev dtLaid : List (String × DataW Unit) := [("math/bits.deBruijn32tab", Rows.laid_math_bits_deBruijn32tab), ("math/bits.deBruijn64tab", Rows.laid_math_bits_deBruijn64tab), ("internal/strconv.uint64pow10", Rows.laid_internal_strconv_uint64pow10), ("unicode/utf8.acceptRanges", Rows.laid_unicode_utf8_acceptRanges), ("strconv.ErrRange", Rows.laid_strconv_ErrRange), ("strconv.ErrSyntax", Rows.laid_strconv_ErrSyntax), ("unicode/utf8.first", Rows.laid_unicode_utf8_first)]
theorem pow10_data : (Rows.laid_internal_strconv_uint64pow10 : DataW Unit) = Lib.tabData .u64 Lib.pow10Tab := by
  unfold Rows.laid_internal_strconv_uint64pow10 Lib.tabData
  rfl
theorem gPow : ∃ g, Tryd.prog.globalNamed "internal/strconv.uint64pow10" = some g ∧ (Tryd.prog.globals[g]?).map (·.type) = some 144 := ⟨_, rfl, by kernel_rfl⟩
theorem cells_pow : Tryd.prog.cellsOf 144 = 20 := by kernel_rfl
theorem cells_u64 : Tryd.prog.cellsOf 69 = 1 := by kernel_rfl
set_option maxRecDepth 100000 in
theorem tab_of_laid {W : World} (h : laidMetH Tryd.prog dtLaid W) : Tab W := by
  rw [MakeChecks.laidMetH_plain _ _ _ (by kernel_rfl)] at h
  obtain ⟨ps, ⟨g0, t0, cs0, f0, p0, q0, hg0, ht0, hv0, hd0, ⟨g1, t1, cs1, f1, p1, q1, hg1, ht1, hv1, hd1, ⟨g2, t2, cs2, f2, p2, q2, hg2, ht2, hv2, hd2, _, _⟩, _⟩, _⟩, _, _⟩ := h
  obtain ⟨g, hg, ht⟩ := gPow
  obtain rfl := Option.some.inj (hg.symm.trans hg2)
  obtain rfl := Option.some.inj (ht.symm.trans ht2)
  rw [pow10_data] at hd2
  have e := Lib.cells_of_tab Tryd.underlying144 Tryd.underlying69 cells_u64 cells_pow hd2
  unfold Tab Lib.TabIs
  rw [hv2, ← e]
theorem mx_of_shape {W : World} (h : W.ShapedOpen Tryd.prog) : Mx W := Tryd.laysM143.s1_3 W h
/-- The start's own heap meets the condition. -/
theorem laid_met (os : Os) (args : Array Value) : laidMetH Tryd.prog dtLaid ((World.laidAll Tryd.prog os dtLaid).forCall (fun _ _ => 0) ⟨#[], args, []⟩).memory := by
  rw [MakeChecks.laidMetH_plain _ _ _ (by kernel_rfl)]
  exact laidMet_laidAll _ (by kernel_rfl) (by kernel_rfl)
/-- A row's claim out of a contract that is handed the listed tables and the world's shape. -/
theorem handed_dt {H : Type} {enc : TypeId × Value → H} {C : Checked} {l : List (String × DataW Unit)} {os : Os} {f : FuncId} {fn : Func} {s : ChangeSpec} (own : ownKnob C.prog.godebug = none) (started : os.Started) (noInit : C.prog.inits.idxOf? f = none) (hfn : C.prog.funcs[f]? = some fn)
    (witness : ∃ (w : World) (tape : Tape) (i : Input), w.os = os ∧ (w.forCall tape i).Shaped C.prog ∧ i.vars = [] ∧ Input.okWide C.prog (w.forCall tape i) .any w.heap.size f i ∧
      ((s.pre enc C.prog fn [] false (w.forCall tape i).memory i.args ∧ laidMetH C.prog l (w.forCall tape i).memory) ∧ sizedMet enc C.prog fn (OpenSpec.ofChange s) false (w.forCall tape i).memory i.args) ∧
        Assume.holds {} C.prog (lone (Frame.enter C.prog f i.args .normal) [] (w.forCall tape i)))
    (contract : ∀ (W : World) (base : Nat) (args : Array Value) (ds gs : List (DataW H)) (before : List MemPlace),
      (∀ (j : Nat) t v, fn.params[j]? = some t → args[j]? = some v → Value.okWide C.prog W .any base t v) →
      DataW.Whole enc C.prog fn.params.toList s.vars false W args.toList ds gs before →
      laidMetH C.prog l W → W.ShapedOpen C.prog →
      Calls C.prog f args W fun e W' => ∃ v, e = .returned v ∧ s.post enc C.prog fn false true false false W args v W') :
    ReturnsInHanded {} C os f .any (fun w args => (s.pre enc C.prog fn [] false w args ∧ laidMetH C.prog l w) ∧ sizedMet enc C.prog fn (OpenSpec.ofChange s) false w args) (s.post enc C.prog fn false true false false) := by
  refine returnsInHanded_of_calls own started noInit witness ?_
  intro w tape i _ hsh _ hok hpre _
  obtain ⟨_, _, _, fn', hfn', _, _, _, _, hval⟩ := hok
  obtain rfl : fn' = fn := Option.some.inj (hfn'.symm.trans hfn)
  obtain ⟨⟨⟨ds, gs, before, hw, _⟩, hl⟩, _⟩ := hpre
  have hw' : DataW.Whole enc C.prog fn'.params.toList s.vars false (w.forCall tape i) i.args.toList ds gs before := DataW.Whole.of_heap (w' := w.forCall tape i) (by rfl) hw
  have hl' : laidMetH C.prog l (w.forCall tape i) := laidMetH.of_heap (w' := w.forCall tape i) (by rfl) hl
  refine (contract (w.forCall tape i) w.heap.size i.args ds gs before hval hw' hl' hsh).mono fun e W' ⟨v, he, hp⟩ => ?_
  subst he
  exact ChangeSpec.post_blind hp

end Go.Proofs.YtbbfibgijackhaaDoor

namespace Go.Proofs.YtbbfibgijackhaaDoor
open Go.ChangeShapes Go.WideShapes Go.ChangeAt Go.RowKit

theorem cells_dot : Tryd.prog.cellsOf 25 = 2 := by kernel_rfl
theorem cells_case : Tryd.prog.cellsOf 27 = 5 := by kernel_rfl
theorem two_at {cs : List Value} {a b : Value} (hl : cs.length = 2) (h0 : cs[0]? = some a) (h1 : cs[1]? = some b) : cs = [a, b] := by
  match cs, hl with
  | [x, y], _ =>
    have ea : x = a := by simpa using h0
    have eb : y = b := by simpa using h1
    rw [ea, eb]
theorem five_at {cs : List Value} {a b c d e : Value} (hl : cs.length = 5) (h0 : cs[0]? = some a) (h1 : cs[1]? = some b) (h2 : cs[2]? = some c) (h3 : cs[3]? = some d) (h4 : cs[4]? = some e) : cs = [a, b, c, d, e] := by
  match cs, hl with
  | [v, x, y, z, u], _ =>
    have ea : v = a := by simpa using h0
    have eb : x = b := by simpa using h1
    have ec : y = c := by simpa using h2
    have ed : z = d := by simpa using h3
    have ee : u = e := by simpa using h4
    rw [ea, eb, ec, ed, ee]
section
variable {H : Type} {enc : TypeId × Value → H} {W : World}
theorem open_dotcs {fuel : Nat} {cs : List Value} {x : DataW H × List MemPlace} (hl : cs.length = 2) (h : DataW.trod enc Tryd.prog W 0 (fun _ => true) true fuel 25 cs = some x) : ∃ q : DotQ, DotOk q ∧ cs = dotL q := by
  obtain ⟨xs, k, _, _, _, hxl, hfs⟩ := DataW.trod_struct Tryd.underlying25 h
  match xs, hxl with
  | [y0, y1], _ =>
    have g0 : DataW.trod enc Tryd.prog W 0 (fun _ => true) true k 3 ((cs.drop 0).take (Tryd.prog.cellsOf 3)) = some y0 := hfs 0 _ rfl
    have g1 : DataW.trod enc Tryd.prog W 0 (fun _ => true) true k 3 ((cs.drop 1).take (Tryd.prog.cellsOf 3)) = some y1 := hfs 1 _ rfl
    rw [cells_int] at g0 g1
    obtain ⟨c0, h0, e0⟩ := one_at 0 hl (by omega)
    obtain ⟨c1, h1, e1⟩ := one_at 1 hl (by omega)
    rw [e0] at g0
    rw [e1] at g1
    obtain ⟨z0, hz0, _, hw0⟩ := DataW.trod_int Tryd.underlying3 g0
    obtain ⟨z1, hz1, _, hw1⟩ := DataW.trod_int Tryd.underlying3 g1
    simp only [List.cons.injEq, and_true] at hz0 hz1
    subst hz0 hz1
    exact ⟨(z0, z1), ⟨wf_i64 hw0, wf_i64 hw1⟩, two_at hl h0 h1⟩
theorem open_dotcs' {fuel : Nat} {cs : List Value} {x : DataW H × List MemPlace} (h : DataW.trod enc Tryd.prog W 0 (fun _ => true) true fuel 25 cs = some x) : ∃ q : DotQ, DotOk q ∧ cs = dotL q := by
  obtain ⟨xs, k, _, _, hl, hxl, hfs⟩ := DataW.trod_struct Tryd.underlying25 h
  rw [cells_dot] at hl
  exact open_dotcs hl h
set_option maxRecDepth 100000 in
theorem open_dotsv {base : Nat} {v : Value} {d : DataW H} {p : List MemPlace} (hv : Value.okWide Tryd.prog W .any base 30 v)
    (h : DataW.Trod enc Tryd.prog W 0 (fun _ => true) true 30 v d p) : ∃ l, RowsSl dotL (0, 0) 2 W v l := by
  obtain ⟨fu, hf⟩ := h
  obtain ⟨y0, len0, cap0, rfl⟩ := okWide_slice Tryd.underlying30 hv
  obtain ⟨c, _, hS⟩ := open_rows dotL (0, 0) DotOk 2 cells_dot (by decide) (fun _ _ _ h => open_dotcs' h) Tryd.underlying30 hf
  exact ⟨c, hS⟩
set_option maxRecDepth 100000 in
theorem open_casev {base : Nat} {v : Value} {d : DataW H} {p : List MemPlace} (hv : Value.okWide Tryd.prog W .any base 27 v)
    (h : DataW.Trod enc Tryd.prog W 0 (fun _ => true) true 27 v d p) : ∃ (va vb : Value) (a b : List RunQ) (dn dd nd : Int), v = caseV va vb dn dd nd ∧ ClSl W va a ∧ ClSl W vb b ∧ I64 dn ∧ I64 dd ∧ I64 nd := by
  obtain ⟨cs, rfl, hsz⟩ := okWide_struct Tryd.underlying27 hv
  obtain ⟨fuel, hf⟩ := h
  obtain ⟨xs, k, _, _, hl, hxl, hfs⟩ := DataW.trod_struct Tryd.underlying27 hf
  simp only [Value.cells] at hl hfs
  rw [cells_case] at hl
  match xs, hxl with
  | [y0, y1, y2, y3], _ =>
    have g0 : DataW.trod enc Tryd.prog W 0 (fun _ => true) true k 23 ((cs.toList.drop 0).take (Tryd.prog.cellsOf 23)) = some y0 := hfs 0 _ rfl
    have g1 : DataW.trod enc Tryd.prog W 0 (fun _ => true) true k 23 ((cs.toList.drop 1).take (Tryd.prog.cellsOf 23)) = some y1 := hfs 1 _ rfl
    have g2 : DataW.trod enc Tryd.prog W 0 (fun _ => true) true k 25 ((cs.toList.drop 2).take (Tryd.prog.cellsOf 25)) = some y2 := hfs 2 _ rfl
    have g3 : DataW.trod enc Tryd.prog W 0 (fun _ => true) true k 3 ((cs.toList.drop 4).take (Tryd.prog.cellsOf 3)) = some y3 := hfs 3 _ rfl
    rw [cells_clock] at g0 g1
    rw [cells_dot] at g2
    rw [cells_int] at g3
    obtain ⟨c0, h0, e0⟩ := one_at 0 hl (by omega)
    obtain ⟨c1, h1, e1⟩ := one_at 1 hl (by omega)
    obtain ⟨c4, h4, e4⟩ := one_at 4 hl (by omega)
    rw [e0] at g0
    rw [e1] at g1
    rw [e4] at g3
    obtain ⟨z, hz, _, hw⟩ := DataW.trod_int Tryd.underlying3 g3
    simp only [List.cons.injEq, and_true] at hz
    subst hz
    obtain ⟨a, ao, aS⟩ := open_rows runL (0, 0, 0) RunOk 3 cells_run (by decide) (fun _ _ _ h => open_runcs h) Tryd.underlying23 g0
    obtain ⟨b, bo, bS⟩ := open_rows runL (0, 0, 0) RunOk 3 cells_run (by decide) (fun _ _ _ h => open_runcs h) Tryd.underlying23 g1
    obtain ⟨q, hq, eq⟩ := open_dotcs' g2
    have h2 : cs.toList[2]? = some (.int .i64 q.1) := by
      have := congrArg (fun l => l[0]?) eq
      simpa [dotL, List.getElem?_take, List.getElem?_drop] using this
    have h3 : cs.toList[3]? = some (.int .i64 q.2) := by
      have := congrArg (fun l => l[1]?) eq
      simpa [dotL, List.getElem?_take, List.getElem?_drop] using this
    have e : cs.toList = [c0, c1, .int .i64 q.1, .int .i64 q.2, .int .i64 z] := five_at hl h0 h1 h2 h3 h4
    exact ⟨c0, c1, a, b, q.1, q.2, z, by unfold caseV; congr 1; exact Array.toList_inj.1 e, cl_rows ao aS, cl_rows bo bS, hq.1, hq.2, wf_i64 hw⟩
end

end Go.Proofs.YtbbfibgijackhaaDoor

namespace Go.Proofs.YtbbfibgijackhaaDoor
open Go.ChangeShapes Go.WideShapes Go.ChangeAt Go.RowKit

set_option maxRecDepth 100000 in
theorem dmiss_lifted (os : Os) (started : os.Started) (H : Type) (enc : TypeId × Value → H) :
    ReturnsInHanded {} Tryd.checked os 3 .any (fun w args => (Rows.dotMissingSpec.pre enc Tryd.prog Tryd.f3 [] false w args ∧ laidMetH Tryd.prog dtLaid w) ∧ sizedMet enc Tryd.prog Tryd.f3 (OpenSpec.ofChange Rows.dotMissingSpec) false w args)
      (Rows.dotMissingSpec.post enc Tryd.prog Tryd.f3 false true false false) := by
  refine handed_dt (C := Tryd.checked) own started (by kernel_rfl) Tryd.func3
    (ChangeSpec.witness_shaped (enc := enc) (C := Tryd.checked) (os := os) (X := fun w _ => laidMetH Tryd.prog dtLaid w) false (World.laidAll Tryd.prog os dtLaid) #[.agg #[.slice none 0 0, .slice none 0 0, .int .i64 0, .int .i64 0, .int .i64 0], .int .i64 0] 8 (World.laidAll_os _ _ _)
      (World.shaped_of_ZipB (by kernel_rfl) (by kernel_rfl)) (by kernel_rfl) (by kernel_rfl) (by kernel_rfl) (laid_met os _)) ?_
  intro W base args ds gs before hval0 hW hL hsh
  have hval : ∀ (j : Nat) t v, Tryd.f3.params[j]? = some t → args[j]? = some v → Value.okWide Tryd.prog W .any base t v := hval0
  have hW' := hW
  obtain ⟨p, q, hA0, hV, rfl, hfz, hnd⟩ := hW
  have hA : DataW.TrodAll enc Tryd.prog W 0 (fun _ => true) true Tryd.f3.params.toList args.toList ds p := hA0
  rw [Tryd.params3] at hA hval
  obtain ⟨v0, vs0, d0, ds0, p0, q0, hargs, rfl, rfl, h0, r0⟩ := trodAll_cons hA
  obtain ⟨v1, vs1, d1, ds1, p1, q1, rfl, rfl, rfl, h1, r1⟩ := trodAll_cons r0
  obtain ⟨rfl, rfl, rfl⟩ := trodAll_nil r1
  obtain rfl : args = #[v0, v1] := by cases args; simp_all
  obtain ⟨rfl, rfl⟩ := trodVars_none hV
  have lt0 : ∀ x ∈ p0, x.block < W.heap.size := by obtain ⟨m, hm⟩ := h0; exact DataW.trod_lt m _ _ _ hm
  have lt1 : ∀ x ∈ p1, x.block < W.heap.size := by obtain ⟨m, hm⟩ := h1; exact DataW.trod_lt m _ _ _ hm
  obtain ⟨va, vb, a, b, dn, dd, nd, rfl, S0, S1, I0, I1, _⟩ := open_casev (hval 0 27 v0 rfl rfl) h0
  obtain ⟨z, rfl, rfl, rfl, wz⟩ := open_int Tryd.underlying3 (hval 1 3 v1 rfl rfl) h1
  have ht := tab_of_laid hL
  have hm := mx_of_shape hsh
  clear hA0 hval0
  refine (dmiss_any va vb a b dn dd nd z W S0 S1 ht hm).mono fun e W' ⟨he, kp⟩ => ?_
  subst he
  have bel : Below W.heap.size W W' := kp.below (Nat.le_refl _) (fun _ _ h => h)
  exact ⟨_, rfl, _, _, _, [], _, [], hW', trodAll_mk1 (shut_bool Tryd.underlying4 _), (trodAll_cons_mk (Below.trod laidOut (by kernel_rfl) (of_decide_eq_true (by kernel_rfl)) h0 bel lt0) (trodAll_cons_mk (Below.trod laidOut (by kernel_rfl) (of_decide_eq_true (by kernel_rfl)) h1 bel lt1) trodAll_mk0)), rfl, bel.frame _, fun h => by cases h⟩

theorem dmiss_over : Rows.dotMissingRow.holds Tryd.pinned (OpenSpec.ofChange Rows.dotMissingSpec) :=
  OpenClaim.holds_of_wide 3 Tryd.f3 rfl rfl rfl rfl rfl rfl rfl ⟨rfl, rfl, rfl, rfl, rfl⟩ rfl rfl rfl rfl rfl (by kernel_rfl) Tryd.func3 (by kernel_rfl)
    (of_decide_eq_true (by kernel_rfl)) (by unfold Func.isWrapper; first | (rw [if_pos (by decide +kernel)]; kernel_rfl) | (rw [if_neg (by decide +kernel)]; exact ⟨rfl, rfl⟩))
    (fun os started H enc _ => dmiss_lifted os started H enc)

theorem dmiss_said : Rows.DotMissingCardSaid :=
  Claim7.holds_tied_plain_at .later [] [.data, .data, .data, .data, .sentinel, .sentinel, .pinned] true _ true
    dmiss_over (fun _ h => by cases h) (by kernel_rfl) (fun _ h => by cases h) dotMissing_row_tie rfl ⟨rfl, rfl⟩ (by kernel_rfl) rfl
    (fun f fn hf hfn => by
      obtain rfl : f = 3 := Option.some.inj ((show Tryd.prog.funcNamed "gleanings/gleaningslaw03.DotMissing" = some 3 by kernel_rfl).symm.trans hf) |>.symm
      obtain rfl : fn = Tryd.f3 := (Option.some.inj (Tryd.func3.symm.trans hfn)).symm
      exact ⟨by kernel_rfl, fun j t ht => by
        rw [Tryd.params3] at ht
        have hm : t ∈ [27, 3] := by simpa using Array.mem_of_getElem? ht
        have hall : ([27, 3].all fun u => !Tryd.prog.wantsStandIn u) = true := by kernel_rfl
        exact (show Tryd.prog.wantsStandIn t = false by simpa using List.all_eq_true.1 hall t hm)⟩)
    (by kernel_rfl)
end Go.Proofs.YtbbfibgijackhaaDoor
