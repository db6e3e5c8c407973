/-
  Layer 3: within, Has, Count, Of. Conditions: what these types hold; at most 2^20 runs.
-/
import Derived.Test.YtbbfibgijackhaaGreatDoorDtB
namespace Go.Proofs.YtbbfibgijackhaaGreatDoor
open Go.RowKit

def inR (r q : RunQ) : Bool := decide (r.1 = q.1 ∧ r.2.1 ≤ q.2.1 ∧ q.2.2 ≤ r.2.2)
def withinB (c : List RunQ) (q : RunQ) : Bool := c.any fun r => inR r q
theorem runAt_mem {c : List RunQ} {i : Nat} (hi : i < c.length) : runAt c i ∈ c := by unfold runAt; rw [List.getElem?_eq_getElem hi]; exact List.getElem_mem hi
theorem withinB_yes {c : List RunQ} {q : RunQ} {k : Nat} (hk : k < c.length) (h : inR (runAt c k) q = true) : withinB c q = true := List.any_eq_true.2 ⟨_, runAt_mem hk, h⟩
theorem withinB_no {c : List RunQ} {q : RunQ} (h : ∀ j, j < c.length → inR (runAt c j) q = false) : withinB c q = false := by
  cases e : withinB c q with
  | false => rfl
  | true =>
    obtain ⟨r, hr, hi⟩ := List.any_eq_true.1 e
    obtain ⟨i, hl, rfl⟩ := List.mem_iff_getElem.1 hr
    have := h i hl
    unfold runAt at this
    rw [List.getElem?_eq_getElem hl, Option.getD_some] at this
    rw [this] at hi
    cases hi
def hasC (c : List RunQ) (n d : Int) : Bool := rightC c && goodB n d && withinB c (n, d, d)
def WiR (w : World) (N : Nat) (c : List RunQ) (q : RunQ) (i : Value) (wr : World) : Prop := ∃ k : Nat, k ≤ c.length ∧ i = .int .i64 k ∧ Hid (∀ j, j < k → inR (runAt c j) q = false) ∧ Hid (Blk wr N 61 (runL q)) ∧ Hid (Kp Nb w wr)
set_option maxRecDepth 100000 in
set_option maxHeartbeats 4000000 in
theorem within_any (v : Value) (c : List RunQ) (q : RunQ) (w : World) (hs : ClSl w v c) (hbig : c.length ≤ 1048576) : Calls Tryz.prog 40 #[v, runV q] w fun e w' => e = .returned (.bool (withinB c q)) ∧ Kp Nb w w' := by
  obtain ⟨an, af, aT⟩ := q
  obtain ⟨y, d, rfl⟩ := hs.shape
  obtain ⟨L, hL⟩ : ∃ L, c.length = L := ⟨_, rfl⟩
  obtain ⟨N, hN⟩ : ∃ N, w.heap.size = N := ⟨_, rfl⟩
  obtain ⟨W, hW⟩ : ∃ W, W = w.alloc (.cells (runL (an, af, aT)).toArray 61) := ⟨_, rfl⟩
  have HB0 : Hid (Blk W N 61 (runL (an, af, aT))) := hid (by rw [hW, ← hN]; exact Blk.new w _ _)
  have K0 : Hid (Kp Nb w W) := hid (by rw [hW]; exact (Kp.refl Nb w).alloc _)
  have HLE := hid hL
  rw [hL] at hs hbig ⊢
  have HS := hid hs
  clear hL hs
  go_enter Tryz.func40, Tryz.ntmps40
  go_wp2_with fail
  rw [show w.alloc (.cells #[.int .i64 an, .int .i64 af, .int .i64 aT] 61) = W from hW.symm]
  clear hW hN
  go_loopw [9] (WiR w N c (an, af, aT)) (fun i _ => L - (intOf i).toNat)
  case atStart => exact ⟨0, Nat.zero_le _, rfl, hid (fun j hj => absurd hj (Nat.not_lt_zero _)), HB0, K0⟩
  case round =>
    clear HB0 K0
    obtain ⟨k, hk, rfl, HJ, HBQ, HK⟩ := hrel
    rw [HLE.out] at hk
    by_cases hlt : k < L
    · obtain ⟨blk, off, cap, e1, hc, hm, hcell⟩ := cl_shape (HS.out.kept HK.out) (by intro h; have := HLE.out; rw [h, List.length_nil] at this; omega)
      rw [HLE.out] at e1 hc hcell
      injection e1 with e1 _ e2
      subst e1 e2
      have HR := hid (hcell k hlt)
      obtain ⟨⟨qn, qf, qt⟩, hq⟩ : ∃ q, runAt c k = q := ⟨_, rfl⟩
      have HOK := HS.out.1 k
      rw [hq] at HR HOK
      have HQ := hid hq
      obtain ⟨M, hM⟩ : ∃ M, wr.heap.size = M := ⟨_, rfl⟩
      obtain ⟨W2, hW2⟩ : ∃ W, W = (wr.alloc (.cells (runL (0, 0, 0)).toArray 61)).setCells M 0 (runL (qn, qf, qt)) := ⟨_, rfl⟩
      have hz := Blk.new wr 61 (runL (0, 0, 0))
      rw [hM] at hz
      have KW : Hid (Kp Nb wr W2) := hid (by rw [hW2]; exact Kp.setCells (fun h => absurd h (by omega)) _ 0 _ ((Kp.refl Nb wr).alloc _))
      have HMW : Hid (wr.heap.size = M) := hid hM
      have TH := hid (run_there (q := (qn, qf, qt)) hz)
      have HZ : Hid (Blk W2 M 61 (runL (qn, qf, qt))) := hid (by rw [hW2]; exact row_set hz rfl)
      have HK2 := hid (HK.out.trans KW.out (fun _ _ h => h))
      unfold maxLen at hm
      obtain ⟨fs, hfs⟩ := under_run
      clear hz hcell hq
      go_upto_region 4 with (first
        | (refine wpList_load_mid (by rfl) 61 (.tmp 11) (by rfl) blk (off + k * 3) (by rfl) (runL (qn, qf, qt)) _ HR.out hfs rfl (run_infoL (qn, qf, qt)) ?_)
        | (refine wpList_store_mid (by rfl) 61 (.tmp 6) (.tmp 12) (by rfl) M 0 (runL (qn, qf, qt)).toArray (by rfl) (by rfl) TH.out (run_infoA (qn, qf, qt)) (run_one (qn, qf, qt)) ?_))
      rw [show (wr.alloc (.cells #[.int .i64 0, .int .i64 0, .int .i64 0] 61)).setCells M 0 (runL (qn, qf, qt)) = W2 from hW2.symm]
      clear hW2 TH hM
      have c0 : W2.cell? ⟨M, 0, none⟩ = some (.int .i64 qn) := HZ.out.cell 0
      have c1 : W2.cell? ⟨M, 1, none⟩ = some (.int .i64 qf) := HZ.out.cell 1
      have c2 : W2.cell? ⟨M, 2, none⟩ = some (.int .i64 qt) := HZ.out.cell 2
      have HBQ2 := hid (HBQ.out.kept KW.out (fun h => h))
      have d0 : World.cell? W2 ⟨N, 0, none⟩ = some (.int .i64 an) := HBQ2.out.cell 0
      have d1 : World.cell? W2 ⟨N, 1, none⟩ = some (.int .i64 af) := HBQ2.out.cell 1
      have d2 : World.cell? W2 ⟨N, 2, none⟩ = some (.int .i64 aT) := HBQ2.out.cell 2
      have NX : Hid (inR (qn, qf, qt) (an, af, aT) = false → ∀ j, j < k + 1 → inR (runAt c j) (an, af, aT) = false) := hid (fun h j hj => by
        by_cases hj2 : j < k
        · exact HJ.out j hj2
        · obtain rfl : j = k := by omega
          rw [HQ.out]; exact h)
      clear KW
      by_cases h1 : qn = an
      · subst h1
        by_cases h2 : qf ≤ af
        · by_cases h3 : aT ≤ qt
          · have HY : Hid (withinB c (qn, af, aT) = true) := hid (withinB_yes (by rw [HLE.out]; exact hlt) (by rw [HQ.out]; unfold inR; simp [h2, h3]))
            go_wp2
            go_ret
            exact ⟨by rw [HY.out]; rfl, HK2.out⟩
          · have NX := hid (NX.out (by unfold inR; simp [h3]))
            go_wp2
            go_roundw
            case rel => exact ⟨k + 1, by rw [HLE.out]; omega, by go_num, NX, HBQ2, HK2⟩
            case measure => simp [intOf]; omega
        · have NX := hid (NX.out (by unfold inR; simp [h2]))
          go_wp2
          go_roundw
          case rel => exact ⟨k + 1, by rw [HLE.out]; omega, by go_num, NX, HBQ2, HK2⟩
          case measure => simp [intOf]; omega
      · have NX := hid (NX.out (by unfold inR; simp [h1]))
        go_wp2
        go_roundw
        case rel => exact ⟨k + 1, by rw [HLE.out]; omega, by go_num, NX, HBQ2, HK2⟩
        case measure => simp [intOf]; omega
    · obtain rfl : k = L := by omega
      have HT : Hid (withinB c (an, af, aT) = false) := hid (withinB_no fun j hj => HJ.out j (by rw [HLE.out] at hj; exact hj))
      go_wp2
      go_ret
      exact ⟨by rw [HT.out]; rfl, HK.out⟩
set_option maxRecDepth 100000 in
set_option maxHeartbeats 1000000 in
theorem has_any (v : Value) (c : List RunQ) (n d : Int) (w : World) (hs : ClSl w v c) (hbig : c.length ≤ 1048576) : Calls Tryz.prog 13 #[v, dotV n d] w fun e w' => e = .returned (.bool (hasC c n d)) ∧ Kp Nb w w' := by
  obtain ⟨y, dc, rfl⟩ := hs.shape
  obtain ⟨L, hL⟩ : ∃ L, c.length = L := ⟨_, rfl⟩
  obtain ⟨N, hN⟩ : ∃ N, w.heap.size = N := ⟨_, rfl⟩
  obtain ⟨W, hW⟩ : ∃ W, W = w.alloc (.cells #[.int .i64 n, .int .i64 d] 25) := ⟨_, rfl⟩
  have HB0 : Hid (Blk W N 25 [.int .i64 n, .int .i64 d]) := hid (by rw [hW, ← hN]; exact Blk.new w _ _)
  have K0 : Hid (Kp Nb w W) := hid (by rw [hW]; exact (Kp.refl Nb w).alloc _)
  have HLE := hid hL
  rw [hL] at hs hbig ⊢
  have HS := hid (hs.kept K0.out)
  have HBG := hid hbig
  obtain ⟨rb, hrb⟩ : ∃ b, rightC c = b := ⟨_, rfl⟩
  obtain ⟨gb, hgb⟩ : ∃ b, goodB n d = b := ⟨_, rfl⟩
  obtain ⟨wb, hwb⟩ : ∃ b, withinB c (n, d, d) = b := ⟨_, rfl⟩
  have HH : Hid (hasC c n d = (rb && gb && wb)) := hid (by unfold hasC; rw [hrb, hgb, hwb])
  have HRB := hid hrb
  have HGB := hid hgb
  have HWB := hid hwb
  clear hL hs hrb hgb hwb
  go_enter Tryz.func13, Tryz.ntmps13
  go_upto_region 1 with fail
  rw [← hW]
  clear hW hN
  go_wp2_with fail
  refine (dright_any _ c W HS.out (by have := HBG.out; have := HLE.out; omega)).mono ?_
  rintro r w1 ⟨rfl, k1⟩
  rw [HRB.out]
  have HB1 := hid (HB0.out.kept k1 (fun h => h))
  have K1 := hid (K0.out.trans k1 (fun _ _ h => h))
  have HS1 := hid (HS.out.kept k1)
  clear k1
  have c0 : w1.cell? ⟨N, 0, none⟩ = some (.int .i64 n) := HB1.out.cell 0
  have c1 : w1.cell? ⟨N, 1, none⟩ = some (.int .i64 d) := HB1.out.cell 1
  cases rb with
  | false =>
    go_wp2
    go_ret
    exact ⟨by rw [HH.out]; rfl, K1.out⟩
  | true =>
    go_wp2_with fail
    refine (good_any n d w1).mono ?_
    rintro r w2 ⟨rfl, k2⟩
    rw [HGB.out]
    have HB2 := hid (HB1.out.kept k2 (fun h => h))
    have K2 := hid (K1.out.trans k2 (fun _ _ h => h))
    have HS2 := hid (HS1.out.kept k2)
    clear k2 c0 c1
    have c0 : w2.cell? ⟨N, 0, none⟩ = some (.int .i64 n) := HB2.out.cell 0
    have c1 : w2.cell? ⟨N, 1, none⟩ = some (.int .i64 d) := HB2.out.cell 1
    cases gb with
    | false =>
      go_wp2
      go_ret
      exact ⟨by rw [HH.out]; rfl, K2.out⟩
    | true =>
      go_wp2_with fail
      refine (within_any _ c (n, d, d) w2 HS2.out (by have := HBG.out; have := HLE.out; omega)).mono ?_
      rintro r w3 ⟨rfl, k3⟩
      rw [HWB.out]
      have K3 := hid (K2.out.trans k3 (fun _ _ h => h))
      clear k3
      go_wp2
      go_ret
      exact ⟨by rw [HH.out]; cases wb <;> rfl, K3.out⟩

def sumC (c : List RunQ) : Int := (c.map fun r => r.2.2 - r.2.1 + 1).sum
def countC (c : List RunQ) : Int := if rightC c then sumC c else 0
theorem sumC_snoc (c : List RunQ) (k : Nat) (hk : k < c.length) : sumC (c.take (k + 1)) = sumC (c.take k) + ((runAt c k).2.2 - (runAt c k).2.1 + 1) := by
  unfold sumC runAt
  rw [List.take_succ_eq_append_getElem hk, List.map_append, List.sum_append, List.getElem?_eq_getElem hk]
  simp
def CoR (w : World) (c : List RunQ) (s i : Value) (wr : World) : Prop := ∃ k : Nat, k ≤ c.length ∧ s = .int .i64 (sumC (c.take k)) ∧ i = .int .i64 k ∧ Hid (0 ≤ sumC (c.take k) ∧ sumC (c.take k) ≤ 1099511627776 * (k : Int)) ∧ Hid (Kp Nb w wr)
set_option maxRecDepth 100000 in
set_option maxHeartbeats 4000000 in
theorem count_any (v : Value) (c : List RunQ) (w : World) (hs : ClSl w v c) (hbig : c.length ≤ 1048576) : Calls Tryz.prog 24 #[v] w fun e w' => e = .returned (.int .i64 (countC c)) ∧ Kp Nb w w' := by
  obtain ⟨y, d, rfl⟩ := hs.shape
  obtain ⟨L, hL⟩ : ∃ L, c.length = L := ⟨_, rfl⟩
  have HLE := hid hL
  rw [hL] at hs hbig ⊢
  have HS0 := hid hs
  have hb20 : L ≤ 1048576 := hbig
  obtain ⟨rb, hrb⟩ : ∃ b, rightC c = b := ⟨_, rfl⟩
  have HRB := hid hrb
  clear hL hs hrb
  go_enter Tryz.func24, Tryz.ntmps24
  go_wp2_with fail
  refine (dright_any _ c w HS0.out (by have := HLE.out; omega)).mono ?_
  rintro r w1 ⟨rfl, k1⟩
  rw [HRB.out]
  have K1 := hid k1
  have HS := hid (HS0.out.kept k1)
  clear k1
  cases rb with
  | false =>
    have HE : Hid (countC c = 0) := hid (by unfold countC; rw [HRB.out]; rfl)
    go_wp2
    go_ret
    exact ⟨by rw [HE.out]; rfl, K1.out⟩
  | true =>
    have HE : Hid (countC c = sumC c) := hid (by unfold countC; rw [HRB.out]; rfl)
    go_wp2_with fail
    go_loopw [3, 11] (CoR w1 c) (fun _ i _ => L - (intOf i).toNat)
    case atStart => exact ⟨0, Nat.zero_le _, by rw [List.take_zero]; rfl, rfl, hid (by rw [List.take_zero]; exact ⟨Int.le_refl _, Int.le_refl _⟩), hid (Kp.refl _ _)⟩
    case round =>
      obtain ⟨k, hk, rfl, rfl, HB, HK⟩ := hrel
      rw [HLE.out] at hk
      by_cases hlt : k < L
      · obtain ⟨blk, off, cap, e1, hc, hm, hcell⟩ := cl_shape (HS.out.kept HK.out) (by intro h; have := HLE.out; rw [h, List.length_nil] at this; omega)
        rw [HLE.out] at e1 hc hcell
        injection e1 with e1 _ e2
        subst e1 e2
        have HR := hid (hcell k hlt)
        obtain ⟨⟨qn, qf, qt⟩, hq⟩ : ∃ q, runAt c k = q := ⟨_, rfl⟩
        have HOK := HS.out.1 k
        rw [hq] at HR HOK
        have HQ := hid hq
        obtain ⟨M, hM⟩ : ∃ M, wr.heap.size = M := ⟨_, rfl⟩
        obtain ⟨W2, hW2⟩ : ∃ W, W = (wr.alloc (.cells (runL (0, 0, 0)).toArray 61)).setCells M 0 (runL (qn, qf, qt)) := ⟨_, rfl⟩
        have hz := Blk.new wr 61 (runL (0, 0, 0))
        rw [hM] at hz
        have KW : Hid (Kp Nb wr W2) := hid (by rw [hW2]; exact Kp.setCells (fun h => absurd h (by omega)) _ 0 _ ((Kp.refl Nb wr).alloc _))
        have HMW : Hid (wr.heap.size = M) := hid hM
        have TH := hid (run_there (q := (qn, qf, qt)) hz)
        have HZ : Hid (Blk W2 M 61 (runL (qn, qf, qt))) := hid (by rw [hW2]; exact row_set hz rfl)
        have HK2 := hid (HK.out.trans KW.out (fun _ _ h => h))
        unfold maxLen at hm
        obtain ⟨fs, hfs⟩ := under_run
        clear hz hcell hq
        go_upto_region 7 with (first
          | (refine wpList_load_mid (by rfl) 61 (.tmp 13) (by rfl) blk (off + k * 3) (by rfl) (runL (qn, qf, qt)) _ HR.out hfs rfl (run_infoL (qn, qf, qt)) ?_)
          | (refine wpList_store_mid (by rfl) 61 (.tmp 5) (.tmp 14) (by rfl) M 0 (runL (qn, qf, qt)).toArray (by rfl) (by rfl) TH.out (run_infoA (qn, qf, qt)) (run_one (qn, qf, qt)) ?_))
        rw [show (wr.alloc (.cells #[.int .i64 0, .int .i64 0, .int .i64 0] 61)).setCells M 0 (runL (qn, qf, qt)) = W2 from hW2.symm]
        clear hW2 TH hM
        have c0 : W2.cell? ⟨M, 0, none⟩ = some (.int .i64 qn) := HZ.out.cell 0
        have c1 : W2.cell? ⟨M, 1, none⟩ = some (.int .i64 qf) := HZ.out.cell 1
        have c2 : W2.cell? ⟨M, 2, none⟩ = some (.int .i64 qt) := HZ.out.cell 2
        have hg := (rightC_of.1 HRB.out k (by rw [HLE.out]; exact hlt)).1
        rw [HQ.out] at hg
        have hg := goodR_of.1 hg
        dsimp only at hg
        have hsn := sumC_snoc c k (by rw [HLE.out]; exact hlt)
        rw [HQ.out] at hsn
        dsimp only at hsn
        have HBo := HB.out
        obtain ⟨S, hS⟩ : ∃ S, sumC (c.take k) = S := ⟨_, rfl⟩
        rw [hS] at hsn HBo ⊢
        have hkk : (k : Int) ≤ 1048576 := by omega
        have HN : Hid (0 ≤ sumC (c.take (k + 1)) ∧ sumC (c.take (k + 1)) ≤ 1099511627776 * ((k + 1 : Nat) : Int)) := hid (by rw [hsn]; omega)
        have HSN := hid hsn
        clear hS HB KW hsn
        go_wp2
        go_roundw
        case rel => exact ⟨k + 1, by rw [HLE.out]; omega, by rw [HSN.out], by go_num, HN, HK2⟩
        case measure => simp [intOf]; omega
      · obtain rfl : k = L := by omega
        rw [List.take_of_length_le (by rw [HLE.out]; exact Nat.le_refl _)]
        go_wp2
        go_ret
        exact ⟨by rw [HE.out]; rfl, K1.out.trans HK.out (fun _ _ h => h)⟩

end Go.Proofs.YtbbfibgijackhaaGreatDoor
