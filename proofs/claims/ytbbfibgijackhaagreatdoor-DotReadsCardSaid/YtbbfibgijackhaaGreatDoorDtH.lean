/-
  Layer 3: less. Conditions: two right clocks; at most 2^20 runs each.
-/
import Derived.Test.YtbbfibgijackhaaGreatDoorDtHa
namespace Go.Proofs.YtbbfibgijackhaaGreatDoor
open Go.RowKit

/-- A row that grows doesn't come to lie in a run's own block, if what comes isn't that run. -/
theorem sep_grow {w w' : World} {B M n : Nat} {v v' : Value} {p q : RunQ} {rest : List RunQ} (hM : Blk w M 61 (runL p)) (hv : v.ownBlock ≠ some M) (hg : w.grownBy w' v.ownBlock) (ho : w'.ownsRow B 61 3 v' n (flatR runL (rest ++ [q]))) (hq : q ≠ p) : v'.ownBlock ≠ some M := by
  intro e
  have hm : Blk w' M 61 (runL p) := (hg.block M hM.lt (fun h => hv h.symm)).trans hM
  have hlen := ho.1
  rw [flat_len3, List.length_append, List.length_singleton] at hlen
  rcases ho.2 with ⟨rfl, _⟩ | ⟨g, cap, cur, rfl, hb, hgg, hnc, hmx, hs, ht⟩
  · simp [Value.ownBlock] at e
  · have eg : g = M := by simpa [Value.ownBlock] using e
    subst eg
    have h2 := hgg.symm.trans (show w'.heap[g]? = _ from hm)
    injection h2 with h2
    injection h2 with h2 _ _
    have hc : cur.toList = runL p := by rw [h2]
    have hcs : cur.size = 3 := by rw [← Array.length_toList, hc]; rfl
    have hn : n = 1 := by omega
    subst hn
    have hr : rest = [] := List.length_eq_zero_iff.1 (by omega)
    subst hr
    rw [hc] at ht
    have h3 : runL p = runL q := ht
    apply hq
    obtain ⟨p1, p2, p3⟩ := p
    obtain ⟨q1, q2, q3⟩ := q
    simp only [runL, List.cons.injEq, Value.int.injEq, true_and, and_true] at h3
    rw [h3.1, h3.2.1, h3.2.2]
def LsR (w1 : World) (B H : Nat) (al R : List RunQ) (u1 u5 i : Value) (wr : World) : Prop := ∃ (k : Nat) (hs rest : List RunQ), k ≤ al.length ∧ i = .int .i64 k ∧ Hid (lessN (al.drop k) hs rest = R) ∧ Hid (ClSl w1 u1 hs) ∧ Hid (hs.length ≤ H) ∧ Hid (∀ q ∈ hs, goodR q = true) ∧
  Hid (wr.ownsRow B 61 3 u5 rest.length (flatR runL rest)) ∧ Hid (∀ q ∈ rest, RunOk q) ∧ Hid (rest.length ≤ k * (H + 1)) ∧ Hid (Kp Nb w1 wr)
def LdR (w1 : World) (H : Nat) (r : RunQ) (hs : List RunQ) (W2 : World) (u : Value) (wr : World) : Prop := ∃ hs' : List RunQ, Hid (ClSl w1 u hs') ∧ Hid (dropH r hs' = dropH r hs) ∧ Hid (Kp Nb W2 wr) ∧ Hid (hs'.length ≤ H)
def LiR (w1 : World) (B M lr : Nat) (rn rt : Int) (hs' T : List RunQ) (u5 i : Value) (wr : World) : Prop := ∃ (j : Nat) (f : Int) (rest : List RunQ), j ≤ hs'.length ∧ i = .int .i64 j ∧ Hid (lessI (hs'.drop j) (rn, f, rt) rest = T) ∧ Hid (Blk wr M 61 (runL (rn, f, rt))) ∧
  Hid (wr.ownsRow B 61 3 u5 rest.length (flatR runL rest)) ∧ Hid (u5.ownBlock ≠ some M) ∧ Hid (1 ≤ f ∧ f ≤ 1099511627777) ∧ Hid (rest.length ≤ lr + j) ∧ Hid (Kp Nb w1 wr)
set_option maxRecDepth 100000 in
set_option maxHeartbeats 20000000 in
theorem less_any (va vb : Value) (al hv : List RunQ) (w : World) (ha : ClSl w va al) (hb : ClSl w vb hv) (la : al.length ≤ 1048576) (lb : hv.length ≤ 1048576) (ra : rightC al = true) (rb : rightC hv = true) :
    Calls Tryz.prog 45 #[va, vb] w fun e w' => ∃ v', e = .returned v' ∧ ClSl w' v' (lessC al hv) ∧ OwnV w v' w' ∧ Kp Nb w w' := by
  obtain ⟨pa, da, rfl⟩ := ha.shape
  obtain ⟨pb, db, rfl⟩ := hb.shape
  obtain ⟨L, hL⟩ : ∃ L, al.length = L := ⟨_, rfl⟩
  obtain ⟨H, hH⟩ : ∃ H, hv.length = H := ⟨_, rfl⟩
  obtain ⟨R, hR⟩ : ∃ R, lessN al hv [] = R := ⟨_, rfl⟩
  have HRE : Hid (lessC al hv = R) := hid hR
  have HLE := hid hL
  rw [hL] at ha la ⊢
  rw [hH] at lb ⊢
  have HSA := hid ha
  have HSB := hid hb
  have HGA := hid (right_good ra)
  have HGB := hid (right_good rb)
  have HJ0 := hid hR
  have HHE := hid hH
  have HLB := hid (show L ≤ 1048576 ∧ H ≤ 1048576 from ⟨la, lb⟩)
  have hLb := la
  obtain ⟨B, hB⟩ : ∃ B, w.heap.size = B := ⟨_, rfl⟩
  have HBE := hid hB
  clear ha hb hR hB hH hL la lb
  go_enter Tryz.func45, Tryz.ntmps45
  go_wp2
  refine wp_scope_straight ?_
  go_wp2
  refine wp_label ?_
  go_wp2
  go_loopw [1, 5, 12] (LsR w B H al R) (fun _ _ i _ => L - (intOf i).toNat)
  case atStart => exact ⟨0, hv, [], Nat.zero_le _, rfl, hid HJ0.out, hid (by rw [← HHE.out]; exact HSB.out), hid (by rw [HHE.out]; exact Nat.le_refl _), HGB, hid ⟨by simp [flatR], .inl ⟨rfl, rfl⟩⟩, hid (by simp), hid (by simp), hid (Kp.refl _ _)⟩
  case round =>
    obtain ⟨k, hs, rest, hk, rfl, HJ, HSH0, HHL, HHG, HO, HRO, HRL, HK⟩ := hrel
    rw [HLE.out] at hk
    obtain ⟨a5, c5, rfl⟩ := own_shape HO.out
    by_cases hlt : k < L
    · obtain ⟨blk, off, cap, e1, hc, hm, hcell⟩ := cl_shape (HSA.out.kept HK.out) (by intro h; have := HLE.out; rw [h, List.length_nil] at this; omega)
      rw [HLE.out] at e1 hc hcell
      injection e1 with e1 _ e2
      subst e1 e2
      have HR := hid (hcell k hlt)
      obtain ⟨⟨qn, qf, qt⟩, hq⟩ : ∃ q, runAt al k = q := ⟨_, rfl⟩
      have HOK := HSA.out.1 k
      rw [hq] at HR HOK
      have HQ := hid hq
      obtain ⟨M, hM⟩ : ∃ M, wr.heap.size = M := ⟨_, rfl⟩
      obtain ⟨W2, hW2⟩ : ∃ W, W = (wr.alloc (.cells (runL (0, 0, 0)).toArray 61)).setCells M 0 (runL (qn, qf, qt)) := ⟨_, rfl⟩
      have hz := Blk.new wr 61 (runL (0, 0, 0))
      rw [hM] at hz
      have KW : Hid (Kp Nb wr W2) := hid (by rw [hW2]; exact Kp.setCells (fun h => absurd h (by omega)) _ 0 _ ((Kp.refl Nb wr).alloc _))
      have HMW : Hid (wr.heap.size = M) := hid hM
      have TH := hid (run_there (q := (qn, qf, qt)) hz)
      have HZ : Hid (Blk W2 M 61 (runL (qn, qf, qt))) := hid (by rw [hW2]; exact row_set hz rfl)
      have HK2 := hid (HK.out.trans KW.out (fun _ _ h => h))
      unfold maxLen at hm
      obtain ⟨fs, hfs⟩ := under_run
      clear hz hcell hq
      go_wp2_with (first
        | (refine wpList_load_mid (by rfl) 61 (.tmp 14) (by rfl) blk (off + k * 3) (by rfl) (runL (qn, qf, qt)) _ HR.out hfs rfl (run_infoL (qn, qf, qt)) ?_)
        | (refine wpList_store_mid (by rfl) 61 (.tmp 7) (.tmp 15) (by rfl) M 0 (runL (qn, qf, qt)).toArray (by rfl) (by rfl) TH.out (run_infoA (qn, qf, qt)) (run_one (qn, qf, qt)) ?_))
      rw [show (wr.alloc (.cells #[.int .i64 0, .int .i64 0, .int .i64 0] 61)).setCells M 0 (runL (qn, qf, qt)) = W2 from hW2.symm]
      clear hW2 TH hM
      have c0 : W2.cell? ⟨M, 0, none⟩ = some (.int .i64 qn) := HZ.out.cell 0
      have c1 : W2.cell? ⟨M, 1, none⟩ = some (.int .i64 qf) := HZ.out.cell 1
      have c2 : W2.cell? ⟨M, 2, none⟩ = some (.int .i64 qt) := HZ.out.cell 2
      have hgq := HGA.out _ (runAt_mem (c := al) (i := k) (by rw [HLE.out]; exact hlt))
      rw [HQ.out] at hgq
      have HGQ := hid (goodR_of.1 hgq)
      have HO2 := hid (ownsRow_kpD HO.out KW.out)
      have HOM : Hid ((Value.slice a5 rest.length c5).ownBlock ≠ some M) := hid (fun e => by
        obtain ⟨-, o, ho, -⟩ := row_cells HO.out e
        have := (Array.getElem?_eq_some_iff.1 ho).1
        have := HMW.out
        omega)
      have hJN : lessN (al.drop (k + 1)) (dropH (qn, qf, qt) hs) (lessI (dropH (qn, qf, qt) hs) (qn, qf, qt) rest) = R := by
        have h := HJ.out
        have hd : al.drop k = (qn, qf, qt) :: al.drop (k + 1) := by
          have := List.drop_eq_getElem_cons (l := al) (i := k) (by rw [HLE.out]; exact hlt)
          rw [this]
          congr 1
          have := HQ.out
          unfold runAt at this
          rwa [List.getElem?_eq_getElem (by rw [HLE.out]; exact hlt), Option.getD_some] at this
        rw [hd] at h
        exact h
      have HMB : Hid (w.heap.size ≤ M) := hid (by have := HK.out.size; have := HMW.out; omega)
      have HJN := hid hJN
      clear hgq hJN HJ HO KW
      go_loopw [1] (LdR w H (qn, qf, qt) hs W2) (fun u _ => lenS u)
      case atStart => exact ⟨hs, HSH0, hid rfl, hid (Kp.refl _ _), HHL⟩
      case round =>
        obtain ⟨hs', HSH, HD, HKD, HLD⟩ := hrel
        obtain ⟨pu, cu, rfl⟩ := HSH.out.shape
        have hmem : ∀ q ∈ hs', goodR q = true → True := fun _ _ _ => trivial
        have HZD := hid (HZ.out.kept HKD.out (fun h => h))
        clear hmem c0 c1 c2
        have c0 : World.cell? wr ⟨M, 0, none⟩ = some (.int .i64 qn) := HZD.out.cell 0
        have c1 : World.cell? wr ⟨M, 1, none⟩ = some (.int .i64 qf) := HZD.out.cell 1
        have c2 : World.cell? wr ⟨M, 2, none⟩ = some (.int .i64 qt) := HZD.out.cell 2
        obtain ⟨nh, hnh⟩ : ∃ n, hs'.length = n := ⟨_, rfl⟩
        have HNH := hid hnh
        rw [hnh] at HSH
        rw [hnh]
        by_cases hh0 : nh = 0
        · have hnil : hs' = [] := List.length_eq_zero_iff.1 (by rw [HNH.out]; exact hh0)
          have HDR : Hid (dropH (qn, qf, qt) hs = hs') := hid (by rw [← HD.out, hnil]; rfl)
          subst hh0
          clear hnh hnil
          go_wp2_with fail
          go_quiet (fail)
          obtain ⟨wd, hwd⟩ : ∃ w, w = World.drewN wr nq := ⟨_, rfl⟩
          have HKD2 : Hid (Kp Nb W2 wd) := hid (by rw [hwd]; exact HKD.out.drewN _)
          rw [← hwd]
          clear hwd
          skip
          have HKW := hid (HK2.out.trans HKD2.out (fun _ _ h => h))
          have HZ3 := hid (HZ.out.kept HKD2.out (fun h => h))
          have HO3 := hid (ownsRow_kpD HO2.out HKD2.out)
          have HHL2 : Hid (hs'.length ≤ H) := hid (by have := dropH_le (qn, qf, qt) hs; rw [HDR.out] at this; have := HHL.out; omega)
          have HHG2 : Hid (∀ q ∈ hs', goodR q = true) := hid (fun q hq => HHG.out q (dropH_mem (r := (qn, qf, qt)) (by rw [HDR.out]; exact hq)))
          obtain ⟨T, hT⟩ : ∃ T, lessI hs' (qn, qf, qt) rest = T := ⟨_, rfl⟩
          have HJT : Hid (lessN (al.drop (k + 1)) hs' T = R) := hid (by have h := HJN.out; rw [HDR.out, hT] at h; exact h)
          have HRT : Hid (∀ q ∈ T, RunOk q) := hid (by rw [← hT]; exact lessI_good hs' (qn, qf, qt) rest HHG2.out (by have := HGQ.out; dsimp only at this ⊢; omega) HRO.out)
          have HLT : Hid (T.length ≤ (k + 1) * (H + 1)) := hid (by
            have h := lessI_len hs' (qn, qf, qt) rest
            rw [hT] at h
            have := HHL2.out
            have := HRL.out
            rw [Nat.succ_mul]
            omega)
          have HRB1 : Hid (rest.length ≤ 1048576 * 1048577) := hid (Nat.le_trans HRL.out (Nat.mul_le_mul (by omega) (by have := HLB.out; omega)))
          have HT0 := hid hT
          obtain ⟨i0, zz, hi, hz0, hz1, hz2, hz3⟩ := run_info3
          have hnb20 : 0 ≤ 1048576 := by have := HHL2.out; have := HNH.out; have := HLB.out; omega
          clear hT HO2 c0 c1 c2
          go_wp2_with fail
          go_loopw [5, 50] (LiR w B M rest.length qn qt hs' T) (fun _ i _ => 0 - (intOf i).toNat)
          case atStart => exact ⟨0, qf, rest, Nat.zero_le _, rfl, HT0, HZ3, HO3, HOM, hid (by obtain ⟨-, -, h3, h4, h5⟩ := HGQ.out; have h4' : qf ≤ qt := h4; have h5' : qt ≤ 1099511627776 := h5; exact ⟨h3, by omega⟩), hid (Nat.le_refl _), HKW⟩
          case round =>
            clear HO3 HKW HZ3
            obtain ⟨j, f, rest2, hj, rfl, HT, HBM, HO4, HSEP, HF, HRL2, HKI⟩ := hrel
            rw [HNH.out] at hj
            obtain ⟨a6, c6, rfl⟩ := own_shape HO4.out
            have HRB2 : Hid (rest2.length ≤ 1048576 * 1048577 + 1048576) := hid (by have := HRL2.out; have := HRB1.out; omega)
            have hff := HF.out
            by_cases hlt2 : j < 0
            · exact absurd hlt2 (Nat.not_lt_zero _)
            · obtain rfl : j = 0 := by omega
              have hT2 : rest2 ++ [(qn, f, qt)] = T := by
                have h := HT.out
                rw [List.drop_of_length_le (by rw [HNH.out]; exact Nat.le_refl _)] at h
                exact h
              have HT3 := hid hT2
              have d0 : World.cell? wr ⟨M, 0, none⟩ = some (.int .i64 qn) := HBM.out.cell 0
              have d1 : World.cell? wr ⟨M, 1, none⟩ = some (.int .i64 f) := HBM.out.cell 1
              have d2 : World.cell? wr ⟨M, 2, none⟩ = some (.int .i64 qt) := HBM.out.cell 2
              have MK := hid (make_run1 wr (qn) (f) (qt))
              have B2 : Hid (rest2.length + [(qn, f, qt)].length ≤ maxLen ∧ (rest2.length + [(qn, f, qt)].length) * 24 ≤ 140737488355328 ∧ B ≤ (wr.alloc (.cells #[.int .i64 (qn), .int .i64 (f), .int .i64 (qt)] 61 (0, 0))).heap.size) := hid (by
                have h1 := HKI.out.size
                have h2 := ((Kp.refl Nb wr).alloc (.cells #[.int .i64 (qn), .int .i64 (f), .int .i64 (qt)] 61 (0, 0))).size
                have h3 := HRB2.out
                have h4 := HBE.out
                refine ⟨?_, ?_, by omega⟩ <;> rw [List.length_singleton]
                · unfold maxLen; omega
                · omega)
              go_upto_region 16 with fail
              go_wp2_with (first
                | (refine wpList_val (by rfl) _ _ (exec_buildSliceD rfl (qs := #[(0, .agg #[.int .i64 (qn), .int .i64 (f), .int .i64 (qt)])]) (by simp [Act.eval, Act.put]) MK.out) ?_)
                | (at_builtin; refine wpList_append_rows (f := runL) (z := (0, 0, 0)) (c := 3) rfl _ _ 23 rfl B 61 i0 zz 24 under_clock hi hz0 hz1 hz2 hz3 (by decide) _ _ _ rfl (ownsRow_kpD HO4.out ((Kp.refl Nb _).alloc _)) _ [(qn, f, qt)] rfl (rows_oneR (Blk.new _ _ _)) (fun x hx => rfl) (fun x _ => run_one' x) B2.out.1 B2.out.2.1 B2.out.2.2 ?_))
              intro v10 w10 hown hgrow
              have KA : Hid (Kp Nb w w10) := hid ((HKI.out.trans ((Kp.refl Nb wr).alloc (.cells #[.int .i64 (qn), .int .i64 (f), .int .i64 (qt)] 61 (0, 0))) (fun _ _ h => h)).grown hgrow (fun g hg h => by have := (row_cells HO4.out hg).1; have := HBE.out; omega))
              have HOA : Hid (w10.ownsRow B 61 3 v10 (rest2 ++ [(qn, f, qt)]).length (flatR runL (rest2 ++ [(qn, f, qt)]))) := hid (by rw [List.length_append, flatR_append]; exact hown)
              rw [HT3.out] at HOA
              obtain ⟨a10, c10, rfl⟩ := own_shape HOA.out
              clear hown hgrow
              go_wp2
              go_roundw
              case rel => exact ⟨k + 1, hs', T, by rw [HLE.out]; omega, by go_num, HJT, HSH, HHL2, HHG2, HOA, HRT, HLT, KA⟩
              case measure => simp [intOf]; omega
        · obtain ⟨⟨xn, xf, xt⟩, tl, ehs⟩ : ∃ a b, hs' = a :: b := by
            cases hs' with
            | nil => exact absurd HNH.out.symm hh0
            | cons a b => exact ⟨a, b, rfl⟩
          have HEH := hid ehs
          obtain ⟨gh, oh, ch, eh, hch, -, hcellh⟩ := cl_shape HSH.out (by rw [ehs]; simp)
          rw [HNH.out] at eh hch hcellh
          injection eh with eh _ eh2
          subst eh eh2
          have hx0 : runAt hs' 0 = (xn, xf, xt) := by rw [ehs]; rfl
          have HRH := hcellh 0 (by omega)
          rw [hx0] at HRH
          have HKW0 := hid (HK2.out.trans HKD.out (fun _ _ h => h))
          have f0 : World.cell? wr ⟨gh, oh, none⟩ = some (.int .i64 xn) := by have := HKW0.out.cell (HRH 0 _ rfl) (fun h => h); simpa using this
          have f1 : World.cell? wr ⟨gh, oh + 1, none⟩ = some (.int .i64 xf) := by have := HKW0.out.cell (HRH 1 _ rfl) (fun h => h); simpa using this
          have f2 : World.cell? wr ⟨gh, oh + 2, none⟩ = some (.int .i64 xt) := by have := HKW0.out.cell (HRH 2 _ rfl) (fun h => h); simpa using this
          obtain ⟨nt, ent⟩ : ∃ n, nh = n + 1 := ⟨nh - 1, by omega⟩
          have hdt : endsB (xn, xf, xt) (qn, qf, qt) = true → dropH (qn, qf, qt) tl = dropH (qn, qf, qt) hs := fun h => by
            rw [← HD.out, ehs]
            unfold dropH
            rw [List.dropWhile_cons, if_pos h]
          have hdf : endsB (xn, xf, xt) (qn, qf, qt) = false → dropH (qn, qf, qt) hs = hs' := fun h => by
            rw [← HD.out, ehs]
            unfold dropH
            rw [List.dropWhile_cons, if_neg (by rw [h]; decide)]
          have HDT := hid hdt
          have HDF := hid hdf
          have hnh20 : nh ≤ 1048577 := by
            have h1 := HNH.out
            have h2 := HLB.out
            have h3 := HLD.out
            omega
          clear hcellh hx0 HRH hch hdt hdf hnh ehs
          by_cases b1 : xn < qn
          · have HDT := hid (HDT.out (by unfold endsB; simp [b1]))
            subst ent
            have hnp : (nt : Int) + 1 > 0 := by omega
            go_wp2_with fail
            go_quiet (fail)
            obtain ⟨wd, hwd⟩ : ∃ w, w = World.drewN wr nq := ⟨_, rfl⟩
            have HKD2 : Hid (Kp Nb W2 wd) := hid (by rw [hwd]; exact HKD.out.drewN _)
            rw [← hwd]
            clear hwd
            have HCUT : Hid (ClSl w (.slice (if cu = 1 then some ⟨gh, oh, none⟩ else some ⟨gh, oh + 3, none⟩) nt (cu - 1)) tl) := hid (by
              have h := HSH.out
              rw [HEH.out] at h
              exact h.cut1)
            have HLD2 : Hid (tl.length ≤ H) := hid (by have h := HLD.out; rw [HEH.out, List.length_cons] at h; omega)
            clear f0 f1 f2 c0 c1 c2
            go_wp2
            go_roundw
            case rel => exact ⟨tl, HCUT, HDT, HKD2, HLD2⟩
            case measure => simp [lenS]
          · by_cases b2 : xn = qn
            · have b2' : qn = xn := b2.symm
              subst b2'
              by_cases b3 : xt < qf
              · have HDT := hid (HDT.out (by unfold endsB; simp [b3]))
                subst ent
                have hnp : (nt : Int) + 1 > 0 := by omega
                go_wp2_with fail
                go_quiet (fail)
                obtain ⟨wd, hwd⟩ : ∃ w, w = World.drewN wr nq := ⟨_, rfl⟩
                have HKD2 : Hid (Kp Nb W2 wd) := hid (by rw [hwd]; exact HKD.out.drewN _)
                rw [← hwd]
                clear hwd
                have HCUT : Hid (ClSl w (.slice (if cu = 1 then some ⟨gh, oh, none⟩ else some ⟨gh, oh + 3, none⟩) nt (cu - 1)) tl) := hid (by
                  have h := HSH.out
                  rw [HEH.out] at h
                  exact h.cut1)
                have HLD2 : Hid (tl.length ≤ H) := hid (by have h := HLD.out; rw [HEH.out, List.length_cons] at h; omega)
                clear f0 f1 f2 c0 c1 c2
                go_wp2
                go_roundw
                case rel => exact ⟨tl, HCUT, HDT, HKD2, HLD2⟩
                case measure => simp [lenS]
              · have HDR := hid (HDF.out (by unfold endsB; simp [b3]))
                subst ent
                have hnp : (nt : Int) + 1 > 0 := by omega
                go_wp2_with fail
                go_quiet (fail)
                obtain ⟨wd, hwd⟩ : ∃ w, w = World.drewN wr nq := ⟨_, rfl⟩
                have HKD2 : Hid (Kp Nb W2 wd) := hid (by rw [hwd]; exact HKD.out.drewN _)
                rw [← hwd]
                clear hwd
                clear f0 f1 f2
                obtain ⟨nh, hnh⟩ : ∃ n, nt + 1 = n := ⟨_, rfl⟩
                rw [hnh] at HSH HNH ⊢
                have hcc : ((nt : Int) + 1) = (nh : Int) := by omega
                try rw [hcc]
                clear hnh hcc hnp hh0 hnh20
                have HKW := hid (HK2.out.trans HKD2.out (fun _ _ h => h))
                have HZ3 := hid (HZ.out.kept HKD2.out (fun h => h))
                have HO3 := hid (ownsRow_kpD HO2.out HKD2.out)
                have HHL2 : Hid (hs'.length ≤ H) := hid (by have := dropH_le (qn, qf, qt) hs; rw [HDR.out] at this; have := HHL.out; omega)
                have HHG2 : Hid (∀ q ∈ hs', goodR q = true) := hid (fun q hq => HHG.out q (dropH_mem (r := (qn, qf, qt)) (by rw [HDR.out]; exact hq)))
                obtain ⟨T, hT⟩ : ∃ T, lessI hs' (qn, qf, qt) rest = T := ⟨_, rfl⟩
                have HJT : Hid (lessN (al.drop (k + 1)) hs' T = R) := hid (by have h := HJN.out; rw [HDR.out, hT] at h; exact h)
                have HRT : Hid (∀ q ∈ T, RunOk q) := hid (by rw [← hT]; exact lessI_good hs' (qn, qf, qt) rest HHG2.out (by have := HGQ.out; dsimp only at this ⊢; omega) HRO.out)
                have HLT : Hid (T.length ≤ (k + 1) * (H + 1)) := hid (by
                  have h := lessI_len hs' (qn, qf, qt) rest
                  rw [hT] at h
                  have := HHL2.out
                  have := HRL.out
                  rw [Nat.succ_mul]
                  omega)
                have HRB1 : Hid (rest.length ≤ 1048576 * 1048577) := hid (Nat.le_trans HRL.out (Nat.mul_le_mul (by omega) (by have := HLB.out; omega)))
                have HT0 := hid hT
                obtain ⟨i0, zz, hi, hz0, hz1, hz2, hz3⟩ := run_info3
                have hnb20 : nh ≤ 1048576 := by have := HHL2.out; have := HNH.out; have := HLB.out; omega
                clear hT HO2 c0 c1 c2
                go_wp2_with fail
                go_loopw [5, 50] (LiR w B M rest.length qn qt hs' T) (fun _ i _ => nh - (intOf i).toNat)
                case atStart => exact ⟨0, qf, rest, Nat.zero_le _, rfl, HT0, HZ3, HO3, HOM, hid (by obtain ⟨-, -, h3, h4, h5⟩ := HGQ.out; have h4' : qf ≤ qt := h4; have h5' : qt ≤ 1099511627776 := h5; exact ⟨h3, by omega⟩), hid (Nat.le_refl _), HKW⟩
                case round =>
                  clear HO3 HKW HZ3
                  obtain ⟨j, f, rest2, hj, rfl, HT, HBM, HO4, HSEP, HF, HRL2, HKI⟩ := hrel
                  rw [HNH.out] at hj
                  obtain ⟨a6, c6, rfl⟩ := own_shape HO4.out
                  have HRB2 : Hid (rest2.length ≤ 1048576 * 1048577 + 1048576) := hid (by have := HRL2.out; have := HRB1.out; omega)
                  have hff := HF.out
                  by_cases hlt2 : j < nh
                  · obtain ⟨blk2, off2, cap2, e3, hc, hm, hcell2⟩ := cl_shape (HSH.out.kept HKI.out) (by intro h; have := HNH.out; rw [h, List.length_nil] at this; omega)
                    rw [HNH.out] at e3 hc hcell2
                    injection e3 with e3 _ e4
                    cases e3
                    cases e4
                    have HR2 := hid (hcell2 j hlt2)
                    obtain ⟨⟨hn, hf, ht⟩, hq2⟩ : ∃ q, runAt hs' j = q := ⟨_, rfl⟩
                    have HOK2 := HSH.out.1 j
                    rw [hq2] at HR2 HOK2
                    have HQ2 := hid hq2
                    obtain ⟨M2, hM2⟩ : ∃ M2, wr.heap.size = M2 := ⟨_, rfl⟩
                    obtain ⟨W4, hW4⟩ : ∃ W, W = (wr.alloc (.cells (runL (0, 0, 0)).toArray 61)).setCells M2 0 (runL (hn, hf, ht)) := ⟨_, rfl⟩
                    have hz2 := Blk.new wr 61 (runL (0, 0, 0))
                    rw [hM2] at hz2
                    have KW4 : Hid (Kp Nb wr W4) := hid (by rw [hW4]; exact Kp.setCells (fun h => absurd h (by omega)) _ 0 _ ((Kp.refl Nb wr).alloc _))
                    have HMW4 : Hid (wr.heap.size = M2) := hid hM2
                    have TH2 := hid (run_there (q := (hn, hf, ht)) hz2)
                    have HZ2 : Hid (Blk W4 M2 61 (runL (hn, hf, ht))) := hid (by rw [hW4]; exact row_set hz2 rfl)
                    have HKI2 := hid (HKI.out.trans KW4.out (fun _ _ h => h))
                    unfold maxLen at hm
                    obtain ⟨fs2, hfs2⟩ := under_run
                    clear hz2 hcell2 hq2
                    go_upto_region 10 with (first
                      | (refine wpList_load_mid (by rfl) 61 (.tmp 52) (by rfl) gh (oh + j * 3) (by rfl) (runL (hn, hf, ht)) _ HR2.out hfs2 rfl (run_infoL (hn, hf, ht)) ?_)
                      | (refine wpList_store_mid (by rfl) 61 (.tmp 9) (.tmp 53) (by rfl) M2 0 (runL (hn, hf, ht)).toArray (by rfl) (by rfl) TH2.out (run_infoA (hn, hf, ht)) (run_one (hn, hf, ht)) ?_))
                    rw [show (wr.alloc (.cells #[.int .i64 0, .int .i64 0, .int .i64 0] 61)).setCells M2 0 (runL (hn, hf, ht)) = W4 from hW4.symm]
                    clear hW4 TH2 hM2
                    have e0 : W4.cell? ⟨M2, 0, none⟩ = some (.int .i64 hn) := HZ2.out.cell 0
                    have e1' : W4.cell? ⟨M2, 1, none⟩ = some (.int .i64 hf) := HZ2.out.cell 1
                    have e2' : W4.cell? ⟨M2, 2, none⟩ = some (.int .i64 ht) := HZ2.out.cell 2
                    have hgh := HHG2.out _ (runAt_mem (c := hs') (i := j) (by rw [HNH.out]; exact hlt2))
                    rw [HQ2.out] at hgh
                    have hgh := goodR_of.1 hgh
                    dsimp only at hgh
                    have HBM4 := hid (HBM.out.kept KW4.out (fun h => h))
                    have HO5 := hid (ownsRow_kpD HO4.out KW4.out)
                    have d0 : World.cell? W4 ⟨M, 0, none⟩ = some (.int .i64 qn) := HBM4.out.cell 0
                    have d1 : World.cell? W4 ⟨M, 1, none⟩ = some (.int .i64 f) := HBM4.out.cell 1
                    have d2 : World.cell? W4 ⟨M, 2, none⟩ = some (.int .i64 qt) := HBM4.out.cell 2
                    have hT2 : lessI ((hn, hf, ht) :: hs'.drop (j + 1)) (qn, f, qt) rest2 = T := by
                      have h := HT.out
                      have hd := List.drop_eq_getElem_cons (l := hs') (i := j) (by rw [HNH.out]; exact hlt2)
                      have hq := HQ2.out
                      unfold runAt at hq
                      rw [List.getElem?_eq_getElem (by rw [HNH.out]; exact hlt2), Option.getD_some] at hq
                      rw [hd, hq] at h
                      exact h
                    unfold lessI at hT2
                    dsimp only at hT2
                    have HO4K := HO4
                    clear HT HBM HO4
                    by_cases a1 : qn = hn
                    · subst a1
                      by_cases a2 : qt < hf
                      · rw [if_pos (.inr a2)] at hT2
                        have HT3 := hid hT2
                        have MK := hid (make_run1 W4 (qn) (f) (qt))
                        have B2 : Hid (rest2.length + [(qn, f, qt)].length ≤ maxLen ∧ (rest2.length + [(qn, f, qt)].length) * 24 ≤ 140737488355328 ∧ B ≤ (W4.alloc (.cells #[.int .i64 (qn), .int .i64 (f), .int .i64 (qt)] 61 (0, 0))).heap.size) := hid (by
                          have h1 := HKI2.out.size
                          have h2 := ((Kp.refl Nb W4).alloc (.cells #[.int .i64 (qn), .int .i64 (f), .int .i64 (qt)] 61 (0, 0))).size
                          have h3 := HRB2.out
                          have h4 := HBE.out
                          refine ⟨?_, ?_, by omega⟩ <;> rw [List.length_singleton]
                          · unfold maxLen; omega
                          · omega)
                        go_upto_region 16 with fail
                        go_wp2_with (first
                          | (refine wpList_val (by rfl) _ _ (exec_buildSliceD rfl (qs := #[(0, .agg #[.int .i64 (qn), .int .i64 (f), .int .i64 (qt)])]) (by simp [Act.eval, Act.put]) MK.out) ?_)
                          | (at_builtin; refine wpList_append_rows (f := runL) (z := (0, 0, 0)) (c := 3) rfl _ _ 23 rfl B 61 i0 zz 24 under_clock hi hz0 hz1 hz2 hz3 (by decide) _ _ _ rfl (ownsRow_kpD HO5.out ((Kp.refl Nb _).alloc _)) _ [(qn, f, qt)] rfl (rows_oneR (Blk.new _ _ _)) (fun x hx => rfl) (fun x _ => run_one' x) B2.out.1 B2.out.2.1 B2.out.2.2 ?_))
                        intro v10 w10 hown hgrow
                        have KA : Hid (Kp Nb w w10) := hid ((HKI2.out.trans ((Kp.refl Nb W4).alloc (.cells #[.int .i64 (qn), .int .i64 (f), .int .i64 (qt)] 61 (0, 0))) (fun _ _ h => h)).grown hgrow (fun g hg h => by have := (row_cells HO5.out hg).1; have := HBE.out; omega))
                        have HOA : Hid (w10.ownsRow B 61 3 v10 (rest2 ++ [(qn, f, qt)]).length (flatR runL (rest2 ++ [(qn, f, qt)]))) := hid (by rw [List.length_append, flatR_append]; exact hown)
                        rw [HT3.out] at HOA
                        obtain ⟨a10, c10, rfl⟩ := own_shape HOA.out
                        clear hown hgrow
                        go_wp2
                        go_roundw
                        case rel => exact ⟨k + 1, hs', T, by rw [HLE.out]; omega, by go_num, HJT, HSH, HHL2, HHG2, HOA, HRT, HLT, KA⟩
                        case measure => simp [intOf]; omega
                      · rw [if_neg (by simp only [ne_eq, not_true, false_or]; exact a2)] at hT2
                        by_cases a3 : f < hf
                        · rw [if_pos a3] at hT2
                          have MK := hid (make_run1 W4 (qn) (f) (hf - 1))
                          have B2 : Hid (rest2.length + [(qn, f, hf - 1)].length ≤ maxLen ∧ (rest2.length + [(qn, f, hf - 1)].length) * 24 ≤ 140737488355328 ∧ B ≤ (W4.alloc (.cells #[.int .i64 (qn), .int .i64 (f), .int .i64 (hf - 1)] 61 (0, 0))).heap.size) := hid (by
                            have h1 := HKI2.out.size
                            have h2 := ((Kp.refl Nb W4).alloc (.cells #[.int .i64 (qn), .int .i64 (f), .int .i64 (hf - 1)] 61 (0, 0))).size
                            have h3 := HRB2.out
                            have h4 := HBE.out
                            refine ⟨?_, ?_, by omega⟩ <;> rw [List.length_singleton]
                            · unfold maxLen; omega
                            · omega)
                          go_upto_region 12 with fail
                          go_wp2_with (first
                            | (refine wpList_val (by rfl) _ _ (exec_buildSliceD rfl (qs := #[(0, .agg #[.int .i64 (qn), .int .i64 (f), .int .i64 (hf - 1)])]) (by simp [Act.eval, Act.put]) MK.out) ?_)
                            | (at_builtin; refine wpList_append_rows (f := runL) (z := (0, 0, 0)) (c := 3) rfl _ _ 23 rfl B 61 i0 zz 24 under_clock hi hz0 hz1 hz2 hz3 (by decide) _ _ _ rfl (ownsRow_kpD HO5.out ((Kp.refl Nb _).alloc _)) _ [(qn, f, hf - 1)] rfl (rows_oneR (Blk.new _ _ _)) (fun x hx => rfl) (fun x _ => run_one' x) B2.out.1 B2.out.2.1 B2.out.2.2 ?_))
                          intro v10 w10 hown hgrow
                          have KA : Hid (Kp Nb w w10) := hid ((HKI2.out.trans ((Kp.refl Nb W4).alloc (.cells #[.int .i64 (qn), .int .i64 (f), .int .i64 (hf - 1)] 61 (0, 0))) (fun _ _ h => h)).grown hgrow (fun g hg h => by have := (row_cells HO5.out hg).1; have := HBE.out; omega))
                          have HOA : Hid (w10.ownsRow B 61 3 v10 (rest2 ++ [(qn, f, hf - 1)]).length (flatR runL (rest2 ++ [(qn, f, hf - 1)]))) := hid (by rw [List.length_append, flatR_append]; exact hown)
                          have hMA : Blk (W4.alloc (.cells #[.int .i64 qn, .int .i64 f, .int .i64 (hf - 1)] 61 (0, 0))) M 61 (runL (qn, f, qt)) := HBM4.out.alloc _
                          have hM2A : Blk (W4.alloc (.cells #[.int .i64 qn, .int .i64 f, .int .i64 (hf - 1)] 61 (0, 0))) M2 61 (runL (qn, hf, ht)) := HZ2.out.alloc _
                          have hs2 : (Value.slice a6 rest2.length c6).ownBlock ≠ some M2 := fun e => by
                            obtain ⟨-, o, ho, -⟩ := row_cells HO4K.out e
                            have := (Array.getElem?_eq_some_iff.1 ho).1
                            have := HMW4.out
                            omega
                          have hB10 : Blk w10 M 61 (runL (qn, f, qt)) := (hgrow.block M hMA.lt (fun h => HSEP.out h.symm)).trans hMA
                          have hC10 : Blk w10 M2 61 (runL (qn, hf, ht)) := (hgrow.block M2 hM2A.lt (fun h => hs2 h.symm)).trans hM2A
                          have SEP10 : Hid (v10.ownBlock ≠ some M) := hid (sep_grow (q := (qn, f, hf - 1)) hMA HSEP.out hgrow HOA.out (by
                            intro e
                            injection e with _ e
                            injection e with _ e
                            omega))
                          obtain ⟨a10, c10, rfl⟩ := own_shape HOA.out
                          have HB10 := hid hB10
                          clear d0 d1 d2 e0 e1' e2'
                          have d0 : World.cell? w10 ⟨M, 0, none⟩ = some (.int .i64 qn) := hB10.cell 0
                          have d1 : World.cell? w10 ⟨M, 1, none⟩ = some (.int .i64 f) := hB10.cell 1
                          have d2 : World.cell? w10 ⟨M, 2, none⟩ = some (.int .i64 qt) := hB10.cell 2
                          have e0 : World.cell? w10 ⟨M2, 0, none⟩ = some (.int .i64 qn) := hC10.cell 0
                          have e1' : World.cell? w10 ⟨M2, 1, none⟩ = some (.int .i64 hf) := hC10.cell 1
                          have e2' : World.cell? w10 ⟨M2, 2, none⟩ = some (.int .i64 ht) := hC10.cell 2
                          clear hown hgrow hMA hM2A hs2 hB10 hC10
                          have HT2 := hid hT2
                          clear hT2
                          by_cases a4 : ht ≥ qt
                          · have hT3 := HT2.out
                            rw [if_pos a4] at hT3
                            have HOA : Hid (World.ownsRow w10 B 61 3 (.slice a10 (rest2 ++ [(qn, f, hf - 1)]).length c10) T.length (flatR runL T)) := hid (by rw [← hT3]; exact HOA.out)
                            have KA := KA
                            clear hT3
                            go_wp2
                            go_roundw
                            case rel => exact ⟨k + 1, hs', T, by rw [HLE.out]; omega, by go_num, HJT, HSH, HHL2, HHG2, HOA, HRT, HLT, KA⟩
                            case measure => simp [intOf]; omega
                          · have HTN : Hid (lessI (hs'.drop (j + 1)) (qn, ht + 1, qt) (rest2 ++ [(qn, f, hf - 1)]) = T) := hid (by
                              have hT3 := HT2.out
                              rw [if_neg a4] at hT3
                              exact hT3)
                            have fz := HB10.out.frozen 1
                            have HB13 : Hid (Blk (World.setCell w10 ⟨M, 1, none⟩ (.int .i64 (ht + 1))) M 61 (runL (qn, ht + 1, qt))) := hid (HB10.out.set 1 _)
                            have HO13 := hid (ownsRow_setCell_other HOA.out (a := ⟨M, 1, none⟩) SEP10.out (.int .i64 (ht + 1)))
                            have K13 : Hid (Kp Nb w (World.setCell w10 ⟨M, 1, none⟩ (.int .i64 (ht + 1)))) := hid (KA.out.setCell (p := ⟨M, 1, none⟩) (fun h => by have := HMB.out; dsimp only at h; omega) _)
                            have HLN3 : Hid (((rest2 ++ [(qn, f, hf - 1)])).length ≤ rest.length + (j + 1)) := hid (by have := HRL2.out; first | (rw [List.length_append, List.length_singleton]; omega) | omega)
                            have HF3 : Hid (1 ≤ ht + 1 ∧ ht + 1 ≤ 1099511627777) := hid (by omega)
                            go_wp2
                            go_roundw
                            case rel => exact ⟨j + 1, ht + 1, _, by rw [HNH.out]; omega, by go_num, HTN, HB13, HO13, SEP10, HF3, HLN3, K13⟩
                            case measure => simp [intOf]; omega
                        · rw [if_neg a3] at hT2
                          have HT2 := hid hT2
                          clear hT2
                          by_cases a4 : ht ≥ qt
                          · have hT3 := HT2.out
                            rw [if_pos a4] at hT3
                            have HOA : Hid (World.ownsRow W4 B 61 3 (.slice a6 rest2.length c6) T.length (flatR runL T)) := hid (by rw [← hT3]; exact HO5.out)
                            have KA := HKI2
                            clear hT3
                            go_wp2
                            go_roundw
                            case rel => exact ⟨k + 1, hs', T, by rw [HLE.out]; omega, by go_num, HJT, HSH, HHL2, HHG2, HOA, HRT, HLT, KA⟩
                            case measure => simp [intOf]; omega
                          · have HTN : Hid (lessI (hs'.drop (j + 1)) (qn, ht + 1, qt) rest2 = T) := hid (by
                              have hT3 := HT2.out
                              rw [if_neg a4] at hT3
                              exact hT3)
                            have fz := HBM4.out.frozen 1
                            have HB13 : Hid (Blk (World.setCell W4 ⟨M, 1, none⟩ (.int .i64 (ht + 1))) M 61 (runL (qn, ht + 1, qt))) := hid (HBM4.out.set 1 _)
                            have HO13 := hid (ownsRow_setCell_other HO5.out (a := ⟨M, 1, none⟩) HSEP.out (.int .i64 (ht + 1)))
                            have K13 : Hid (Kp Nb w (World.setCell W4 ⟨M, 1, none⟩ (.int .i64 (ht + 1)))) := hid (HKI2.out.setCell (p := ⟨M, 1, none⟩) (fun h => by have := HMB.out; dsimp only at h; omega) _)
                            have HLN3 : Hid ((rest2).length ≤ rest.length + (j + 1)) := hid (by have := HRL2.out; first | (rw [List.length_append, List.length_singleton]; omega) | omega)
                            have HF3 : Hid (1 ≤ ht + 1 ∧ ht + 1 ≤ 1099511627777) := hid (by omega)
                            go_wp2
                            go_roundw
                            case rel => exact ⟨j + 1, ht + 1, _, by rw [HNH.out]; omega, by go_num, HTN, HB13, HO13, HSEP, HF3, HLN3, K13⟩
                            case measure => simp [intOf]; omega
                    · rw [if_pos (.inl (fun e => a1 e.symm))] at hT2
                      have HT3 := hid hT2
                      have a1e : (hn == qn) = false := by simpa using (fun e => a1 e.symm)
                      have MK := hid (make_run1 W4 (qn) (f) (qt))
                      have B2 : Hid (rest2.length + [(qn, f, qt)].length ≤ maxLen ∧ (rest2.length + [(qn, f, qt)].length) * 24 ≤ 140737488355328 ∧ B ≤ (W4.alloc (.cells #[.int .i64 (qn), .int .i64 (f), .int .i64 (qt)] 61 (0, 0))).heap.size) := hid (by
                        have h1 := HKI2.out.size
                        have h2 := ((Kp.refl Nb W4).alloc (.cells #[.int .i64 (qn), .int .i64 (f), .int .i64 (qt)] 61 (0, 0))).size
                        have h3 := HRB2.out
                        have h4 := HBE.out
                        refine ⟨?_, ?_, by omega⟩ <;> rw [List.length_singleton]
                        · unfold maxLen; omega
                        · omega)
                      go_upto_region 16 with fail
                      go_wp2_with (first
                        | (refine wpList_val (by rfl) _ _ (exec_buildSliceD rfl (qs := #[(0, .agg #[.int .i64 (qn), .int .i64 (f), .int .i64 (qt)])]) (by simp [Act.eval, Act.put]) MK.out) ?_)
                        | (at_builtin; refine wpList_append_rows (f := runL) (z := (0, 0, 0)) (c := 3) rfl _ _ 23 rfl B 61 i0 zz 24 under_clock hi hz0 hz1 hz2 hz3 (by decide) _ _ _ rfl (ownsRow_kpD HO5.out ((Kp.refl Nb _).alloc _)) _ [(qn, f, qt)] rfl (rows_oneR (Blk.new _ _ _)) (fun x hx => rfl) (fun x _ => run_one' x) B2.out.1 B2.out.2.1 B2.out.2.2 ?_))
                      intro v10 w10 hown hgrow
                      have KA : Hid (Kp Nb w w10) := hid ((HKI2.out.trans ((Kp.refl Nb W4).alloc (.cells #[.int .i64 (qn), .int .i64 (f), .int .i64 (qt)] 61 (0, 0))) (fun _ _ h => h)).grown hgrow (fun g hg h => by have := (row_cells HO5.out hg).1; have := HBE.out; omega))
                      have HOA : Hid (w10.ownsRow B 61 3 v10 (rest2 ++ [(qn, f, qt)]).length (flatR runL (rest2 ++ [(qn, f, qt)]))) := hid (by rw [List.length_append, flatR_append]; exact hown)
                      rw [HT3.out] at HOA
                      obtain ⟨a10, c10, rfl⟩ := own_shape HOA.out
                      clear hown hgrow
                      go_wp2
                      go_roundw
                      case rel => exact ⟨k + 1, hs', T, by rw [HLE.out]; omega, by go_num, HJT, HSH, HHL2, HHG2, HOA, HRT, HLT, KA⟩
                      case measure => simp [intOf]; omega
                  · obtain rfl : nh = j := by omega
                    have hT2 : rest2 ++ [(qn, f, qt)] = T := by
                      have h := HT.out
                      rw [List.drop_of_length_le (by rw [HNH.out]; exact Nat.le_refl _)] at h
                      exact h
                    have HT3 := hid hT2
                    have d0 : World.cell? wr ⟨M, 0, none⟩ = some (.int .i64 qn) := HBM.out.cell 0
                    have d1 : World.cell? wr ⟨M, 1, none⟩ = some (.int .i64 f) := HBM.out.cell 1
                    have d2 : World.cell? wr ⟨M, 2, none⟩ = some (.int .i64 qt) := HBM.out.cell 2
                    have MK := hid (make_run1 wr (qn) (f) (qt))
                    have B2 : Hid (rest2.length + [(qn, f, qt)].length ≤ maxLen ∧ (rest2.length + [(qn, f, qt)].length) * 24 ≤ 140737488355328 ∧ B ≤ (wr.alloc (.cells #[.int .i64 (qn), .int .i64 (f), .int .i64 (qt)] 61 (0, 0))).heap.size) := hid (by
                      have h1 := HKI.out.size
                      have h2 := ((Kp.refl Nb wr).alloc (.cells #[.int .i64 (qn), .int .i64 (f), .int .i64 (qt)] 61 (0, 0))).size
                      have h3 := HRB2.out
                      have h4 := HBE.out
                      refine ⟨?_, ?_, by omega⟩ <;> rw [List.length_singleton]
                      · unfold maxLen; omega
                      · omega)
                    go_upto_region 16 with fail
                    go_wp2_with (first
                      | (refine wpList_val (by rfl) _ _ (exec_buildSliceD rfl (qs := #[(0, .agg #[.int .i64 (qn), .int .i64 (f), .int .i64 (qt)])]) (by simp [Act.eval, Act.put]) MK.out) ?_)
                      | (at_builtin; refine wpList_append_rows (f := runL) (z := (0, 0, 0)) (c := 3) rfl _ _ 23 rfl B 61 i0 zz 24 under_clock hi hz0 hz1 hz2 hz3 (by decide) _ _ _ rfl (ownsRow_kpD HO4.out ((Kp.refl Nb _).alloc _)) _ [(qn, f, qt)] rfl (rows_oneR (Blk.new _ _ _)) (fun x hx => rfl) (fun x _ => run_one' x) B2.out.1 B2.out.2.1 B2.out.2.2 ?_))
                    intro v10 w10 hown hgrow
                    have KA : Hid (Kp Nb w w10) := hid ((HKI.out.trans ((Kp.refl Nb wr).alloc (.cells #[.int .i64 (qn), .int .i64 (f), .int .i64 (qt)] 61 (0, 0))) (fun _ _ h => h)).grown hgrow (fun g hg h => by have := (row_cells HO4.out hg).1; have := HBE.out; omega))
                    have HOA : Hid (w10.ownsRow B 61 3 v10 (rest2 ++ [(qn, f, qt)]).length (flatR runL (rest2 ++ [(qn, f, qt)]))) := hid (by rw [List.length_append, flatR_append]; exact hown)
                    rw [HT3.out] at HOA
                    obtain ⟨a10, c10, rfl⟩ := own_shape HOA.out
                    clear hown hgrow
                    go_wp2
                    go_roundw
                    case rel => exact ⟨k + 1, hs', T, by rw [HLE.out]; omega, by go_num, HJT, HSH, HHL2, HHG2, HOA, HRT, HLT, KA⟩
                    case measure => simp [intOf]; omega
            · have b2e : (xn == qn) = false := by simpa using b2
              have HDR := hid (HDF.out (by unfold endsB; simp [b1, b2]))
              subst ent
              have hnp : (nt : Int) + 1 > 0 := by omega
              go_wp2_with fail
              go_quiet (fail)
              obtain ⟨wd, hwd⟩ : ∃ w, w = World.drewN wr nq := ⟨_, rfl⟩
              have HKD2 : Hid (Kp Nb W2 wd) := hid (by rw [hwd]; exact HKD.out.drewN _)
              rw [← hwd]
              clear hwd
              clear f0 f1 f2
              obtain ⟨nh, hnh⟩ : ∃ n, nt + 1 = n := ⟨_, rfl⟩
              rw [hnh] at HSH HNH ⊢
              have hcc : ((nt : Int) + 1) = (nh : Int) := by omega
              try rw [hcc]
              clear hnh hcc hnp hh0 hnh20
              have HKW := hid (HK2.out.trans HKD2.out (fun _ _ h => h))
              have HZ3 := hid (HZ.out.kept HKD2.out (fun h => h))
              have HO3 := hid (ownsRow_kpD HO2.out HKD2.out)
              have HHL2 : Hid (hs'.length ≤ H) := hid (by have := dropH_le (qn, qf, qt) hs; rw [HDR.out] at this; have := HHL.out; omega)
              have HHG2 : Hid (∀ q ∈ hs', goodR q = true) := hid (fun q hq => HHG.out q (dropH_mem (r := (qn, qf, qt)) (by rw [HDR.out]; exact hq)))
              obtain ⟨T, hT⟩ : ∃ T, lessI hs' (qn, qf, qt) rest = T := ⟨_, rfl⟩
              have HJT : Hid (lessN (al.drop (k + 1)) hs' T = R) := hid (by have h := HJN.out; rw [HDR.out, hT] at h; exact h)
              have HRT : Hid (∀ q ∈ T, RunOk q) := hid (by rw [← hT]; exact lessI_good hs' (qn, qf, qt) rest HHG2.out (by have := HGQ.out; dsimp only at this ⊢; omega) HRO.out)
              have HLT : Hid (T.length ≤ (k + 1) * (H + 1)) := hid (by
                have h := lessI_len hs' (qn, qf, qt) rest
                rw [hT] at h
                have := HHL2.out
                have := HRL.out
                rw [Nat.succ_mul]
                omega)
              have HRB1 : Hid (rest.length ≤ 1048576 * 1048577) := hid (Nat.le_trans HRL.out (Nat.mul_le_mul (by omega) (by have := HLB.out; omega)))
              have HT0 := hid hT
              obtain ⟨i0, zz, hi, hz0, hz1, hz2, hz3⟩ := run_info3
              have hnb20 : nh ≤ 1048576 := by have := HHL2.out; have := HNH.out; have := HLB.out; omega
              clear hT HO2 c0 c1 c2
              go_wp2_with fail
              go_loopw [5, 50] (LiR w B M rest.length qn qt hs' T) (fun _ i _ => nh - (intOf i).toNat)
              case atStart => exact ⟨0, qf, rest, Nat.zero_le _, rfl, HT0, HZ3, HO3, HOM, hid (by obtain ⟨-, -, h3, h4, h5⟩ := HGQ.out; have h4' : qf ≤ qt := h4; have h5' : qt ≤ 1099511627776 := h5; exact ⟨h3, by omega⟩), hid (Nat.le_refl _), HKW⟩
              case round =>
                clear HO3 HKW HZ3
                obtain ⟨j, f, rest2, hj, rfl, HT, HBM, HO4, HSEP, HF, HRL2, HKI⟩ := hrel
                rw [HNH.out] at hj
                obtain ⟨a6, c6, rfl⟩ := own_shape HO4.out
                have HRB2 : Hid (rest2.length ≤ 1048576 * 1048577 + 1048576) := hid (by have := HRL2.out; have := HRB1.out; omega)
                have hff := HF.out
                by_cases hlt2 : j < nh
                · obtain ⟨blk2, off2, cap2, e3, hc, hm, hcell2⟩ := cl_shape (HSH.out.kept HKI.out) (by intro h; have := HNH.out; rw [h, List.length_nil] at this; omega)
                  rw [HNH.out] at e3 hc hcell2
                  injection e3 with e3 _ e4
                  cases e3
                  cases e4
                  have HR2 := hid (hcell2 j hlt2)
                  obtain ⟨⟨hn, hf, ht⟩, hq2⟩ : ∃ q, runAt hs' j = q := ⟨_, rfl⟩
                  have HOK2 := HSH.out.1 j
                  rw [hq2] at HR2 HOK2
                  have HQ2 := hid hq2
                  obtain ⟨M2, hM2⟩ : ∃ M2, wr.heap.size = M2 := ⟨_, rfl⟩
                  obtain ⟨W4, hW4⟩ : ∃ W, W = (wr.alloc (.cells (runL (0, 0, 0)).toArray 61)).setCells M2 0 (runL (hn, hf, ht)) := ⟨_, rfl⟩
                  have hz2 := Blk.new wr 61 (runL (0, 0, 0))
                  rw [hM2] at hz2
                  have KW4 : Hid (Kp Nb wr W4) := hid (by rw [hW4]; exact Kp.setCells (fun h => absurd h (by omega)) _ 0 _ ((Kp.refl Nb wr).alloc _))
                  have HMW4 : Hid (wr.heap.size = M2) := hid hM2
                  have TH2 := hid (run_there (q := (hn, hf, ht)) hz2)
                  have HZ2 : Hid (Blk W4 M2 61 (runL (hn, hf, ht))) := hid (by rw [hW4]; exact row_set hz2 rfl)
                  have HKI2 := hid (HKI.out.trans KW4.out (fun _ _ h => h))
                  unfold maxLen at hm
                  obtain ⟨fs2, hfs2⟩ := under_run
                  clear hz2 hcell2 hq2
                  go_upto_region 10 with (first
                    | (refine wpList_load_mid (by rfl) 61 (.tmp 52) (by rfl) gh (oh + j * 3) (by rfl) (runL (hn, hf, ht)) _ HR2.out hfs2 rfl (run_infoL (hn, hf, ht)) ?_)
                    | (refine wpList_store_mid (by rfl) 61 (.tmp 9) (.tmp 53) (by rfl) M2 0 (runL (hn, hf, ht)).toArray (by rfl) (by rfl) TH2.out (run_infoA (hn, hf, ht)) (run_one (hn, hf, ht)) ?_))
                  rw [show (wr.alloc (.cells #[.int .i64 0, .int .i64 0, .int .i64 0] 61)).setCells M2 0 (runL (hn, hf, ht)) = W4 from hW4.symm]
                  clear hW4 TH2 hM2
                  have e0 : W4.cell? ⟨M2, 0, none⟩ = some (.int .i64 hn) := HZ2.out.cell 0
                  have e1' : W4.cell? ⟨M2, 1, none⟩ = some (.int .i64 hf) := HZ2.out.cell 1
                  have e2' : W4.cell? ⟨M2, 2, none⟩ = some (.int .i64 ht) := HZ2.out.cell 2
                  have hgh := HHG2.out _ (runAt_mem (c := hs') (i := j) (by rw [HNH.out]; exact hlt2))
                  rw [HQ2.out] at hgh
                  have hgh := goodR_of.1 hgh
                  dsimp only at hgh
                  have HBM4 := hid (HBM.out.kept KW4.out (fun h => h))
                  have HO5 := hid (ownsRow_kpD HO4.out KW4.out)
                  have d0 : World.cell? W4 ⟨M, 0, none⟩ = some (.int .i64 qn) := HBM4.out.cell 0
                  have d1 : World.cell? W4 ⟨M, 1, none⟩ = some (.int .i64 f) := HBM4.out.cell 1
                  have d2 : World.cell? W4 ⟨M, 2, none⟩ = some (.int .i64 qt) := HBM4.out.cell 2
                  have hT2 : lessI ((hn, hf, ht) :: hs'.drop (j + 1)) (qn, f, qt) rest2 = T := by
                    have h := HT.out
                    have hd := List.drop_eq_getElem_cons (l := hs') (i := j) (by rw [HNH.out]; exact hlt2)
                    have hq := HQ2.out
                    unfold runAt at hq
                    rw [List.getElem?_eq_getElem (by rw [HNH.out]; exact hlt2), Option.getD_some] at hq
                    rw [hd, hq] at h
                    exact h
                  unfold lessI at hT2
                  dsimp only at hT2
                  have HO4K := HO4
                  clear HT HBM HO4
                  by_cases a1 : qn = hn
                  · subst a1
                    by_cases a2 : qt < hf
                    · rw [if_pos (.inr a2)] at hT2
                      have HT3 := hid hT2
                      have MK := hid (make_run1 W4 (qn) (f) (qt))
                      have B2 : Hid (rest2.length + [(qn, f, qt)].length ≤ maxLen ∧ (rest2.length + [(qn, f, qt)].length) * 24 ≤ 140737488355328 ∧ B ≤ (W4.alloc (.cells #[.int .i64 (qn), .int .i64 (f), .int .i64 (qt)] 61 (0, 0))).heap.size) := hid (by
                        have h1 := HKI2.out.size
                        have h2 := ((Kp.refl Nb W4).alloc (.cells #[.int .i64 (qn), .int .i64 (f), .int .i64 (qt)] 61 (0, 0))).size
                        have h3 := HRB2.out
                        have h4 := HBE.out
                        refine ⟨?_, ?_, by omega⟩ <;> rw [List.length_singleton]
                        · unfold maxLen; omega
                        · omega)
                      go_upto_region 16 with fail
                      go_wp2_with (first
                        | (refine wpList_val (by rfl) _ _ (exec_buildSliceD rfl (qs := #[(0, .agg #[.int .i64 (qn), .int .i64 (f), .int .i64 (qt)])]) (by simp [Act.eval, Act.put]) MK.out) ?_)
                        | (at_builtin; refine wpList_append_rows (f := runL) (z := (0, 0, 0)) (c := 3) rfl _ _ 23 rfl B 61 i0 zz 24 under_clock hi hz0 hz1 hz2 hz3 (by decide) _ _ _ rfl (ownsRow_kpD HO5.out ((Kp.refl Nb _).alloc _)) _ [(qn, f, qt)] rfl (rows_oneR (Blk.new _ _ _)) (fun x hx => rfl) (fun x _ => run_one' x) B2.out.1 B2.out.2.1 B2.out.2.2 ?_))
                      intro v10 w10 hown hgrow
                      have KA : Hid (Kp Nb w w10) := hid ((HKI2.out.trans ((Kp.refl Nb W4).alloc (.cells #[.int .i64 (qn), .int .i64 (f), .int .i64 (qt)] 61 (0, 0))) (fun _ _ h => h)).grown hgrow (fun g hg h => by have := (row_cells HO5.out hg).1; have := HBE.out; omega))
                      have HOA : Hid (w10.ownsRow B 61 3 v10 (rest2 ++ [(qn, f, qt)]).length (flatR runL (rest2 ++ [(qn, f, qt)]))) := hid (by rw [List.length_append, flatR_append]; exact hown)
                      rw [HT3.out] at HOA
                      obtain ⟨a10, c10, rfl⟩ := own_shape HOA.out
                      clear hown hgrow
                      go_wp2
                      go_roundw
                      case rel => exact ⟨k + 1, hs', T, by rw [HLE.out]; omega, by go_num, HJT, HSH, HHL2, HHG2, HOA, HRT, HLT, KA⟩
                      case measure => simp [intOf]; omega
                    · rw [if_neg (by simp only [ne_eq, not_true, false_or]; exact a2)] at hT2
                      by_cases a3 : f < hf
                      · rw [if_pos a3] at hT2
                        have MK := hid (make_run1 W4 (qn) (f) (hf - 1))
                        have B2 : Hid (rest2.length + [(qn, f, hf - 1)].length ≤ maxLen ∧ (rest2.length + [(qn, f, hf - 1)].length) * 24 ≤ 140737488355328 ∧ B ≤ (W4.alloc (.cells #[.int .i64 (qn), .int .i64 (f), .int .i64 (hf - 1)] 61 (0, 0))).heap.size) := hid (by
                          have h1 := HKI2.out.size
                          have h2 := ((Kp.refl Nb W4).alloc (.cells #[.int .i64 (qn), .int .i64 (f), .int .i64 (hf - 1)] 61 (0, 0))).size
                          have h3 := HRB2.out
                          have h4 := HBE.out
                          refine ⟨?_, ?_, by omega⟩ <;> rw [List.length_singleton]
                          · unfold maxLen; omega
                          · omega)
                        go_upto_region 12 with fail
                        go_wp2_with (first
                          | (refine wpList_val (by rfl) _ _ (exec_buildSliceD rfl (qs := #[(0, .agg #[.int .i64 (qn), .int .i64 (f), .int .i64 (hf - 1)])]) (by simp [Act.eval, Act.put]) MK.out) ?_)
                          | (at_builtin; refine wpList_append_rows (f := runL) (z := (0, 0, 0)) (c := 3) rfl _ _ 23 rfl B 61 i0 zz 24 under_clock hi hz0 hz1 hz2 hz3 (by decide) _ _ _ rfl (ownsRow_kpD HO5.out ((Kp.refl Nb _).alloc _)) _ [(qn, f, hf - 1)] rfl (rows_oneR (Blk.new _ _ _)) (fun x hx => rfl) (fun x _ => run_one' x) B2.out.1 B2.out.2.1 B2.out.2.2 ?_))
                        intro v10 w10 hown hgrow
                        have KA : Hid (Kp Nb w w10) := hid ((HKI2.out.trans ((Kp.refl Nb W4).alloc (.cells #[.int .i64 (qn), .int .i64 (f), .int .i64 (hf - 1)] 61 (0, 0))) (fun _ _ h => h)).grown hgrow (fun g hg h => by have := (row_cells HO5.out hg).1; have := HBE.out; omega))
                        have HOA : Hid (w10.ownsRow B 61 3 v10 (rest2 ++ [(qn, f, hf - 1)]).length (flatR runL (rest2 ++ [(qn, f, hf - 1)]))) := hid (by rw [List.length_append, flatR_append]; exact hown)
                        have hMA : Blk (W4.alloc (.cells #[.int .i64 qn, .int .i64 f, .int .i64 (hf - 1)] 61 (0, 0))) M 61 (runL (qn, f, qt)) := HBM4.out.alloc _
                        have hM2A : Blk (W4.alloc (.cells #[.int .i64 qn, .int .i64 f, .int .i64 (hf - 1)] 61 (0, 0))) M2 61 (runL (qn, hf, ht)) := HZ2.out.alloc _
                        have hs2 : (Value.slice a6 rest2.length c6).ownBlock ≠ some M2 := fun e => by
                          obtain ⟨-, o, ho, -⟩ := row_cells HO4K.out e
                          have := (Array.getElem?_eq_some_iff.1 ho).1
                          have := HMW4.out
                          omega
                        have hB10 : Blk w10 M 61 (runL (qn, f, qt)) := (hgrow.block M hMA.lt (fun h => HSEP.out h.symm)).trans hMA
                        have hC10 : Blk w10 M2 61 (runL (qn, hf, ht)) := (hgrow.block M2 hM2A.lt (fun h => hs2 h.symm)).trans hM2A
                        have SEP10 : Hid (v10.ownBlock ≠ some M) := hid (sep_grow (q := (qn, f, hf - 1)) hMA HSEP.out hgrow HOA.out (by
                          intro e
                          injection e with _ e
                          injection e with _ e
                          omega))
                        obtain ⟨a10, c10, rfl⟩ := own_shape HOA.out
                        have HB10 := hid hB10
                        clear d0 d1 d2 e0 e1' e2'
                        have d0 : World.cell? w10 ⟨M, 0, none⟩ = some (.int .i64 qn) := hB10.cell 0
                        have d1 : World.cell? w10 ⟨M, 1, none⟩ = some (.int .i64 f) := hB10.cell 1
                        have d2 : World.cell? w10 ⟨M, 2, none⟩ = some (.int .i64 qt) := hB10.cell 2
                        have e0 : World.cell? w10 ⟨M2, 0, none⟩ = some (.int .i64 qn) := hC10.cell 0
                        have e1' : World.cell? w10 ⟨M2, 1, none⟩ = some (.int .i64 hf) := hC10.cell 1
                        have e2' : World.cell? w10 ⟨M2, 2, none⟩ = some (.int .i64 ht) := hC10.cell 2
                        clear hown hgrow hMA hM2A hs2 hB10 hC10
                        have HT2 := hid hT2
                        clear hT2
                        by_cases a4 : ht ≥ qt
                        · have hT3 := HT2.out
                          rw [if_pos a4] at hT3
                          have HOA : Hid (World.ownsRow w10 B 61 3 (.slice a10 (rest2 ++ [(qn, f, hf - 1)]).length c10) T.length (flatR runL T)) := hid (by rw [← hT3]; exact HOA.out)
                          have KA := KA
                          clear hT3
                          go_wp2
                          go_roundw
                          case rel => exact ⟨k + 1, hs', T, by rw [HLE.out]; omega, by go_num, HJT, HSH, HHL2, HHG2, HOA, HRT, HLT, KA⟩
                          case measure => simp [intOf]; omega
                        · have HTN : Hid (lessI (hs'.drop (j + 1)) (qn, ht + 1, qt) (rest2 ++ [(qn, f, hf - 1)]) = T) := hid (by
                            have hT3 := HT2.out
                            rw [if_neg a4] at hT3
                            exact hT3)
                          have fz := HB10.out.frozen 1
                          have HB13 : Hid (Blk (World.setCell w10 ⟨M, 1, none⟩ (.int .i64 (ht + 1))) M 61 (runL (qn, ht + 1, qt))) := hid (HB10.out.set 1 _)
                          have HO13 := hid (ownsRow_setCell_other HOA.out (a := ⟨M, 1, none⟩) SEP10.out (.int .i64 (ht + 1)))
                          have K13 : Hid (Kp Nb w (World.setCell w10 ⟨M, 1, none⟩ (.int .i64 (ht + 1)))) := hid (KA.out.setCell (p := ⟨M, 1, none⟩) (fun h => by have := HMB.out; dsimp only at h; omega) _)
                          have HLN3 : Hid (((rest2 ++ [(qn, f, hf - 1)])).length ≤ rest.length + (j + 1)) := hid (by have := HRL2.out; first | (rw [List.length_append, List.length_singleton]; omega) | omega)
                          have HF3 : Hid (1 ≤ ht + 1 ∧ ht + 1 ≤ 1099511627777) := hid (by omega)
                          go_wp2
                          go_roundw
                          case rel => exact ⟨j + 1, ht + 1, _, by rw [HNH.out]; omega, by go_num, HTN, HB13, HO13, SEP10, HF3, HLN3, K13⟩
                          case measure => simp [intOf]; omega
                      · rw [if_neg a3] at hT2
                        have HT2 := hid hT2
                        clear hT2
                        by_cases a4 : ht ≥ qt
                        · have hT3 := HT2.out
                          rw [if_pos a4] at hT3
                          have HOA : Hid (World.ownsRow W4 B 61 3 (.slice a6 rest2.length c6) T.length (flatR runL T)) := hid (by rw [← hT3]; exact HO5.out)
                          have KA := HKI2
                          clear hT3
                          go_wp2
                          go_roundw
                          case rel => exact ⟨k + 1, hs', T, by rw [HLE.out]; omega, by go_num, HJT, HSH, HHL2, HHG2, HOA, HRT, HLT, KA⟩
                          case measure => simp [intOf]; omega
                        · have HTN : Hid (lessI (hs'.drop (j + 1)) (qn, ht + 1, qt) rest2 = T) := hid (by
                            have hT3 := HT2.out
                            rw [if_neg a4] at hT3
                            exact hT3)
                          have fz := HBM4.out.frozen 1
                          have HB13 : Hid (Blk (World.setCell W4 ⟨M, 1, none⟩ (.int .i64 (ht + 1))) M 61 (runL (qn, ht + 1, qt))) := hid (HBM4.out.set 1 _)
                          have HO13 := hid (ownsRow_setCell_other HO5.out (a := ⟨M, 1, none⟩) HSEP.out (.int .i64 (ht + 1)))
                          have K13 : Hid (Kp Nb w (World.setCell W4 ⟨M, 1, none⟩ (.int .i64 (ht + 1)))) := hid (HKI2.out.setCell (p := ⟨M, 1, none⟩) (fun h => by have := HMB.out; dsimp only at h; omega) _)
                          have HLN3 : Hid ((rest2).length ≤ rest.length + (j + 1)) := hid (by have := HRL2.out; first | (rw [List.length_append, List.length_singleton]; omega) | omega)
                          have HF3 : Hid (1 ≤ ht + 1 ∧ ht + 1 ≤ 1099511627777) := hid (by omega)
                          go_wp2
                          go_roundw
                          case rel => exact ⟨j + 1, ht + 1, _, by rw [HNH.out]; omega, by go_num, HTN, HB13, HO13, HSEP, HF3, HLN3, K13⟩
                          case measure => simp [intOf]; omega
                  · rw [if_pos (.inl (fun e => a1 e.symm))] at hT2
                    have HT3 := hid hT2
                    have a1e : (hn == qn) = false := by simpa using (fun e => a1 e.symm)
                    have MK := hid (make_run1 W4 (qn) (f) (qt))
                    have B2 : Hid (rest2.length + [(qn, f, qt)].length ≤ maxLen ∧ (rest2.length + [(qn, f, qt)].length) * 24 ≤ 140737488355328 ∧ B ≤ (W4.alloc (.cells #[.int .i64 (qn), .int .i64 (f), .int .i64 (qt)] 61 (0, 0))).heap.size) := hid (by
                      have h1 := HKI2.out.size
                      have h2 := ((Kp.refl Nb W4).alloc (.cells #[.int .i64 (qn), .int .i64 (f), .int .i64 (qt)] 61 (0, 0))).size
                      have h3 := HRB2.out
                      have h4 := HBE.out
                      refine ⟨?_, ?_, by omega⟩ <;> rw [List.length_singleton]
                      · unfold maxLen; omega
                      · omega)
                    go_upto_region 16 with fail
                    go_wp2_with (first
                      | (refine wpList_val (by rfl) _ _ (exec_buildSliceD rfl (qs := #[(0, .agg #[.int .i64 (qn), .int .i64 (f), .int .i64 (qt)])]) (by simp [Act.eval, Act.put]) MK.out) ?_)
                      | (at_builtin; refine wpList_append_rows (f := runL) (z := (0, 0, 0)) (c := 3) rfl _ _ 23 rfl B 61 i0 zz 24 under_clock hi hz0 hz1 hz2 hz3 (by decide) _ _ _ rfl (ownsRow_kpD HO5.out ((Kp.refl Nb _).alloc _)) _ [(qn, f, qt)] rfl (rows_oneR (Blk.new _ _ _)) (fun x hx => rfl) (fun x _ => run_one' x) B2.out.1 B2.out.2.1 B2.out.2.2 ?_))
                    intro v10 w10 hown hgrow
                    have KA : Hid (Kp Nb w w10) := hid ((HKI2.out.trans ((Kp.refl Nb W4).alloc (.cells #[.int .i64 (qn), .int .i64 (f), .int .i64 (qt)] 61 (0, 0))) (fun _ _ h => h)).grown hgrow (fun g hg h => by have := (row_cells HO5.out hg).1; have := HBE.out; omega))
                    have HOA : Hid (w10.ownsRow B 61 3 v10 (rest2 ++ [(qn, f, qt)]).length (flatR runL (rest2 ++ [(qn, f, qt)]))) := hid (by rw [List.length_append, flatR_append]; exact hown)
                    rw [HT3.out] at HOA
                    obtain ⟨a10, c10, rfl⟩ := own_shape HOA.out
                    clear hown hgrow
                    go_wp2
                    go_roundw
                    case rel => exact ⟨k + 1, hs', T, by rw [HLE.out]; omega, by go_num, HJT, HSH, HHL2, HHG2, HOA, HRT, HLT, KA⟩
                    case measure => simp [intOf]; omega
                · obtain rfl : nh = j := by omega
                  have hT2 : rest2 ++ [(qn, f, qt)] = T := by
                    have h := HT.out
                    rw [List.drop_of_length_le (by rw [HNH.out]; exact Nat.le_refl _)] at h
                    exact h
                  have HT3 := hid hT2
                  have d0 : World.cell? wr ⟨M, 0, none⟩ = some (.int .i64 qn) := HBM.out.cell 0
                  have d1 : World.cell? wr ⟨M, 1, none⟩ = some (.int .i64 f) := HBM.out.cell 1
                  have d2 : World.cell? wr ⟨M, 2, none⟩ = some (.int .i64 qt) := HBM.out.cell 2
                  have MK := hid (make_run1 wr (qn) (f) (qt))
                  have B2 : Hid (rest2.length + [(qn, f, qt)].length ≤ maxLen ∧ (rest2.length + [(qn, f, qt)].length) * 24 ≤ 140737488355328 ∧ B ≤ (wr.alloc (.cells #[.int .i64 (qn), .int .i64 (f), .int .i64 (qt)] 61 (0, 0))).heap.size) := hid (by
                    have h1 := HKI.out.size
                    have h2 := ((Kp.refl Nb wr).alloc (.cells #[.int .i64 (qn), .int .i64 (f), .int .i64 (qt)] 61 (0, 0))).size
                    have h3 := HRB2.out
                    have h4 := HBE.out
                    refine ⟨?_, ?_, by omega⟩ <;> rw [List.length_singleton]
                    · unfold maxLen; omega
                    · omega)
                  go_upto_region 16 with fail
                  go_wp2_with (first
                    | (refine wpList_val (by rfl) _ _ (exec_buildSliceD rfl (qs := #[(0, .agg #[.int .i64 (qn), .int .i64 (f), .int .i64 (qt)])]) (by simp [Act.eval, Act.put]) MK.out) ?_)
                    | (at_builtin; refine wpList_append_rows (f := runL) (z := (0, 0, 0)) (c := 3) rfl _ _ 23 rfl B 61 i0 zz 24 under_clock hi hz0 hz1 hz2 hz3 (by decide) _ _ _ rfl (ownsRow_kpD HO4.out ((Kp.refl Nb _).alloc _)) _ [(qn, f, qt)] rfl (rows_oneR (Blk.new _ _ _)) (fun x hx => rfl) (fun x _ => run_one' x) B2.out.1 B2.out.2.1 B2.out.2.2 ?_))
                  intro v10 w10 hown hgrow
                  have KA : Hid (Kp Nb w w10) := hid ((HKI.out.trans ((Kp.refl Nb wr).alloc (.cells #[.int .i64 (qn), .int .i64 (f), .int .i64 (qt)] 61 (0, 0))) (fun _ _ h => h)).grown hgrow (fun g hg h => by have := (row_cells HO4.out hg).1; have := HBE.out; omega))
                  have HOA : Hid (w10.ownsRow B 61 3 v10 (rest2 ++ [(qn, f, qt)]).length (flatR runL (rest2 ++ [(qn, f, qt)]))) := hid (by rw [List.length_append, flatR_append]; exact hown)
                  rw [HT3.out] at HOA
                  obtain ⟨a10, c10, rfl⟩ := own_shape HOA.out
                  clear hown hgrow
                  go_wp2
                  go_roundw
                  case rel => exact ⟨k + 1, hs', T, by rw [HLE.out]; omega, by go_num, HJT, HSH, HHL2, HHG2, HOA, HRT, HLT, KA⟩
                  case measure => simp [intOf]; omega
    · obtain rfl : k = L := by omega
      have HRR : Hid (rest = R) := hid (by
        have h := HJ.out
        rw [List.drop_of_length_le (by rw [HLE.out]; exact Nat.le_refl _)] at h
        exact h)
      go_wp2
      dsimp only [Exit.noGoto]
      go_ret
      exact ⟨_, rfl, by rw [HRE.out, ← HRR.out]; exact cl_owned HO.out HRO.out, own_of (by rw [HBE.out]; exact HO.out), HK.out⟩

end Go.Proofs.YtbbfibgijackhaaGreatDoor
