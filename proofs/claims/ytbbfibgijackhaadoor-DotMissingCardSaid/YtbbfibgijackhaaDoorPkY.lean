/-
  Layer 3: Count, plainly: dots counted one by one.
  Layer 3: the law's meets. Conditions: at most 1,000 runs each.
  Layer 3: plain facts of dots: runs that meet, the dots of a node, a node's top, one dot more. No condition but that clocks are right.
  Layer 3: the statements' own first. Conditions: the library's tables stand in memory.
  Layer 3: dots as a list, a case in memory, the law's own great; two dots compared; a list made of another one and one dot more, as a ghost's state. Conditions: as said.
  A region that draws its order, in which each operation leaves a value that is known ahead, whatever the order: one small obligation for each operation, at a frame that is a letter. The orders are never enumerated. Nothing of the program is named here. Condition: what 'okAll' checks of the operations (closed).
-/
import Derived.Test.YtbbfibgijackhaaDoorPkJ
import Derived.Test.YtbbfibgijackhaaDoorDtH
import Derived.Test.YtbbfibgijackhaaDoorPkX
import Derived.Test.YtbbfibgijackhaaDoorPkM
import Derived.Test.YtbbfibgijackhaaDoorDtE
import Derived.Test.YtbbfibgijackhaaDoorRegInv
import Derived.Test.YtbbfibgijackhaaDoorVals
namespace Go.Proofs.YtbbfibgijackhaaDoor
open Go.RowKit

/-- A dot's number in one row of all dots. -/
def cK (n d : Int) : Nat := (n * 2199023255552 + d).toNat
def in1K (r : RunQ) (k : Nat) : Bool := decide (r.1 * 2199023255552 + r.2.1 ≤ (k : Int) ∧ (k : Int) ≤ r.1 * 2199023255552 + r.2.2)
def inK (c : List RunQ) (k : Nat) : Bool := c.any fun r => in1K r k
def MAXK : Nat := 17592186044416
def cardK (p : Nat → Bool) : Nat := (List.range MAXK).countP p
theorem countP_run (a b : Nat) : ∀ n : Nat, (List.range n).countP (fun k => decide (a ≤ k ∧ k ≤ b)) = min n (b + 1) - a
  | 0 => by simp
  | n + 1 => by
    rw [List.range_succ, List.countP_append, countP_run a b n, List.countP_cons, List.countP_nil]
    by_cases h : a ≤ n ∧ n ≤ b
    · rw [if_pos (by simpa using h)]; omega
    · rw [if_neg (by simpa using h)]; omega
theorem countP_or {α : Type} (p q : α → Bool) : ∀ l : List α, l.countP (fun x => p x || q x) + l.countP (fun x => p x && q x) = l.countP p + l.countP q
  | [] => rfl
  | x :: l => by
    have ih := countP_or p q l
    rw [List.countP_cons, List.countP_cons, List.countP_cons, List.countP_cons]
    cases p x <;> cases q x <;> simp <;> omega
theorem card_run {r : RunQ} (h : goodR r = true) : (cardK (in1K r) : Int) = r.2.2 - r.2.1 + 1 := by
  have g := goodR_of.1 h
  have e : in1K r = fun k => decide ((r.1 * 2199023255552 + r.2.1).toNat ≤ k ∧ k ≤ (r.1 * 2199023255552 + r.2.2).toNat) := by
    funext k
    unfold in1K
    rw [decide_eq_decide]
    omega
  unfold cardK MAXK
  rw [e, countP_run]
  omega
theorem card_cons {x : RunQ} {c : List RunQ} (h : Rt (x :: c)) : cardK (inK (x :: c)) = cardK (in1K x) + cardK (inK c) := by
  obtain ⟨gx, px, hc⟩ := rt_cons.1 h
  have h1 := countP_or (in1K x) (inK c) (List.range MAXK)
  have h2 : (List.range MAXK).countP (fun k => in1K x k && inK c k) = 0 := by
    rw [List.countP_eq_zero]
    intro k _ hk
    rw [Bool.and_eq_true] at hk
    obtain ⟨h3, h4⟩ := hk
    unfold inK at h4
    rw [List.any_eq_true] at h4
    obtain ⟨q, hq, h4⟩ := h4
    have hg := px q hq
    have g1 := goodR_of.1 gx
    have g2 := goodR_of.1 (hc.1 q hq)
    unfold in1K at h3 h4
    rw [decide_eq_true_iff] at h3 h4
    unfold Gap at hg
    omega
  unfold cardK
  have h3 : inK (x :: c) = fun k => in1K x k || inK c k := by funext k; rfl
  rw [h3]
  omega
theorem card_sum : ∀ c : List RunQ, Rt c → (cardK (inK c) : Int) = sumC c
  | [], _ => by
    have : cardK (inK []) = 0 := by unfold cardK; rw [List.countP_eq_zero]; intro k _ h; cases h
    rw [this]; rfl
  | x :: c, h => by
    obtain ⟨gx, _, hc⟩ := rt_cons.1 h
    have h1 := card_cons h
    have h2 := card_run gx
    have h3 := card_sum c hc
    have h4 : sumC (x :: c) = (x.2.2 - x.2.1 + 1) + sumC c := by unfold sumC; rw [List.map_cons, List.sum_cons]
    omega
/-- Counted by dots. -/
theorem inK_in {c : List RunQ} (h : Rt c) (k : Nat) : inK c k = true ↔ InC c ((k : Int) / 2199023255552) ((k : Int) % 2199023255552) := by
  unfold inK InC
  rw [List.any_eq_true]
  constructor
  · rintro ⟨r, hr, h1⟩
    refine ⟨r, hr, ?_⟩
    have g := goodR_of.1 (h.1 r hr)
    unfold in1K at h1
    rw [decide_eq_true_iff] at h1
    unfold In1
    omega
  · rintro ⟨r, hr, h1⟩
    refine ⟨r, hr, ?_⟩
    have g := goodR_of.1 (h.1 r hr)
    unfold In1 at h1
    unfold in1K
    rw [decide_eq_true_iff]
    omega
theorem inK_of {c : List RunQ} (h : Rt c) {n d : Int} (hi : InC c n d) : ∃ k : Nat, k < MAXK ∧ (k : Int) / 2199023255552 = n ∧ (k : Int) % 2199023255552 = d := by
  have g := goodB_of.1 (in_good h hi)
  refine ⟨(n * 2199023255552 + d).toNat, ?_, ?_, ?_⟩
  · unfold MAXK; omega
  · omega
  · omega
/-- What a join counts: what is in both is counted once. -/
theorem count_join_le {a b : List RunQ} (ha : Rt a) (hb : Rt b) : sumC (joinC a b) ≤ sumC a + sumC b ∧ sumC a ≤ sumC (joinC a b) ∧ sumC b ≤ sumC (joinC a b) ∧ (sumC (joinC a b) = sumC a + sumC b ↔ ∀ n d, ¬ (InC a n d ∧ InC b n d)) := by
  have hj := join_rt ha hb
  have ej : inK (joinC a b) = fun k => inK a k || inK b k := by
    funext k
    rw [Bool.eq_iff_iff, Bool.or_eq_true, inK_in hj, inK_in ha, inK_in hb]
    exact join_in ha hb _ _
  have h1 := countP_or (inK a) (inK b) (List.range MAXK)
  have s1 := card_sum _ hj
  have s2 := card_sum _ ha
  have s3 := card_sum _ hb
  have m1 : cardK (inK a) ≤ cardK (inK (joinC a b)) := List.countP_mono_left (fun k _ hk => by rw [ej]; simp [hk])
  have m2 : cardK (inK b) ≤ cardK (inK (joinC a b)) := List.countP_mono_left (fun k _ hk => by rw [ej]; simp [hk])
  have e1 : cardK (inK (joinC a b)) = (List.range MAXK).countP (fun k => inK a k || inK b k) := by unfold cardK; rw [ej]
  have ea : cardK (inK a) = (List.range MAXK).countP (inK a) := rfl
  have eb : cardK (inK b) = (List.range MAXK).countP (inK b) := rfl
  refine ⟨by omega, by omega, by omega, ?_⟩
  have h0 : sumC (joinC a b) = sumC a + sumC b ↔ (List.range MAXK).countP (fun k => inK a k && inK b k) = 0 := by omega
  rw [h0, List.countP_eq_zero]
  constructor
  · rintro h n d ⟨i1, i2⟩
    obtain ⟨k, hk, e2, e3⟩ := inK_of ha i1
    refine h k (List.mem_range.2 hk) ?_
    rw [Bool.and_eq_true, inK_in ha, inK_in hb, e2, e3]
    exact ⟨i1, i2⟩
  · intro h k _ hk
    rw [Bool.and_eq_true, inK_in ha, inK_in hb] at hk
    exact h _ _ hk

end Go.Proofs.YtbbfibgijackhaaDoor

namespace Go.Proofs.YtbbfibgijackhaaDoor
open Go.RowKit

def meetB (r s : RunQ) : Bool := decide (r.1 = s.1 ∧ r.2.1 ≤ s.2.2 ∧ s.2.1 ≤ r.2.2)
def meetI (b : List RunQ) (r : RunQ) : List RunQ := (b.filter (meetB r)).map fun _ => r
def meetsF (a b : List RunQ) : List RunQ := a.flatMap (meetI b)
theorem meetI_snoc (b : List RunQ) (r : RunQ) (j : Nat) (hj : j < b.length) : meetI (b.take (j + 1)) r = meetI (b.take j) r ++ (if meetB r (runAt b j) then [r] else []) := by
  unfold meetI
  rw [take_snocR b j hj, List.filter_append, List.map_append]
  cases h : meetB r (runAt b j)
  · rw [List.filter_cons_of_neg (by rw [h]; decide)]; rfl
  · rw [List.filter_cons_of_pos h]; rfl
theorem meetI_le (b : List RunQ) (r : RunQ) : (meetI b r).length ≤ b.length := by unfold meetI; rw [List.length_map]; exact List.length_filter_le _ _
theorem meetsF_snoc (a b : List RunQ) (k : Nat) (hk : k < a.length) : meetsF (a.take (k + 1)) b = meetsF (a.take k) b ++ meetI b (runAt a k) := by
  unfold meetsF
  rw [take_snocR a k hk, List.flatMap_append]
  simp
theorem meetsF_le (a b : List RunQ) : (meetsF a b).length ≤ a.length * b.length := by
  induction a with
  | nil => simp [meetsF]
  | cons x a ih =>
    have := meetI_le b x
    unfold meetsF at ih ⊢
    rw [List.flatMap_cons, List.length_append, List.length_cons, Nat.succ_mul]
    omega
/-- A row of more than one run is no run's own block. -/
theorem sep_grow2 {w' : World} {B M n : Nat} {v' : Value} {p q : RunQ} {rest : List RunQ} (hM : Blk w' M 33 (runL p)) (ho : w'.ownsRow B 33 3 v' n (flatR runL (rest ++ [q]))) (hr : rest ≠ []) : v'.ownBlock ≠ some M := by
  intro e
  have hlen := ho.1
  rw [flat_len3, List.length_append, List.length_singleton] at hlen
  have hp := List.length_pos_iff.2 hr
  rcases ho.2 with ⟨rfl, _⟩ | ⟨g, cap, cur, rfl, hb, hgg, hnc, hmx, hs, ht⟩
  · simp [Value.ownBlock] at e
  · have eg : g = M := by simpa [Value.ownBlock] using e
    subst eg
    have h2 := hgg.symm.trans (show w'.heap[g]? = _ from hM)
    injection h2 with h2
    injection h2 with h2 _ _
    have hc : cur.toList = runL p := by rw [h2]
    have hcs : cur.size = 3 := by rw [← Array.length_toList, hc]; rfl
    omega
def MoR (w : World) (B : Nat) (a b : List RunQ) (u i : Value) (wr : World) : Prop := ∃ (k : Nat) (out : List RunQ), k ≤ a.length ∧ i = .int .i64 k ∧ Hid (out = meetsF (a.take k) b) ∧ Hid (out = [] → u = .slice none 0 0) ∧
  Hid (wr.ownsRow B 33 3 u out.length (flatR runL out)) ∧ Hid (Kp Nb w wr)
def MiR (w : World) (B M k : Nat) (q : RunQ) (a b : List RunQ) (u i : Value) (wr : World) : Prop := ∃ (j : Nat) (out : List RunQ), j ≤ b.length ∧ i = .int .i64 j ∧ Hid (out = meetsF (a.take k) b ++ meetI (b.take j) q) ∧ Hid (out = [] → u = .slice none 0 0) ∧
  Hid (wr.ownsRow B 33 3 u out.length (flatR runL out)) ∧ Hid (u.ownBlock ≠ some M) ∧ Hid (Blk wr M 33 (runL q)) ∧ Hid (Kp Nb w wr)
set_option maxRecDepth 100000 in
set_option maxHeartbeats 8000000 in
theorem meets_any (va vb : Value) (a b : List RunQ) (w : World) (ha : ClSl w va a) (hb : ClSl w vb b) (la : a.length ≤ 1000) (lb : b.length ≤ 1000) :
    Calls Tryd.prog 28 #[va, vb] w fun e w' => ∃ v', e = .returned v' ∧ ClSl w' v' (meetsF a b) ∧ OwnV w v' w' ∧ Kp Nb w w' := by
  obtain ⟨pa, da, rfl⟩ := ha.shape
  obtain ⟨pb, db, rfl⟩ := hb.shape
  obtain ⟨L, hL⟩ : ∃ L, a.length = L := ⟨_, rfl⟩
  obtain ⟨H, hH⟩ : ∃ H, b.length = H := ⟨_, rfl⟩
  have HLE := hid hL
  have HHE := hid hH
  have HOKA := hid ha.ok
  rw [hL] at ha la ⊢
  rw [hH] at hb lb ⊢
  have HSA := hid ha
  have HSB := hid hb
  have HLB := hid (show L ≤ 1000 ∧ H ≤ 1000 from ⟨la, lb⟩)
  have HLEN : Hid (∀ k j q, (meetsF (a.take k) b ++ meetI (b.take j) q).length ≤ 1002000) := hid (fun k j q => by
    have h1 := meetsF_le (a.take k) b
    have h2 := meetI_le (b.take j) q
    have h3 : (a.take k).length ≤ 1000 := by rw [List.length_take]; omega
    have h4 : (b.take j).length ≤ 1000 := by rw [List.length_take]; omega
    have h5 : (a.take k).length * b.length ≤ 1000 * 1000 := Nat.mul_le_mul h3 (by omega)
    rw [List.length_append]
    omega)
  have hLb := la
  have hHb := lb
  obtain ⟨B, hB⟩ : ∃ B, w.heap.size = B := ⟨_, rfl⟩
  have HBE := hid hB
  clear ha hb hB hH hL la lb
  go_enter Tryd.func28, Tryd.ntmps28
  go_wp2_with fail
  go_loopw [5, 12] (MoR w B a b) (fun _ i _ => L - (intOf i).toNat)
  case atStart => exact ⟨0, [], Nat.zero_le _, rfl, hid rfl, hid (fun _ => rfl), hid (World.ownsRow_nil _ _ _ _), hid (Kp.refl _ _)⟩
  case round =>
    obtain ⟨k, out, hk, rfl, HT, HNL, HO, HK⟩ := hrel
    rw [HLE.out] at hk
    obtain ⟨a5, c5, rfl⟩ := own_shape HO.out
    by_cases hlt : k < L
    · obtain ⟨blk, off, cap, e1, hc, hm, hcell⟩ := cl_shape (HSA.out.kept HK.out) (by intro h; have := HLE.out; rw [h, List.length_nil] at this; omega)
      rw [HLE.out] at e1 hc hcell
      injection e1 with e1 _ e2
      subst e1 e2
      have HR := hid (hcell k hlt)
      obtain ⟨⟨qn, qf, qt⟩, hq⟩ : ∃ q, runAt a k = q := ⟨_, rfl⟩
      have HOK := HSA.out.1 k
      rw [hq] at HR HOK
      have HQ := hid hq
      obtain ⟨M, hM⟩ : ∃ M, wr.heap.size = M := ⟨_, rfl⟩
      obtain ⟨W2, hW2⟩ : ∃ W, W = (wr.alloc (.cells (runL (0, 0, 0)).toArray 33)).setCells M 0 (runL (qn, qf, qt)) := ⟨_, rfl⟩
      have hz := Blk.new wr 33 (runL (0, 0, 0))
      rw [hM] at hz
      have KW : Hid (Kp Nb wr W2) := hid (by rw [hW2]; exact Kp.setCells (fun h => absurd h (by omega)) _ 0 _ ((Kp.refl Nb wr).alloc _))
      have HMW : Hid (wr.heap.size = M) := hid hM
      have TH := hid (run_there (q := (qn, qf, qt)) hz)
      have HZ : Hid (Blk W2 M 33 (runL (qn, qf, qt))) := hid (by rw [hW2]; exact row_set hz rfl)
      have HK2 := hid (HK.out.trans KW.out (fun _ _ h => h))
      unfold maxLen at hm
      obtain ⟨fs, hfs⟩ := under_run
      clear hz hcell hq
      go_upto_region 5 with (first
        | (refine wpList_load_mid (by rfl) 33 (.tmp 14) (by rfl) blk (off + k * 3) (by rfl) (runL (qn, qf, qt)) _ HR.out hfs rfl (run_infoL (qn, qf, qt)) ?_)
        | (refine wpList_store_mid (by rfl) 33 (.tmp 7) (.tmp 15) (by rfl) M 0 (runL (qn, qf, qt)).toArray (by rfl) (by rfl) TH.out (run_infoA (qn, qf, qt)) (run_one (qn, qf, qt)) ?_))
      rw [show (wr.alloc (.cells #[.int .i64 0, .int .i64 0, .int .i64 0] 33)).setCells M 0 (runL (qn, qf, qt)) = W2 from hW2.symm]
      clear hW2 TH hM
      have c0 : W2.cell? ⟨M, 0, none⟩ = some (.int .i64 qn) := HZ.out.cell 0
      have c1 : W2.cell? ⟨M, 1, none⟩ = some (.int .i64 qf) := HZ.out.cell 1
      have c2 : W2.cell? ⟨M, 2, none⟩ = some (.int .i64 qt) := HZ.out.cell 2
      have HO2 := hid (ownsRow_kpD HO.out KW.out)
      have HOM : Hid ((Value.slice a5 out.length c5).ownBlock ≠ some M) := hid (fun hg => by
        obtain ⟨-, o, ho, -⟩ := row_cells HO.out hg
        have := (Array.getElem?_eq_some_iff.1 ho).1
        have := HMW.out
        omega)
      have HT0 : Hid (out = meetsF (a.take k) b ++ meetI (b.take 0) (qn, qf, qt)) := hid (by rw [HT.out]; unfold meetI; simp)
      have HTN : Hid (meetsF (a.take (k + 1)) b = meetsF (a.take k) b ++ meetI b (qn, qf, qt)) := hid (by rw [meetsF_snoc a b k (by rw [HLE.out]; exact hlt), HQ.out])
      have HMB : Hid (w.heap.size ≤ M) := hid (by have := HK.out.size; have := HMW.out; omega)
      clear c0 c1 c2 HT HK HO KW
      go_wp2_with fail
      go_loopw [5, 18] (MiR w B M k (qn, qf, qt) a b) (fun _ i _ => H - (intOf i).toNat)
      case atStart => exact ⟨0, out, Nat.zero_le _, rfl, HT0, HNL, HO2, HOM, HZ, HK2⟩
      case round =>
        clear HT0 HNL HO2 HOM HZ HK2
        obtain ⟨j, out2, hj, rfl, HT2, HNL2, HO2, HOM2, HZM, HKI⟩ := hrel
        rw [HHE.out] at hj
        obtain ⟨a6, c6, rfl⟩ := own_shape HO2.out
        by_cases hlt2 : j < H
        · obtain ⟨blk2, off2, cap2, e3, hc2, hm2, hcell2⟩ := cl_shape (HSB.out.kept HKI.out) (by intro h; have := HHE.out; rw [h, List.length_nil] at this; omega)
          rw [HHE.out] at e3 hc2 hcell2
          injection e3 with e3 _ e4
          subst e3 e4
          have HR2 := hid (hcell2 j hlt2)
          obtain ⟨⟨sn, sf, sT⟩, hq2⟩ : ∃ q, runAt b j = q := ⟨_, rfl⟩
          have HOK2 := HSB.out.1 j
          rw [hq2] at HR2 HOK2
          have HQ2 := hid hq2
          obtain ⟨M2, hM2⟩ : ∃ M, wr.heap.size = M := ⟨_, rfl⟩
          obtain ⟨W4, hW4⟩ : ∃ W, W = (wr.alloc (.cells (runL (0, 0, 0)).toArray 33)).setCells M2 0 (runL (sn, sf, sT)) := ⟨_, rfl⟩
          have hz2 := Blk.new wr 33 (runL (0, 0, 0))
          rw [hM2] at hz2
          have KW4 : Hid (Kp Nb wr W4) := hid (by rw [hW4]; exact Kp.setCells (fun h => absurd h (by omega)) _ 0 _ ((Kp.refl Nb wr).alloc _))
          have TH2 := hid (run_there (q := (sn, sf, sT)) hz2)
          have HZ2 : Hid (Blk W4 M2 33 (runL (sn, sf, sT))) := hid (by rw [hW4]; exact row_set hz2 rfl)
          have HKI2 := hid (HKI.out.trans KW4.out (fun _ _ h => h))
          have HBM4 := hid (HZM.out.kept KW4.out (fun h => h))
          have HO5 := hid (ownsRow_kpD HO2.out KW4.out)
          unfold maxLen at hm2
          obtain ⟨fs2, hfs2⟩ := under_run
          clear hz2 hcell2 hq2
          go_upto_region 8 with (first
            | (refine wpList_load_mid (by rfl) 33 (.tmp 20) (by rfl) blk2 (off2 + j * 3) (by rfl) (runL (sn, sf, sT)) _ HR2.out hfs2 rfl (run_infoL (sn, sf, sT)) ?_)
            | (refine wpList_store_mid (by rfl) 33 (.tmp 9) (.tmp 21) (by rfl) M2 0 (runL (sn, sf, sT)).toArray (by rfl) (by rfl) TH2.out (run_infoA (sn, sf, sT)) (run_one (sn, sf, sT)) ?_))
          rw [show (wr.alloc (.cells #[.int .i64 0, .int .i64 0, .int .i64 0] 33)).setCells M2 0 (runL (sn, sf, sT)) = W4 from hW4.symm]
          clear hW4 TH2 hM2
          have d0 : W4.cell? ⟨M, 0, none⟩ = some (.int .i64 qn) := HBM4.out.cell 0
          have d1 : W4.cell? ⟨M, 1, none⟩ = some (.int .i64 qf) := HBM4.out.cell 1
          have d2 : W4.cell? ⟨M, 2, none⟩ = some (.int .i64 qt) := HBM4.out.cell 2
          have e0 : W4.cell? ⟨M2, 0, none⟩ = some (.int .i64 sn) := HZ2.out.cell 0
          have e1' : W4.cell? ⟨M2, 1, none⟩ = some (.int .i64 sf) := HZ2.out.cell 1
          have e2' : W4.cell? ⟨M2, 2, none⟩ = some (.int .i64 sT) := HZ2.out.cell 2
          have HSN : Hid (meetI (b.take (j + 1)) (qn, qf, qt) = meetI (b.take j) (qn, qf, qt) ++ (if meetB (qn, qf, qt) (sn, sf, sT) then [(qn, qf, qt)] else [])) := hid (by rw [meetI_snoc b _ j (by rw [HHE.out]; exact hlt2), HQ2.out])
          have NX : Hid (meetB (qn, qf, qt) (sn, sf, sT) = false → out2 = meetsF (a.take k) b ++ meetI (b.take (j + 1)) (qn, qf, qt)) := hid (fun h => by rw [HSN.out, h, HT2.out]; simp)
          have YX : Hid (meetB (qn, qf, qt) (sn, sf, sT) = true → out2 ++ [(qn, qf, qt)] = meetsF (a.take k) b ++ meetI (b.take (j + 1)) (qn, qf, qt)) := hid (fun h => by rw [HSN.out, h, HT2.out]; simp)
          have HL2 : Hid (out2.length ≤ 1002000) := hid (by rw [HT2.out]; exact HLEN.out k j _)
          by_cases h1 : qn = sn
          · subst h1
            by_cases h2 : qf ≤ sT
            · by_cases h3 : sf ≤ qt
              · have YT := hid (YX.out (by unfold meetB; simp [h2, h3]))
                have RM := hid (range_ofR HBM4.out)
                have MK := hid (make_run1 W4 qn qf qt)
                obtain ⟨i0, zz, hi, hz0, hz1, hz2, hz3⟩ := run_info3
                by_cases hE : out2 = []
                · obtain hES := HNL2.out hE
                  subst hE
                  cases hES
                  have B2 : Hid (([] : List RunQ).length + [(qn, qf, qt)].length ≤ maxLen ∧ (([] : List RunQ).length + [(qn, qf, qt)].length) * 24 ≤ 140737488355328 ∧ M + 1 ≤ (W4.alloc (.cells #[.int .i64 qn, .int .i64 qf, .int .i64 qt] 33 (0, 0))).heap.size) := hid (by
                    have h1 := HKI2.out.size
                    have h2 := ((Kp.refl Nb W4).alloc (.cells #[.int .i64 qn, .int .i64 qf, .int .i64 qt] 33 (0, 0))).size
                    have h3 := HL2.out
                    have h4 := HBE.out
                    have h5 := HBM4.out.lt
                    refine ⟨?_, ?_, by omega⟩ <;> rw [List.length_singleton]
                    · unfold maxLen; omega
                    · omega)
                  go_wp2_with (first
                    | (refine wpList_load_mid (by rfl) 33 (.tmp 7) (by rfl) M 0 (by rfl) (runL (qn, qf, qt)) _ RM.out hfs2 rfl (run_infoL (qn, qf, qt)) ?_)
                    | (refine wpList_val (by rfl) _ _ (exec_buildSliceD rfl (qs := #[(0, .agg #[.int .i64 qn, .int .i64 qf, .int .i64 qt])]) (by simp [Act.eval, Act.put]) MK.out) ?_)
                    | (at_builtin; refine wpList_append_rows (f := runL) (z := (0, 0, 0)) (c := 3) rfl _ _ 23 rfl (M + 1) 33 i0 zz 24 under_clock hi hz0 hz1 hz2 hz3 (by decide) _ _ _ rfl (ownsRow_kpD (World.ownsRow_nil _ _ _ _) ((Kp.refl Nb _).alloc _)) _ [(qn, qf, qt)] rfl (rows_oneR (Blk.new _ _ _)) (fun x hx => rfl) (fun x _ => run_one' x) B2.out.1 B2.out.2.1 B2.out.2.2 ?_))
                  intro v10 w10 hown hgrow
                  have KA : Hid (Kp Nb w w10) := hid ((HKI2.out.trans ((Kp.refl Nb W4).alloc (.cells #[.int .i64 qn, .int .i64 qf, .int .i64 qt] 33 (0, 0))) (fun _ _ h => h)).grown hgrow (fun g hg h => by have := (row_cells HO5.out hg).1; have := HBE.out; omega))
                  have HMA : Hid (Blk w10 M 33 (runL (qn, qf, qt))) := hid ((hgrow.block M (HBM4.out.alloc _).lt (fun h => HOM2.out h.symm)).trans (HBM4.out.alloc _))
                  have HOB : w10.ownsRow (M + 1) 33 3 v10 (([] : List RunQ) ++ [(qn, qf, qt)]).length (flatR runL (([] : List RunQ) ++ [(qn, qf, qt)])) := by rw [List.length_append, flatR_append]; exact hown
                  have HSA2 : Hid (v10.ownBlock ≠ some M) := hid (fun e => by have := (row_cells HOB e).1; omega)
                  have HOA : Hid (w10.ownsRow B 33 3 v10 (([] : List RunQ) ++ [(qn, qf, qt)]).length (flatR runL (([] : List RunQ) ++ [(qn, qf, qt)]))) := hid (ownsRow_le HOB (by have := HBE.out; have := HMB.out; omega))
                  obtain ⟨a10, c10, rfl⟩ := own_shape HOB
                  clear hown hgrow HOB d0 d1 d2 e0 e1' e2'
                  go_wp2
                  go_roundw
                  case rel => exact ⟨j + 1, _, by rw [HHE.out]; omega, by go_num, YT, hid (fun h => by simp at h), HOA, HSA2, HMA, KA⟩
                  case measure => simp [intOf]; omega
                · have B2 : Hid (out2.length + [(qn, qf, qt)].length ≤ maxLen ∧ (out2.length + [(qn, qf, qt)].length) * 24 ≤ 140737488355328 ∧ B ≤ (W4.alloc (.cells #[.int .i64 qn, .int .i64 qf, .int .i64 qt] 33 (0, 0))).heap.size) := hid (by
                    have h1 := HKI2.out.size
                    have h2 := ((Kp.refl Nb W4).alloc (.cells #[.int .i64 qn, .int .i64 qf, .int .i64 qt] 33 (0, 0))).size
                    have h3 := HL2.out
                    have h4 := HBE.out
                    have h5 := HBM4.out.lt
                    refine ⟨?_, ?_, by omega⟩ <;> rw [List.length_singleton]
                    · unfold maxLen; omega
                    · omega)
                  go_wp2_with (first
                    | (refine wpList_load_mid (by rfl) 33 (.tmp 7) (by rfl) M 0 (by rfl) (runL (qn, qf, qt)) _ RM.out hfs2 rfl (run_infoL (qn, qf, qt)) ?_)
                    | (refine wpList_val (by rfl) _ _ (exec_buildSliceD rfl (qs := #[(0, .agg #[.int .i64 qn, .int .i64 qf, .int .i64 qt])]) (by simp [Act.eval, Act.put]) MK.out) ?_)
                    | (at_builtin; refine wpList_append_rows (f := runL) (z := (0, 0, 0)) (c := 3) rfl _ _ 23 rfl (B) 33 i0 zz 24 under_clock hi hz0 hz1 hz2 hz3 (by decide) _ _ _ rfl (ownsRow_kpD HO5.out ((Kp.refl Nb _).alloc _)) _ [(qn, qf, qt)] rfl (rows_oneR (Blk.new _ _ _)) (fun x hx => rfl) (fun x _ => run_one' x) B2.out.1 B2.out.2.1 B2.out.2.2 ?_))
                  intro v10 w10 hown hgrow
                  have KA : Hid (Kp Nb w w10) := hid ((HKI2.out.trans ((Kp.refl Nb W4).alloc (.cells #[.int .i64 qn, .int .i64 qf, .int .i64 qt] 33 (0, 0))) (fun _ _ h => h)).grown hgrow (fun g hg h => by have := (row_cells HO5.out hg).1; have := HBE.out; omega))
                  have HMA : Hid (Blk w10 M 33 (runL (qn, qf, qt))) := hid ((hgrow.block M (HBM4.out.alloc _).lt (fun h => HOM2.out h.symm)).trans (HBM4.out.alloc _))
                  have HOB : w10.ownsRow (B) 33 3 v10 (out2 ++ [(qn, qf, qt)]).length (flatR runL (out2 ++ [(qn, qf, qt)])) := by rw [List.length_append, flatR_append]; exact hown
                  have HSA2 : Hid (v10.ownBlock ≠ some M) := hid (sep_grow2 HMA.out HOB hE)
                  have HOA : Hid (w10.ownsRow B 33 3 v10 (out2 ++ [(qn, qf, qt)]).length (flatR runL (out2 ++ [(qn, qf, qt)]))) := hid (ownsRow_le HOB (by have := HBE.out; have := HMB.out; omega))
                  obtain ⟨a10, c10, rfl⟩ := own_shape HOB
                  clear hown hgrow HOB d0 d1 d2 e0 e1' e2'
                  go_wp2
                  go_roundw
                  case rel => exact ⟨j + 1, _, by rw [HHE.out]; omega, by go_num, YT, hid (fun h => by simp at h), HOA, HSA2, HMA, KA⟩
                  case measure => simp [intOf]; omega
              · have NT := hid (NX.out (by unfold meetB; simp [h3]))
                go_wp2
                go_roundw
                case rel => exact ⟨j + 1, out2, by rw [HHE.out]; omega, by go_num, NT, HNL2, HO5, HOM2, HBM4, HKI2⟩
                case measure => simp [intOf]; omega
            · have NT := hid (NX.out (by unfold meetB; simp [h2]))
              go_wp2
              go_roundw
              case rel => exact ⟨j + 1, out2, by rw [HHE.out]; omega, by go_num, NT, HNL2, HO5, HOM2, HBM4, HKI2⟩
              case measure => simp [intOf]; omega
          · have NT := hid (NX.out (by unfold meetB; simp [h1]))
            go_wp2
            go_roundw
            case rel => exact ⟨j + 1, out2, by rw [HHE.out]; omega, by go_num, NT, HNL2, HO5, HOM2, HBM4, HKI2⟩
            case measure => simp [intOf]; omega
        · obtain rfl : j = H := by omega
          have HTF : Hid (out2 = meetsF (a.take (k + 1)) b) := hid (by rw [HTN.out, HT2.out]; congr 2; rw [← HHE.out, List.take_length])
          go_wp2
          go_roundw
          case rel => exact ⟨k + 1, out2, by rw [HLE.out]; omega, by go_num, HTF, HNL2, HO2, HKI⟩
          case measure => simp [intOf]; omega
    · obtain rfl : k = L := by omega
      have HTF : Hid (out = meetsF a b) := hid (by have := HT.out; rwa [← HLE.out, List.take_length] at this)
      have HFM : Hid (∀ q ∈ out, RunOk q) := hid (fun q hq => by
        rw [HTF.out] at hq
        unfold meetsF at hq
        obtain ⟨r, hr, hq⟩ := List.mem_flatMap.1 hq
        unfold meetI at hq
        obtain ⟨s, -, rfl⟩ := List.mem_map.1 hq
        exact HOKA.out r hr)
      go_wp2
      go_ret
      rw [← HTF.out]
      exact ⟨_, rfl, cl_owned HO.out HFM.out, own_of (ownsRow_le (base' := w.heap.size) HO.out (by have := HBE.out; omega)), HK.out⟩

end Go.Proofs.YtbbfibgijackhaaDoor

namespace Go.Proofs.YtbbfibgijackhaaDoor
open Go.RowKit

theorem meet_share {r s : RunQ} (hr : goodR r = true) (hs : goodR s = true) : meetB r s = true ↔ ∃ n d, In1 r n d ∧ In1 s n d := by
  have g1 := goodR_of.1 hr
  have g2 := goodR_of.1 hs
  unfold meetB In1
  rw [decide_eq_true_iff]
  constructor
  · rintro ⟨h1, h2, h3⟩
    refine ⟨r.1, max r.2.1 s.2.1, ⟨rfl, ?_, ?_⟩, h1.symm, ?_, ?_⟩ <;> omega
  · rintro ⟨n, d, ⟨h1, h2, h3⟩, h4, h5, h6⟩
    exact ⟨by omega, by omega, by omega⟩
theorem meets_nil {a b : List RunQ} (ha : Rt a) (hb : Rt b) : meetsF a b = [] ↔ ∀ n d, ¬ (InC a n d ∧ InC b n d) := by
  unfold meetsF meetI
  rw [List.flatMap_eq_nil_iff]
  constructor
  · rintro h n d ⟨⟨r, hr, h1⟩, s, hs, h2⟩
    have := h r hr
    rw [List.map_eq_nil_iff, List.filter_eq_nil_iff] at this
    exact this s hs ((meet_share (ha.1 r hr) (hb.1 s hs)).2 ⟨n, d, h1, h2⟩)
  · intro h r hr
    rw [List.map_eq_nil_iff, List.filter_eq_nil_iff]
    intro s hs hm
    obtain ⟨n, d, h1, h2⟩ := (meet_share (ha.1 r hr) (hb.1 s hs)).1 hm
    exact h n d ⟨⟨r, hr, h1⟩, s, hs, h2⟩
theorem ofC_eq {c : List RunQ} (h : Rt c) (n : Int) : ofC c n = ofF c n := by unfold ofC; rw [if_pos (rightC_rt.2 h)]
theorem of_rt {c : List RunQ} (h : Rt c) (n : Int) : Rt (ofC c n) := by
  rw [ofC_eq h]
  exact ⟨fun r hr => h.1 r (List.mem_filter.1 hr).1, h.2.filter _⟩
theorem of_in {c : List RunQ} (h : Rt c) (n m d : Int) : InC (ofC c n) m d ↔ InC c m d ∧ m = n := by
  rw [ofC_eq h]
  unfold InC ofF
  constructor
  · rintro ⟨r, hr, h1⟩
    obtain ⟨hm, hn⟩ := List.mem_filter.1 hr
    have hn := of_decide_eq_true hn
    exact ⟨⟨r, hm, h1⟩, by rw [← h1.1, hn]⟩
  · rintro ⟨⟨r, hm, h1⟩, rfl⟩
    exact ⟨r, List.mem_filter.2 ⟨hm, decide_eq_true h1.1⟩, h1⟩
theorem top_in {c : List RunQ} (h : Rt c) {n d : Int} (hi : InC c n d) : d ≤ topC c n := by
  have hr := of_rt h n
  have hi2 := (of_in h n n d).2 ⟨hi, rfl⟩
  unfold topC topF
  rw [if_pos (rightC_rt.2 h)]
  rw [ofC_eq h] at hr hi2
  obtain ⟨r, hm, h1⟩ := hi2
  rcases List.eq_nil_or_concat (ofF c n) with e | ⟨l, x, e⟩
  · rw [e] at hm; simp at hm
  · have e' : ofF c n = l ++ [x] := by rw [e, List.concat_eq_append]
    rw [e', List.getLast?_concat]
    show d ≤ x.2.2
    have hxn : x.1 = n := by
      have hx : x ∈ ofF c n := by rw [e']; simp
      exact of_decide_eq_true (List.mem_filter.1 hx).2
    have gx := goodR_of.1 (hr.1 x (by rw [e']; simp))
    rw [e'] at hm hr
    rcases List.mem_append.1 hm with hm | hm
    · have hg := (List.pairwise_append.1 hr.2).2.2 r hm x (by simp)
      unfold Gap at hg
      unfold In1 at h1
      omega
    · have : r = x := by simpa using hm
      subst this
      exact h1.2.2
theorem one_rt {n d : Int} (h : goodB n d = true) : Rt [(n, d, d)] := by
  have g := goodB_of.1 h
  refine ⟨fun r hr => ?_, by simp⟩
  have : r = (n, d, d) := by simpa using hr
  subst this
  exact goodR_of.2 ⟨g.1, g.2.1, g.2.2.1, by show d ≤ d; omega, g.2.2.2⟩
theorem with_rt {c : List RunQ} (h : Rt c) {n d : Int} (hg : goodB n d = true) : Rt (withC c n d) := by unfold withC; rw [if_pos hg]; exact join_rt h (one_rt hg)
theorem with_in {c : List RunQ} (h : Rt c) {n d : Int} (hg : goodB n d = true) (m e : Int) : InC (withC c n d) m e ↔ InC c m e ∨ (m = n ∧ e = d) := by
  unfold withC
  rw [if_pos hg, join_in h (one_rt hg), inC_one]
  unfold In1
  constructor
  · rintro (h | ⟨h1, h2, h3⟩)
    · exact .inl h
    · exact .inr ⟨h1.symm, by have h2 : d ≤ e := h2; have h3 : e ≤ d := h3; omega⟩
  · rintro (h | ⟨h1, h2⟩)
    · exact .inl h
    · exact .inr ⟨h1.symm, by show d ≤ e; omega, by show e ≤ d; omega⟩
/-- What the law says of each dot, as equations of plain answers. -/
theorem has_join {a b : List RunQ} (ha : Rt a) (hb : Rt b) (n d : Int) : hasC (joinC a b) n d = (hasC a n d || hasC b n d) := by
  rw [Bool.eq_iff_iff, Bool.or_eq_true, hasC_in (join_rt ha hb), hasC_in ha, hasC_in hb]
  exact join_in ha hb n d
theorem has_with {c : List RunQ} (h : Rt c) {n d : Int} (hg : goodB n d = true) (m e : Int) : hasC (withC c n d) m e = (hasC c m e || (decide (m = n) && decide (e = d))) := by
  rw [Bool.eq_iff_iff, Bool.or_eq_true, Bool.and_eq_true, decide_eq_true_iff, decide_eq_true_iff, hasC_in (with_rt h hg), hasC_in h]
  exact with_in h hg m e
theorem has_of {c : List RunQ} (h : Rt c) (n m d : Int) : hasC (ofC c n) m d = (hasC c m d && decide (m = n)) := by
  rw [Bool.eq_iff_iff, Bool.and_eq_true, decide_eq_true_iff, hasC_in (of_rt h n), hasC_in h]
  exact of_in h n m d
theorem has_top {c : List RunQ} (h : Rt c) {m d : Int} (hh : hasC c m d = true) : ¬ topC c m < d := by
  have := top_in h ((hasC_in h).1 hh)
  omega
theorem count_facts {a b : List RunQ} (ha : rightC a = true) (hb : rightC b = true) : countC (joinC a b) ≤ countC a + countC b ∧ countC a ≤ countC (joinC a b) ∧ countC b ≤ countC (joinC a b) ∧ (countC (joinC a b) = countC a + countC b ↔ meetsF a b = []) := by
  have h1 := rightC_rt.1 ha
  have h2 := rightC_rt.1 hb
  have h := count_join_le h1 h2
  unfold countC
  rw [ha, hb, rightC_rt.2 (join_rt h1 h2), if_pos rfl, if_pos rfl, if_pos rfl, meets_nil h1 h2]
  exact h

end Go.Proofs.YtbbfibgijackhaaDoor

namespace Go.Proofs.YtbbfibgijackhaaDoor
open Go.RowKit

def cA : List RunQ := [(0, 1, 3), (2, 1, 1)]
def cB : List RunQ := [(0, 4, 4), (1, 5, 5)]
def cJ : List RunQ := [(0, 1, 4), (1, 5, 5), (2, 1, 1)]
theorem mk_a (w : World) : (Instr.buildSlice 23 2 #[(0, .agg #[.int .i64 0, .int .i64 1, .int .i64 3]), (1, .agg #[.int .i64 2, .int .i64 1, .int .i64 1])]).run Tryd.prog w = .ok (.slice (some ⟨w.heap.size, 0, none⟩) 2 2) (w.alloc (.cells #[.int .i64 0, .int .i64 1, .int .i64 3, .int .i64 2, .int .i64 1, .int .i64 1] 33 (0, 0))) := by kernel_rfl
theorem mk_b (w : World) : (Instr.buildSlice 23 2 #[(0, .agg #[.int .i64 0, .int .i64 4, .int .i64 4]), (1, .agg #[.int .i64 1, .int .i64 5, .int .i64 5])]).run Tryd.prog w = .ok (.slice (some ⟨w.heap.size, 0, none⟩) 2 2) (w.alloc (.cells #[.int .i64 0, .int .i64 4, .int .i64 4, .int .i64 1, .int .i64 5, .int .i64 5] 33 (0, 0))) := by kernel_rfl
theorem mk_z (w : World) : (Instr.buildSlice 23 1 #[(0, .agg #[.int .i64 0, .int .i64 0, .int .i64 0])]).run Tryd.prog w = .ok (.slice (some ⟨w.heap.size, 0, none⟩) 1 1) (w.alloc (.cells #[.int .i64 0, .int .i64 0, .int .i64 0] 33 (0, 0))) := by kernel_rfl
theorem cl_blk {w : World} {N : Nat} {c : List RunQ} (h : Blk w N 33 (flatR runL c)) (hok : ∀ q ∈ c, RunOk q) (hm : c.length ≤ maxLen) : ClSl w (.slice (some ⟨N, 0, none⟩) c.length c.length) c :=
  ⟨runAt_ok hok, RowsSl.of_blk h rfl hm (fun i hi j hj => flatR_get c i j (fun _ _ => rfl) hi hj)⟩
theorem wpList_valZ {P : Program} {ops : Array Oper} {rest : List Oper} {o : Oper} {a : Act} {w : World} {Q : Exit → Act → World → Prop} (hw : Region.wanted o (yielded ops a.tmps) = true) (v : Value) (w' : World) (h1 : (execOp a.eval o).run P w = .ok (.value v) w')
    (h : wpList P ops Q rest (a.put o.dst v) w') : wpList P ops Q (o :: rest) a w :=
  wpList_step fun K hK => by
    rw [if_pos hw]
    unfold Oper.wp
    rw [h1]
    exact hK _ _ h
theorem z_join : joinC cA cB = cJ := by kernel_rfl
theorem z_textA : bs (textC cA) = ⟨#[48, 58, 49, 45, 51, 32, 50, 58, 49]⟩ := by kernel_rfl
theorem z_textJ : bs (textC cJ) = ⟨#[48, 58, 49, 45, 52, 32, 49, 58, 53, 32, 50, 58, 49]⟩ := by kernel_rfl
theorem z_cmp1 : cmpC cA cJ = -1 := by kernel_rfl
theorem z_cmp2 : cmpC cA cB = 2 := by kernel_rfl
theorem z_count : countC cJ = 6 := by kernel_rfl
theorem z_ra : rightC cA = true := by kernel_rfl
theorem z_hasA : hasC cA 0 2 = true := by kernel_rfl
theorem z_hasB : hasC cB 0 2 = false := by kernel_rfl
theorem z_top : topC cJ 0 = 4 := by kernel_rfl
theorem z_rz : rightC [(0, 0, 0)] = false := by kernel_rfl
theorem z_ok : (∀ q ∈ cA, RunOk q) ∧ ∀ q ∈ cB, RunOk q := by
  refine ⟨fun q hq => ?_, fun q hq => ?_⟩ <;> simp only [cA, cB, List.mem_cons, List.not_mem_nil, or_false] at hq <;> rcases hq with rfl | rfl <;> unfold RunOk I64 <;> simp
structure Fsd (w : World) (va vb vj vP : Value) (P : Nat) (zs : List Int) (W : World) : Prop where
  ha : ClSl W va cA
  hb : ClSl W vb cB
  hj : ClSl W vj cJ
  hp : PenAt W P vP zs
  k : Kp Nb w W
theorem Fsd.step {w W W' : World} {va vb vj vP : Value} {P : Nat} {zs : List Int} (h : Fsd w va vb vj vP P zs W) (k : Kp Nb W W') : Fsd w va vb vj vP P zs W' :=
  ⟨h.ha.kept k, h.hb.kept k, h.hj.kept k, h.hp.kept k (fun h => h) (fun _ _ h => h), h.k.trans k (fun _ _ h => h)⟩
set_option maxRecDepth 100000 in
set_option maxHeartbeats 4000000 in
theorem dfirst_any (w : World) (ht : Tab w) (hm : Mx w) : Calls Tryd.prog 6 #[] w fun e w' => e = .returned (.bool true) ∧ Kp Nb w w' := by
  have HT := hid ht
  have HM := hid hm
  have MA := hid mk_a
  have MB := hid mk_b
  have MZ := hid mk_z
  have ZP : Hid (putB cA = true) := hid (by kernel_rfl)
  have ZL : Hid ((bytesC cA).length ≤ 100000) := hid (bytesC_len z_ra (by decide))
  obtain ⟨N, hN⟩ : ∃ N, w.heap.size = N := ⟨_, rfl⟩
  obtain ⟨W1, hW1⟩ : ∃ W, W = w.alloc (.cells #[.int .i64 0, .int .i64 1, .int .i64 3, .int .i64 2, .int .i64 1, .int .i64 1] 33 (0, 0)) := ⟨_, rfl⟩
  obtain ⟨W2, hW2⟩ : ∃ W, W = W1.alloc (.cells #[.int .i64 0, .int .i64 4, .int .i64 4, .int .i64 1, .int .i64 5, .int .i64 5] 33 (0, 0)) := ⟨_, rfl⟩
  have S1 : W1.heap.size = N + 1 := by rw [hW1, ← hN]; exact Array.size_push _
  have A1 : ClSl W1 (.slice (some ⟨N, 0, none⟩) 2 2) cA := cl_blk (by rw [hW1, ← hN]; exact Blk.new w 33 (flatR runL cA)) z_ok.1 (by simp [cA, maxLen])
  have k12 : Kp Nb W1 W2 := by rw [hW2]; exact (Kp.refl Nb W1).alloc _
  have A2 : Hid (ClSl W2 (.slice (some ⟨N, 0, none⟩) 2 2) cA) := hid (A1.kept k12)
  have B2 : Hid (ClSl W2 (.slice (some ⟨N + 1, 0, none⟩) 2 2) cB) := hid (cl_blk (by rw [hW2, ← S1]; exact Blk.new W1 33 (flatR runL cB)) z_ok.2 (by simp [cB, maxLen]))
  have K2 : Hid (Kp Nb w W2) := hid (Kp.trans (by rw [hW1]; exact (Kp.refl Nb w).alloc _) k12 (fun _ _ h => h))
  have MA1 : Hid ((Instr.buildSlice 23 2 #[(0, .agg #[.int .i64 0, .int .i64 1, .int .i64 3]), (1, .agg #[.int .i64 2, .int .i64 1, .int .i64 1])]).run Tryd.prog w = .ok (.slice (some ⟨N, 0, none⟩) 2 2) W1) := hid (by rw [hW1, ← hN]; exact MA.out w)
  have MB1 : Hid ((Instr.buildSlice 23 2 #[(0, .agg #[.int .i64 0, .int .i64 4, .int .i64 4]), (1, .agg #[.int .i64 1, .int .i64 5, .int .i64 5])]).run Tryd.prog W1 = .ok (.slice (some ⟨N + 1, 0, none⟩) 2 2) W2) := hid (by rw [hW2, ← S1]; exact MB.out W1)
  have HNP : Hid (N + 2 ≤ W2.heap.size) := hid (by rw [hW2]; have : (W1.alloc (.cells #[.int .i64 0, .int .i64 4, .int .i64 4, .int .i64 1, .int .i64 5, .int .i64 5] 33 (0, 0))).heap.size = W1.heap.size + 1 := Array.size_push _; omega)
  clear hW1 hW2 A1 k12 S1 hN ht hm
  go_enter Tryd.func6, Tryd.ntmps6
  go_wp2_with (first
    | (refine wpList_val (by rfl) _ _ (exec_buildSliceD rfl (qs := #[(0, .agg #[.int .i64 0, .int .i64 1, .int .i64 3]), (1, .agg #[.int .i64 2, .int .i64 1, .int .i64 1])]) (by simp [Act.eval, Act.put]) MA1.out) ?_)
    | (refine wpList_val (by rfl) _ _ (exec_buildSliceD rfl (qs := #[(0, .agg #[.int .i64 0, .int .i64 4, .int .i64 4]), (1, .agg #[.int .i64 1, .int .i64 5, .int .i64 5])]) (by simp [Act.eval, Act.put]) MB1.out) ?_))
  have C := join_any _ _ cA cB W2 A2.out B2.out (by decide) (by decide)
  rw [z_join] at C
  refine C.mono ?_
  rintro r w3 ⟨vj, rfl, h3, ho3, k3⟩
  have GJ : Hid (∀ g, vj.ownBlock = some g → g < w3.heap.size) := hid (fun g hg => (ho3 g hg).2)
  obtain ⟨yj, dj, e3⟩ := h3.shape
  have e3 : vj = .slice yj 3 dj := e3
  subst e3
  have A3 := hid (A2.out.kept k3)
  have B3 := hid (B2.out.kept k3)
  have J3 := hid h3
  have K3 := hid (K2.out.trans k3 (fun _ _ h => h))
  have N3 : Hid (N + 2 ≤ w3.heap.size) := hid (by have := HNP.out; have := k3.size; omega)
  clear C k3 h3 ho3 A2 B2 K2 HNP
  obtain ⟨P, hP⟩ : ∃ P, w3.heap.size = P := ⟨_, rfl⟩
  obtain ⟨W4, hW4⟩ : ∃ W, W = w3.alloc (.cells #[.slice none 0 0] 42) := ⟨_, rfl⟩
  have PN : Hid (PenAt W4 P (.slice none 0 0) []) := hid (by rw [hW4, ← hP]; exact pen_new w3)
  have K4 : Hid (Kp Nb w3 W4) := hid (by rw [hW4]; exact (Kp.refl Nb w3).alloc _)
  have HP3 := hid hP
  have CP := dput_any P _ cA W4 (A3.out.kept K4.out) PN.out (fun g hg => by
    have : N = g := by simpa [Value.ownBlock] using hg
    have := N3.out
    have := HP3.out
    omega) (by decide)
  rw [ZP.out, if_pos rfl] at CP
  have CP := hid CP
  go_upto_region 4 with fail
  rw [← hW4]
  try simp only [hP]
  clear hW4 hP
  go_wp2_with fail
  refine CP.out.mono ?_
  rintro r w5 ⟨rfl, vP, p5, t5⟩
  have NA : ∀ g, (Value.ownBlock (.slice (some ⟨N, 0, none⟩) 2 2)) = some g → g ≠ P := fun g hg => by
    have : N = g := by simpa [Value.ownBlock] using hg
    have := N3.out
    have := HP3.out
    omega
  have NB : ∀ g, (Value.ownBlock (.slice (some ⟨N + 1, 0, none⟩) 2 2)) = some g → g ≠ P := fun g hg => by
    have : N + 1 = g := by simpa [Value.ownBlock] using hg
    have := N3.out
    have := HP3.out
    omega
  have NJ : ∀ g, (Value.slice yj 3 dj).ownBlock = some g → g ≠ P := fun g hg => by
    have := GJ.out g hg
    have := HP3.out
    omega
  have HF : Hid (Fsd w (.slice (some ⟨N, 0, none⟩) 2 2) (.slice (some ⟨N + 1, 0, none⟩) 2 2) (.slice yj 3 dj) vP P (bytesC cA) w5) := hid ⟨pen_sepC t5 (A3.out.kept K4.out) NA, pen_sepC t5 (B3.out.kept K4.out) NB, pen_sepC t5 (J3.out.kept K4.out) NJ, p5,
    (K3.out.trans K4.out (fun _ _ h => h)).trans t5.kp (fun i hi h => h.elim (fun h => by have := HP3.out; have := K3.out.size; omega) (fun h => by simp [Value.ownBlock] at h))⟩
  clear NA NB NJ
  clear CP PN K3 K4 A3 B3 J3 GJ p5 t5
  go_wp2_with fail
  have C := parse_any cA w5 z_ra (by decide) (HM.out.kept HF.out.k) (HT.out.kept HF.out.k)
  rw [z_textA] at C
  refine C.mono ?_
  rintro r w6 ⟨vc, rfl, hc, -, k⟩
  obtain ⟨yc, dc, ec⟩ := hc.shape
  have ec : vc = .slice yc 2 dc := ec
  subst ec
  have HC := hid hc
  clear hc
  have HF := hid (HF.out.step k)
  clear C k
  go_wp2_with fail
  have C := text_any _ cJ w6 HF.out.hj (by decide) (HT.out.kept HF.out.k)
  rw [z_textJ] at C
  refine C.mono ?_
  rintro r w7 ⟨rfl, k⟩
  have HC := hid (HC.out.kept k)
  have HF := hid (HF.out.step k)
  clear C k
  go_wp2_with fail
  have C := compare_any _ _ cA cJ w7 HF.out.ha HF.out.hj (by decide) (by decide)
  rw [z_cmp1] at C
  refine C.mono ?_
  rintro r w8 ⟨rfl, k⟩
  have HC := hid (HC.out.kept k)
  have HF := hid (HF.out.step k)
  clear C k
  go_wp2_with fail
  have C := compare_any _ _ cA cB w8 HF.out.ha HF.out.hb (by decide) (by decide)
  rw [z_cmp2] at C
  refine C.mono ?_
  rintro r w9 ⟨rfl, k⟩
  have HC := hid (HC.out.kept k)
  have HF := hid (HF.out.step k)
  clear C k
  go_wp2_with fail
  have C := count_any _ cJ w9 HF.out.hj (by decide)
  rw [z_count] at C
  refine C.mono ?_
  rintro r w10 ⟨rfl, k⟩
  have HC := hid (HC.out.kept k)
  have HF := hid (HF.out.step k)
  clear C k
  go_wp2_with fail
  have C := pen_bytes P vP _ w10 HF.out.hp (by have := ZL.out; omega)
  refine C.mono ?_
  rintro r w11 ⟨rb, rfl, ow, k⟩
  have HC := hid (HC.out.kept k)
  have BY : Hid (BySl Nb w11 rb (bytesC cA)) := hid (BySl.ofOwn ow HF.out.hp.bytes (fun _ _ _ h => h))
  obtain ⟨yr, dr, rfl⟩ := own_shape ow
  clear ow
  have HF := hid (HF.out.step k)
  clear C k
  go_wp2_with fail
  refine (read_any _ _ w11 BY.out (by have := ZL.out; omega)).mono ?_
  rintro r w12 ⟨Be, hBe, rfl, he, k14⟩
  have HEY := hid (EyeOn.of he w12.heap.size (Nat.le_refl _))
  have HBE := hid hBe
  have K14 := hid k14
  clear he k14 hBe
  go_wp2_with fail
  have C := dget_any Be (bytesC cA) 0 w12 (S := fun i => i = Be ∨ w12.heap.size ≤ i) (fun i => Iff.rfl) HEY.out
  rw [get_back z_ra (by decide)] at C
  dsimp only at C
  refine C.mono ?_
  rintro r w13 ⟨vg, rfl, hg, -, -, k15⟩
  obtain ⟨yg, dg, eg⟩ := hg.shape
  have eg : vg = .slice yg 2 dg := eg
  subst eg
  have K15 : Kp Nb w11 w13 := K14.out.trans (S' := Jb Be) k15 (fun i hi h => by have h' : i = Be := h; have := HBE.out; omega)
  have HF := hid (HF.out.step K15)
  have HC : Hid (ClSl w13 (.slice yc 2 dc) cA) := hid (HC.out.kept K15)
  have HG := hid hg
  clear C k15 hg K15
  go_wp2_with fail
  have C := same_any _ _ cA cA w13 HG.out HF.out.ha (by decide) (by decide)
  rw [decide_eq_true rfl] at C
  refine C.mono ?_
  rintro r w14 ⟨rfl, k⟩
  have HC := hid (HC.out.kept k)
  have HF := hid (HF.out.step k)
  clear C k
  go_wp2_with fail
  have C := same_any _ _ cA cA w14 HC.out HF.out.ha (by decide) (by decide)
  rw [decide_eq_true rfl] at C
  refine C.mono ?_
  rintro r w15 ⟨rfl, k⟩
  have HF := hid (HF.out.step k)
  clear C k
  go_wp2_with fail
  have C := has_any _ cA 0 2 w15 HF.out.ha (by decide)
  rw [z_hasA] at C
  refine C.mono ?_
  rintro r w16 ⟨rfl, k⟩
  have HF := hid (HF.out.step k)
  clear C k
  go_wp2_with fail
  have C := has_any _ cB 0 2 w16 HF.out.hb (by decide)
  rw [z_hasB] at C
  refine C.mono ?_
  rintro r w17 ⟨rfl, k⟩
  have HF := hid (HF.out.step k)
  clear C k
  go_wp2_with (first | (refine wpList_valZ (by rfl) _ _ (exec_buildSliceD rfl (qs := #[(0, .agg #[.int .i64 0, .int .i64 0, .int .i64 0])]) (by simp [Act.eval, Act.put]) (MZ.out _)) ?_))
  have C := dright_any (.slice (some ⟨w17.heap.size, 0, none⟩) 1 1) [(0, 0, 0)] (w17.alloc (.cells #[.int .i64 0, .int .i64 0, .int .i64 0] 33 (0, 0))) ⟨runAt_ok (fun _ hq => by rw [List.mem_singleton.1 hq]; exact run_zero_ok), rows_oneR (Blk.new w17 33 (runL (0, 0, 0)))⟩ (by decide)
  rw [z_rz] at C
  refine C.mono ?_
  rintro r w18 ⟨rfl, k⟩
  have k := ((Kp.refl Nb w17).alloc (.cells #[.int .i64 0, .int .i64 0, .int .i64 0] 33 (0, 0))).trans k (fun _ _ h => h)
  have HF := hid (HF.out.step k)
  clear C k
  go_wp2_with fail
  have C := top_any _ cJ 0 w18 HF.out.hj (by decide)
  rw [z_top] at C
  refine C.mono ?_
  rintro r w19 ⟨rfl, k⟩
  have HF := hid (HF.out.step k)
  clear C k
  go_wp2
  go_ret
  exact ⟨rfl, HF.out.k⟩

end Go.Proofs.YtbbfibgijackhaaDoor

namespace Go.Proofs.YtbbfibgijackhaaDoor
open Go.RowKit

abbrev DotQ := Int × Int
def dotL (q : DotQ) : List Value := [.int .i64 q.1, .int .i64 q.2]
def DotOk (q : DotQ) : Prop := I64 q.1 ∧ I64 q.2
def caseL (va vb : Value) (dn dd nd : Int) : List Value := [va, vb, .int .i64 dn, .int .i64 dd, .int .i64 nd]
def caseV (va vb : Value) (dn dd nd : Int) : Value := .agg #[va, vb, .int .i64 dn, .int .i64 dd, .int .i64 nd]
set_option maxRecDepth 100000 in
set_option maxHeartbeats 1000000 in
theorem great_any (pa pb : Option Addr) (nA nB da db : Nat) (dn dd nd : Int) (w : World) :
    Calls Tryd.prog 7 #[caseV (.slice pa nA da) (.slice pb nB db) dn dd nd] w fun e w' => e = .returned (.bool (decide (40 < nA ∨ 40 < nB))) ∧ Kp Nb w w' := by
  obtain ⟨N, hN⟩ : ∃ N, w.heap.size = N := ⟨_, rfl⟩
  obtain ⟨W, hW⟩ : ∃ W, W = w.alloc (.cells #[.slice pa nA da, .slice pb nB db, .int .i64 dn, .int .i64 dd, .int .i64 nd] 27) := ⟨_, rfl⟩
  have HB : Hid (Blk W N 27 (caseL (.slice pa nA da) (.slice pb nB db) dn dd nd)) := hid (by rw [hW, ← hN]; exact Blk.new w _ (caseL (.slice pa nA da) (.slice pb nB db) dn dd nd))
  have K0 : Hid (Kp Nb w W) := hid (by rw [hW]; exact (Kp.refl Nb w).alloc _)
  unfold caseV
  obtain ⟨G, hG⟩ : ∃ b, decide (40 < nA ∨ 40 < nB) = b := ⟨_, rfl⟩
  have HG := hid hG
  rw [hG]
  clear hG
  go_enter Tryd.func7, Tryd.ntmps7
  go_upto_region 1 with fail
  rw [← hW]
  clear hW hN
  have c0 : W.cell? ⟨N, 0, none⟩ = some (.slice pa nA da) := HB.out.cell 0
  have c1 : W.cell? ⟨N, 1, none⟩ = some (.slice pb nB db) := HB.out.cell 1
  by_cases h1 : 40 < nA
  · have d1 : (40 : Int) < (nA : Int) := by omega
    have hd : decide (40 < nA ∨ 40 < nB) = true := decide_eq_true (.inl h1)
    obtain rfl : true = G := hd.symm.trans HG.out
    clear hd h1
    go_wp2
    go_ret
    exact ⟨rfl, K0.out⟩
  · by_cases h2 : 40 < nB
    · have d1 : ¬ (40 : Int) < (nA : Int) := by omega
      have d2 : (40 : Int) < (nB : Int) := by omega
      have hd : decide (40 < nA ∨ 40 < nB) = true := decide_eq_true (.inr h2)
      obtain rfl : true = G := hd.symm.trans HG.out
      clear hd h1 h2
      go_wp2
      go_ret
      exact ⟨rfl, K0.out⟩
    · have d1 : ¬ (40 : Int) < (nA : Int) := by omega
      have d2 : ¬ (40 : Int) < (nB : Int) := by omega
      have hd : decide (40 < nA ∨ 40 < nB) = false := decide_eq_false (by omega)
      obtain rfl : false = G := hd.symm.trans HG.out
      clear hd h1 h2
      go_wp2
      go_ret
      exact ⟨rfl, K0.out⟩

theorem eq_dots (x y : DotQ) (w : World) : Sem.run Tryd.prog (Op.equalIn 10000 25 (dotV x.1 x.2) (dotV y.1 y.2)) w = .ok (decide (x = y)) w := by
  obtain ⟨x1, x2⟩ := x
  obtain ⟨y1, y2⟩ := y
  have hd : decide (((x1, x2) : DotQ) = (y1, y2)) = (decide (x1 = y1) && decide (x2 = y2)) := by simp only [Prod.mk.injEq, Bool.decide_and]
  rw [hd]
  clear hd
  dsimp only [dotV]
  by_cases h1 : x1 = y1
  · subst h1
    by_cases h2 : x2 = y2
    · subst h2; go_simp
    · have g : (x2 == y2) = false := beq_eq_false_iff_ne.2 h2
      rw [decide_eq_false h2]
      clear h2
      go_simp
  · have g : (x1 == y1) = false := beq_eq_false_iff_ne.2 h1
    rw [decide_eq_false h1]
    clear h1
    go_simp
theorem exec_eqDot {ev : Operand → Value} {o : Oper} {x y : Operand} {t' : TypeId} {p q : DotQ} {bb : Bool} {w : World} (ho : o.op = .binOp .eql 25 x y t') (hx : ev x = dotV p.1 p.2) (hy : ev y = dotV q.1 q.2) (hb : decide (p = q) = bb) : (execOp ev o).run Tryd.prog w = .ok (.value (.bool bb)) w := by
  obtain ⟨xs, hxs⟩ : ∃ xs : Array Value, #[Value.int .i64 p.1, .int .i64 p.2] = xs := ⟨_, rfl⟩
  obtain ⟨ys, hys⟩ : ∃ ys : Array Value, #[Value.int .i64 q.1, .int .i64 q.2] = ys := ⟨_, rfl⟩
  have h : Sem.run Tryd.prog (Op.equal 25 (.agg xs) (.agg ys)) w = .ok (decide (p = q)) w := by rw [← hxs, ← hys]; exact eq_dots p q w
  rw [hb] at h
  rw [show dotV p.1 p.2 = .agg xs from congrArg Value.agg hxs] at hx
  rw [show dotV q.1 q.2 = .agg ys from congrArg Value.agg hys] at hy
  have h1 : Sem.run Tryd.prog (eqGuard .eql 25 x y (.agg xs) (.agg ys)) w = .ok () w := by go_simp
  have h2 : Sem.run Tryd.prog (binOp .eql 25 (.agg xs) (.agg ys)) w = .ok (.bool bb) w := by
    show Sem.run Tryd.prog (do pure (Value.bool (← Op.equal 25 (.agg xs) (.agg ys)))) w = _
    simp only [Sem.run_bind, Sem.run_pure, Result.andThen_ok, h]
  unfold execOp
  simp only [ho, hx, hy, Sem.run_bind, Sem.run_pure, Result.andThen_ok, h1, h2]
theorem exec_lenD {ev : Operand → Value} {o : Oper} {x : Operand} {y : Option Addr} {n c : Nat} {w : World} (ho : o.op = .call { callee := .builtin .len, args := #[x], argTypes := #[30] }) (hx : ev x = .slice y n c) : (execOp ev o).run Tryd.prog w = .ok (.value (.int .i64 (n : Int))) w := by
  have h := run_len_slice (P := Tryd.prog) (w := w) 30 o.type y n c (by kernel_rfl)
  simp [execOp, ho, resolve, invoke, builtin, hx, h, Result.andThen, goInt]
theorem exec_lenC {ev : Operand → Value} {o : Oper} {x : Operand} {y : Option Addr} {n c : Nat} {w : World} (ho : o.op = .call { callee := .builtin .len, args := #[x], argTypes := #[23] }) (hx : ev x = .slice y n c) : (execOp ev o).run Tryd.prog w = .ok (.value (.int .i64 (n : Int))) w := by
  have h := run_len_slice (P := Tryd.prog) (w := w) 23 o.type y n c (by kernel_rfl)
  simp [execOp, ho, resolve, invoke, builtin, hx, h, Result.andThen, goInt]
theorem exec_appendD {P : Program} {ev : Operand → Value} {o : Oper} {s x : Operand} {t : TypeId} {v xv v' : Value} {w w' : World} (ho : o.op = .call { callee := .builtin .append, args := #[s, x], argTypes := #[t, t] })
    (hs : ev s = v) (hx : ev x = xv) (hr : (Builtin.append_ #[t, t] o.type #[v, xv]).run P w = .ok v' w') : (execOp ev o).run P w = .ok (.value v') w' := by
  simp [execOp, ho, resolve, invoke, builtin, hs, hx, hr, Result.andThen]
theorem make_dot0 (w : World) : (Instr.buildSlice 30 0 #[]).run Tryd.prog w = .ok (.slice (some ⟨w.heap.size, 0, none⟩) 0 0) (w.alloc (.cells #[] 25 (0, 0))) := by kernel_rfl
theorem make_dot1 (w : World) (n d : Int) : (Instr.buildSlice 30 1 #[(0, .agg #[.int .i64 n, .int .i64 d])]).run Tryd.prog w = .ok (.slice (some ⟨w.heap.size, 0, none⟩) 1 1) (w.alloc (.cells #[.int .i64 n, .int .i64 d] 25 (0, 0))) := by kernel_rfl
theorem dot_infoF : (Tryd.prog.info? 25).map (fun i => (i.zero, i.size, i.bytes)) = some (some (.agg #[.int .i64 0, .int .i64 0]), 2, 16) := by kernel_rfl

theorem kp_grownD {w0 w w' : World} {base e size n : Nat} {v : Value} {xs : List Value} (h : w.ownsRow base e size v n xs) (g : w.grownBy w' v.ownBlock) (hb : base = w0.heap.size) (k : Kp Nb w0 w) : Kp Nb w0 w' :=
  k.grown g (fun b hb' hlt => by have := (row_cells h hb').1; omega)
theorem old_setD {L : Nat → Bool} {i : Nat} {l l' : List Value} (u : Value) (hL : L i = false) (h : l' = l.set i u) : ∀ j, L j = true → l'.getD j undef = l.getD j undef := by
  intro j hj
  subst h
  have hn : i ≠ j := by rintro rfl; rw [hL] at hj; cases hj
  rw [List.getD_eq_getElem?_getD, List.getD_eq_getElem?_getD, List.getElem?_set_ne hn]
/-- What stands while the list of dots is made: an empty one, the other one's dots behind it, one dot more. -/
structure DsS (w0 : World) (l : List DotQ) (q : DotQ) (bs : List Bool) (g : Value × Value × Value × Option Addr × Nat) (w : World) : Prop where
  kp : Kp Nb w0 w
  r0 : bs[0]?.getD false = true → bs[1]?.getD false = false → w.ownsRow w0.heap.size 25 2 g.1 0 []
  r1 : bs[1]?.getD false = true → bs[3]?.getD false = false → w.ownsRow w0.heap.size 25 2 g.2.1 l.length (flatR dotL l)
  mb : bs[2]?.getD false = true → bs[3]?.getD false = false → ∃ B, g.2.2.1 = .slice (some ⟨B, 0, none⟩) 1 1 ∧ Blk w B 25 (dotL q) ∧ (bs[0]?.getD false = true → bs[1]?.getD false = false → g.1.ownBlock ≠ some B)
  r3 : bs[3]?.getD false = true → w.ownsRow w0.heap.size 25 2 (.slice g.2.2.2.1 (l.length + 1) g.2.2.2.2) (l.length + 1) (flatR dotL l ++ dotL q)
section
variable {w0 w w' : World} {l : List DotQ} {q : DotQ} {bs : List Bool} {g : Value × Value × Value × Option Addr × Nat}
theorem DsS.keptN (h : DsS w0 l q bs g w) (k : Kp Nb w w') : DsS w0 l q bs g w' :=
  ⟨h.kp.trans k (fun _ _ h => h), fun e e' => ownsRow_kpD (h.r0 e e') k, fun e e' => ownsRow_kpD (h.r1 e e') k, fun e e' => by obtain ⟨B, h1, h2, h3⟩ := h.mb e e'; exact ⟨B, h1, h2.kept k (fun h => h), h3⟩, fun e => ownsRow_kpD (h.r3 e) k⟩
theorem DsS.start : DsS w0 l q [false, false, false, false] g w0.drew := by
  refine ⟨(Kp.refl Nb w0).drew, ?_, ?_, ?_, ?_⟩ <;> intro h <;> simp at h
theorem own_empty {base B e size : Nat} (hB : base ≤ B) (hb : Blk w B e []) : w.ownsRow base e size (.slice (some ⟨B, 0, none⟩) 0 0) 0 [] := by
  refine ⟨by simp, .inr ⟨B, 0, #[], rfl, hB, hb, Nat.le_refl _, by unfold maxLen; omega, by simp, by simp⟩⟩
theorem DsS.made0 {b1 b2 b3 : Bool} (h : DsS w0 l q [false, b1, b2, b3] g w) : DsS w0 l q [true, b1, b2, b3] (.slice (some ⟨w.heap.size, 0, none⟩) 0 0, g.2) (w.alloc (.cells #[] 25 (0, 0))) := by
  have hs := h.kp.size
  have k := h.keptN ((Kp.refl Nb w).alloc (.cells #[] 25 (0, 0)))
  refine ⟨k.kp, fun _ _ => own_empty hs (Blk.new w _ []), k.r1, fun e e' => ?_, k.r3⟩
  obtain ⟨B, h1, h2, -⟩ := h.mb e e'
  refine ⟨B, h1, h2.alloc _, fun _ _ e2 => ?_⟩
  have : w.heap.size = B := by simpa [Value.ownBlock] using e2
  have := h2.lt
  omega
theorem DsS.made2 {b0 b1 b3 : Bool} (h : DsS w0 l q [b0, b1, false, b3] g w) : DsS w0 l q [b0, b1, true, b3] (g.1, g.2.1, .slice (some ⟨w.heap.size, 0, none⟩) 1 1, g.2.2.2) (w.alloc (.cells (dotL q).toArray 25 (0, 0))) := by
  have k := h.keptN ((Kp.refl Nb w).alloc (.cells (dotL q).toArray 25 (0, 0)))
  refine ⟨k.kp, k.r0, k.r1, fun _ _ => ⟨_, rfl, Blk.new w _ (dotL q), fun e e' e2 => ?_⟩, k.r3⟩
  obtain ⟨-, o, ho, -⟩ := row_cells (h.r0 e e') e2
  have := (Array.getElem?_eq_some_iff.1 ho).1
  omega
theorem DsS.put1 {b2 : Bool} (h : DsS w0 l q [true, false, b2, false] g w) {v' : Value} (ho : w'.ownsRow w0.heap.size 25 2 v' l.length (flatR dotL l)) (hg : w.grownBy w' g.1.ownBlock) :
    DsS w0 l q [true, true, b2, false] (g.1, v', g.2.2) w' := by
  have r := h.r0 rfl rfl
  refine ⟨kp_grownD r hg rfl h.kp, (fun _ e => by cases e), fun _ _ => ho, fun e e' => ?_, (fun e => by cases e)⟩
  obtain ⟨B, h1, h2, h3⟩ := h.mb e e'
  exact ⟨B, h1, (hg.block B h2.lt (fun e2 => h3 rfl rfl e2.symm)).trans h2, fun _ e2 => by cases e2⟩
theorem DsS.put3 (h : DsS w0 l q [true, true, true, false] g w) {y : Option Addr} {c : Nat} (ho : w'.ownsRow w0.heap.size 25 2 (.slice y (l.length + 1) c) (l.length + 1) (flatR dotL l ++ dotL q)) (hg : w.grownBy w' g.2.1.ownBlock) :
    DsS w0 l q [true, true, true, true] (g.1, g.2.1, g.2.2.1, y, c) w' :=
  ⟨kp_grownD (h.r1 rfl rfl) hg rfl h.kp, (fun _ e => by cases e), (fun _ e => by cases e), (fun _ e => by cases e), fun _ => ho⟩
end
theorem app_dots {w : World} {base ty : Nat} {v0 vl : Value} {l : List DotQ} (own : w.ownsRow base 25 2 v0 0 []) (hl : RowsSl dotL (0, 0) 2 w vl l) (hn : l.length ≤ 100000) (hb : base ≤ w.heap.size) :
    ∃ v' w', (Builtin.append_ #[30, 30] ty #[v0, vl]).run Tryd.prog w = .ok v' w' ∧ w'.ownsRow base 25 2 v' l.length (flatR dotL l) ∧ w.grownBy w' v0.ownBlock := by
  obtain ⟨i0, hi, h1, h2, h3⟩ := info_parts dot_infoF
  have h := run_append_rows (f := dotL) (z := (0, 0)) (c := 2) base 30 ty 25 i0 (.agg #[.int .i64 0, .int .i64 0]) 16 Tryd.underlying30 hi h1 h2 h3 rfl (by decide) v0 0 _ own vl l hl (fun _ _ => rfl) (fun q _ u hu => by simp only [dotL, List.mem_cons, List.not_mem_nil, or_false] at hu; rcases hu with rfl | rfl <;> rfl) (by unfold maxLen; omega) (by omega) hb
  rw [Nat.zero_add, List.nil_append] at h
  exact h
theorem app_dot1 {w : World} {base ty B : Nat} {v0 : Value} {l : List DotQ} {q : DotQ} (own : w.ownsRow base 25 2 v0 l.length (flatR dotL l)) (hB : Blk w B 25 (dotL q)) (hn : l.length ≤ 100000) (hb : base ≤ w.heap.size) :
    ∃ v' w', (Builtin.append_ #[30, 30] ty #[v0, .slice (some ⟨B, 0, none⟩) 1 1]).run Tryd.prog w = .ok v' w' ∧ w'.ownsRow base 25 2 v' (l.length + 1) (flatR dotL l ++ dotL q) ∧ w.grownBy w' v0.ownBlock := by
  obtain ⟨i0, hi, h1, h2, h3⟩ := info_parts dot_infoF
  have hx : RowsSl dotL (0, 0) 2 w (.slice (some ⟨B, 0, none⟩) 1 1) [q] := by
    refine .inr ⟨B, 0, 1, rfl, Nat.le_refl _, by unfold maxLen; omega, fun i hi => ?_⟩
    have e : i = 0 := by simp at hi; omega
    subst e
    exact hB.range 0 _ (fun j _ => by rw [Nat.zero_add]; rfl)
  have h := run_append_rows (f := dotL) (z := (0, 0)) (c := 2) base 30 ty 25 i0 (.agg #[.int .i64 0, .int .i64 0]) 16 Tryd.underlying30 hi h1 h2 h3 rfl (by decide) v0 l.length _ own _ [q] hx (fun _ _ => rfl) (fun q _ u hu => by simp only [dotL, List.mem_cons, List.not_mem_nil, or_false] at hu; rcases hu with rfl | rfl <;> rfl) (by rw [List.length_singleton]; unfold maxLen; omega) (by rw [List.length_singleton]; omega) hb
  rw [List.length_singleton, show flatR dotL [q] = dotL q from by simp [flatR]] at h
  exact h
def dotAt (l : List DotQ) (i : Nat) : DotQ := l[i]?.getD (0, 0)
theorem ds_shape {w : World} {v : Value} {l : List DotQ} (h : RowsSl dotL (0, 0) 2 w v l) (h0 : l ≠ []) : ∃ blk off cap, v = .slice (some ⟨blk, off, none⟩) l.length cap ∧ l.length ≤ cap ∧ cap ≤ maxLen ∧ ∀ i, i < l.length → w.rangeAt blk (off + i * 2) (dotL (dotAt l i)) := by
  rcases h with ⟨_, e⟩ | ⟨blk, off, cap, e, h1, h2, h3⟩
  · exact absurd e h0
  · exact ⟨blk, off, cap, e, h1, h2, h3⟩
theorem under_dot : ∃ fs, Tryd.prog.underlying 25 = some (.struct fs) := ⟨_, Tryd.underlying25⟩
theorem dot_info : (Tryd.prog.info? 25).map (·.size) = some 2 := by kernel_rfl
theorem dot_infoL (q : DotQ) : (Tryd.prog.info? 25).map (·.size) = some (dotL q).length := dot_info
theorem dot_infoA (q : DotQ) : (Tryd.prog.info? 25).map (·.size) = some (dotL q).toArray.size := dot_info
theorem dot_one (q : DotQ) : (dotL q).toArray.all (·.oneCell') = true := by simp [dotL, Value.oneCell']
theorem dot_there {w : World} {B : Nat} {t : TypeId} {p q : DotQ} (h : Blk w B t (dotL p)) : w.there B 0 (dotL q).toArray.size := h.there 0 2 (by simp [dotL])
theorem ds_owned {w : World} {base : Nat} {v : Value} {l : List DotQ} (h : w.ownsRow base 25 2 v l.length (flatR dotL l)) : RowsSl dotL (0, 0) 2 w v l := rows_owned h (fun _ _ => rfl)
theorem run_max2M {P : Program} (w : World) (ts : Array TypeId) (t : TypeId) (k k' : IntKind) (x y : Int) : (Builtin.max_ ts t #[.int k x, .int k' y]).run P w = .ok (.int k (max x y)) w := by
  rw [run_max_int2]
  have e1 : (if y > x then y else x) = max x y := by split <;> omega
  rw [e1]
theorem sumC_le : ∀ c : List RunQ, (∀ r ∈ c, goodR r = true) → 0 ≤ sumC c ∧ sumC c ≤ 1099511627776 * (c.length : Int)
  | [], _ => by simp [sumC]
  | x :: c, h => by
    have g := goodR_of.1 (h x (by simp))
    have ih := sumC_le c fun r hr => h r (by simp [hr])
    have e : sumC (x :: c) = (x.2.2 - x.2.1 + 1) + sumC c := by simp [sumC]
    rw [e, List.length_cons]
    omega
theorem countC_le {c : List RunQ} {n : Nat} (hn : c.length ≤ n) (h1 : n ≤ 1000) : 0 ≤ countC c ∧ countC c ≤ 1099511627776000 := by
  unfold countC
  split
  · next h =>
    have := sumC_le c (rightC_rt.1 h).1
    omega
  · omega

end Go.Proofs.YtbbfibgijackhaaDoor

namespace Go.Proofs.YtbbfibgijackhaaDoor.V3
open Go.RowKit

theorem region_inv0 {P : Program} {ops : Array Oper} {Q : Exit → Act → World → Prop} {rid : Nat} {a : Act} {w : World} (hm : P.follows .mixedOrders = true) (hup : ∀ (i : Nat) (o : Oper), ops[i]? = some o → ∀ e ∈ o.after, Region.binds .any e = true → e.on < i)
    (Inv : (Nat → Bool) → Act → World → Prop) (h0 : Inv (fun _ => false) a w.drew)
    (hstep : ∀ (L : Nat → Bool) (a : Act) (w : World) (i : Nat) (o : Oper), Inv L a w → ops[i]? = some o → L i = false → (∀ e ∈ o.after, Region.binds .any e = true → L e.on = true) → wpOp P ops Q i (Inv (upd L i)) a w)
    (hend : ∀ (L : Nat → Bool) (a : Act) (w : World), Inv L a w → (∀ i, i < ops.size → L i = true) → Q .normal a w) : (Code.region rid ops true).wp P Q a w := by
  have key : ∀ (fuel : Nat) (listed : Array Bool) (a : Act) (w : World), listed.size = ops.size → ops.size ≤ fuel + listed.toList.countP id → Inv (bitsOf listed) a w → wpAny P .any ops Q fuel listed a w := by
    intro fuel
    induction fuel with
    | zero =>
      intro listed a w hs hc hi
      have hall : ∀ b ∈ listed.toList, b = true := by
        have h1 : listed.toList.countP id ≤ listed.toList.length := List.countP_le_length
        have h2 : listed.toList.length = listed.size := Array.length_toList
        have h3 : listed.toList.countP id = listed.toList.length := by omega
        intro b hb
        exact List.countP_eq_length.1 h3 b hb
      have hr : Region.ready .any ops listed = [] := by
        apply List.eq_nil_iff_forall_not_mem.2
        intro j hj
        have h1 := (mem_ready.1 hj).1
        rw [Array.getD_eq_getD_getElem?] at h1
        cases hg : listed[j]? with
        | none => rw [hg] at h1; cases h1
        | some b =>
          rw [hg] at h1
          have : b ∈ listed.toList := by simpa using Array.mem_of_getElem? hg
          rw [hall b this] at h1
          cases h1
      exact ⟨hr, hend _ a w hi (bits_done listed hs hup hr)⟩
    | succ fuel ih =>
      intro listed a w hs hc hi
      refine ⟨fun hr => hend _ a w hi (bits_done listed hs hup hr), fun i hr => ?_⟩
      obtain ⟨h1, o, ho, hall⟩ := mem_ready.1 hr
      have hlt : i < listed.size := by have := (Array.getElem?_eq_some_iff.1 ho).1; omega
      have hb : bitsOf listed i = false := by
        unfold bitsOf
        rw [Array.getD_eq_getD_getElem?, Array.getElem?_eq_getElem hlt] at h1 ⊢
        exact h1
      refine wpOp_mono (fun a' w' h => ih _ a' w' (by simpa using hs) ?_ ?_) (hstep _ a w i o hi ho hb hall)
      · rw [countP_snoc listed i hlt h1]; omega
      · rw [bitsOf_set listed i hlt]; exact h
  refine wp_region_any hm (key _ _ _ _ (by simp) (by omega) ?_)
  have : bitsOf (Array.replicate ops.size false) = fun _ => false := by
    funext i
    unfold bitsOf
    rw [Array.getD_eq_getD_getElem?, Array.getElem?_replicate]
    split <;> rfl
  rw [this]
  exact h0

def aft (o : Oper) (j : Nat) : Bool := o.after.toList.any fun e => Region.binds .any e && e.on == j
/-- wr: which operation writes a slot; reads: which slots an operation reads, and whose value it finds there (none: that of the beginning). -/
def okOne (ops : Array Oper) (wr : List (Option Nat)) (N i : Nat) (rd : List (Nat × Option Nat)) : Bool :=
  match ops[i]? with
  | none => false
  | some o =>
    (o.after.toList.all fun e => !Region.binds .any e || decide (e.on < i)) &&
    (match o.dst with | none => true | some d => decide (d < N) && wr.getD d none == some i) &&
    (match o.guard with | none => true | some (g, _) => aft o g && (match ops[g]? with | some og => og.dst.isSome | none => false)) &&
    rd.all fun p => match p.2 with
      | some j => wr.getD p.1 none == some j && aft o j
      | none => match wr.getD p.1 none with | none => true | some j => (match ops[j]? with | some oj => aft oj i | none => false)
def okAll (ops : Array Oper) (wr : List (Option Nat)) (N : Nat) (reads : List (List (Nat × Option Nat))) : Bool :=
  ((List.range ops.size).all fun i => okOne ops wr N i (reads.getD i [])) &&
  (wr.length == N && (List.range N).all fun s => match wr.getD s none with | none => true | some i => (match ops[i]? with | some o => o.dst == some s | none => false))

def EvOk (ev : Operand → Value) : Prop := (∀ v, ev (.const v) = v) ∧ (∀ f, ev (.func f) = .func (.func f) #[] #[])
def srcV (a0 : Act) (vals : List Value) : Nat × Option Nat → Value
  | (s, none) => a0.eval (.tmp s)
  | (_, some j) => vals.getD j undef
/-- What an operation's run must be. -/
def RunsTo (P : Program) (S : World → Prop) (o : Oper) (u : Value) (facts : (Operand → Value) → Prop) : Prop :=
  ∀ (ev : Operand → Value) (w : World), S w → EvOk ev → facts ev →
    (execOp ev o).run P w = .ok (.value u) w ∨ ∃ f args, (execOp ev o).run P w = .ok (.enter f args) w ∧ Calls P f args w fun e w' => e = .returned u ∧ S w'
def VStep (P : Program) (S : World → Prop) (ops : Array Oper) (a0 : Act) (vals : List Value) (reads : List (List (Nat × Option Nat))) (i : Nat) : Prop :=
  ∀ o, ops[i]? = some o →
    ((match o.guard with | none => True | some (g, b) => vals.getD g undef = .bool b) ∧ RunsTo P S o (vals.getD i undef) fun ev => ∀ p ∈ reads.getD i [], ev (.tmp p.1) = srcV a0 vals p) ∨
    (match o.guard with | none => False | some (g, b) => (vals.getD g undef = .bool (!b) ∨ vals.getD g undef = undef) ∧ vals.getD i undef = undef)

def curV (wr : List (Option Nat)) (vals : List Value) (a0 : Act) (L : Nat → Bool) (s : Nat) : Value :=
  match wr.getD s none with
  | none => a0.eval (.tmp s)
  | some i => if L i then vals.getD i undef else a0.eval (.tmp s)
structure InvV (S : World → Prop) (ops : Array Oper) (wr : List (Option Nat)) (vals : List Value) (a0 : Act) (L : Nat → Bool) (a : Act) (w : World) : Prop where
  s : S w
  size : a.tmps.size = a0.tmps.size
  defers : a.defers = a0.defers
  closed : ∀ i o, ops[i]? = some o → L i = true → ∀ e ∈ o.after, Region.binds .any e = true → L e.on = true
  slot : ∀ s, a.eval (.tmp s) = curV wr vals a0 L s

section
variable {P : Program} {ops : Array Oper} {Q : Exit → Act → World → Prop} {S : World → Prop} {wr : List (Option Nat)} {vals : List Value} {reads : List (List (Nat × Option Nat))} {a0 : Act}

theorem aft_spec {o : Oper} {j : Nat} (h : aft o j = true) : ∃ e ∈ o.after, Region.binds .any e = true ∧ e.on = j := by
  unfold aft at h
  rw [List.any_eq_true] at h
  obtain ⟨e, he, hb⟩ := h
  rw [Bool.and_eq_true] at hb
  exact ⟨e, by simpa using he, hb.1, by simpa using hb.2⟩
theorem okAll_one (h : okAll ops wr a0.tmps.size reads = true) {i : Nat} {o : Oper} (ho : ops[i]? = some o) : okOne ops wr a0.tmps.size i (reads.getD i []) = true := by
  unfold okAll at h
  rw [Bool.and_eq_true, List.all_eq_true] at h
  exact h.1 i (by rw [List.mem_range]; exact (Array.getElem?_eq_some_iff.1 ho).1)
theorem okAll_wr (h : okAll ops wr a0.tmps.size reads = true) {s i : Nat} (hs : wr.getD s none = some i) : ∃ o, ops[i]? = some o ∧ o.dst = some s := by
  unfold okAll at h
  rw [Bool.and_eq_true, Bool.and_eq_true] at h
  have hlen : wr.length = a0.tmps.size := by simpa using h.2.1
  have hlt : s < a0.tmps.size := by
    rw [← hlen]
    rcases Nat.lt_or_ge s wr.length with h' | h'
    · exact h'
    · rw [List.getD_eq_getElem?_getD, List.getElem?_eq_none h'] at hs; cases hs
  have := List.all_eq_true.1 h.2.2 s (by rw [List.mem_range]; exact hlt)
  rw [hs] at this
  dsimp only at this
  split at this
  · rename_i o ho
    exact ⟨o, ho, by simpa using this⟩
  · cases this

theorem okAll_up (hok : okAll ops wr a0.tmps.size reads = true) : ∀ (i : Nat) (o : Oper), ops[i]? = some o → ∀ e ∈ o.after, Region.binds .any e = true → e.on < i := by
  intro i o ho e he hb
  have h := okAll_one hok ho
  unfold okOne at h
  rw [ho] at h
  dsimp only at h
  rw [Bool.and_eq_true, Bool.and_eq_true, Bool.and_eq_true] at h
  have h1 := List.all_eq_true.1 h.1.1.1 e (by simpa using he)
  rw [hb] at h1
  simpa using h1
theorem vals_init {w : World} (hS : S w) : InvV S ops wr vals a0 (fun _ => false) a0 w := by
  refine ⟨hS, rfl, rfl, fun i o _ h => (by cases h), fun s => ?_⟩
  unfold curV
  split <;> simp
theorem vals_step {L : Nat → Bool} {a : Act} {w : World} {i : Nat} {o : Oper} {K : Act → World → Prop} (hok : okAll ops wr a0.tmps.size reads = true) (hI : InvV S ops wr vals a0 L a w) (ho : ops[i]? = some o) (hu : L i = false) (hdep : ∀ e ∈ o.after, Region.binds .any e = true → L e.on = true)
    (hstep : VStep P S ops a0 vals reads i) (hK : ∀ a' w', InvV S ops wr vals a0 (upd L i) a' w' → K a' w') : wpOp P ops Q i K a w := by
  have hlt : i < ops.size := (Array.getElem?_eq_some_iff.1 ho).1
  have h := okAll_one hok ho
  unfold okOne at h
  rw [ho] at h
  dsimp only at h
  rw [Bool.and_eq_true, Bool.and_eq_true, Bool.and_eq_true] at h
  obtain ⟨⟨⟨h1, h2⟩, h3⟩, h4⟩ := h
  have hafter : ∀ j, aft o j = true → L j = true := fun j hj => by
    obtain ⟨e, he, hb, rfl⟩ := aft_spec hj
    exact hdep e he hb
  -- what stands in the slots that are read
  have hread : ∀ p ∈ reads.getD i [], a.eval (.tmp p.1) = srcV a0 vals p := by
    rintro ⟨s, src⟩ hp
    have hp' := List.all_eq_true.1 h4 _ hp
    dsimp only at hp'
    rw [hI.slot s]
    unfold curV
    cases src with
    | some j =>
      rw [Bool.and_eq_true] at hp'
      have e1 : wr.getD s none = some j := by simpa using hp'.1
      rw [e1]
      simp only [hafter j hp'.2, if_true]
      rfl
    | none =>
      dsimp only at hp'
      split at hp'
      · rename_i e1
        first | rfl | (rw [e1]; rfl)
      · rename_i j e1
        split at hp'
        · rename_i oj hoj
          obtain ⟨e, he, hb, hon⟩ := aft_spec hp'
          have hj : L j = false := by
            cases hLj : L j with
            | false => rfl
            | true =>
              have := hI.closed j oj hoj hLj e he hb
              rw [hon, hu] at this
              cases this
          first | (simp [hj]; rfl) | (rw [e1]; simp [hj]; rfl)
        · cases hp'
  -- the invariant behind it
  have hnext : ∀ w', S w' → InvV S ops wr vals a0 (upd L i) (a.put o.dst (vals.getD i undef)) w' := fun w' hw' => by
    refine ⟨hw', by rw [size_put]; exact hI.size, ?_, ?_, ?_⟩
    · rw [← hI.defers]; unfold Act.put; split <;> rfl
    · intro j oj hoj hLj e he hb
      unfold upd at hLj ⊢
      rw [Bool.or_eq_true] at hLj
      rcases hLj with hLj | hLj
      · rw [hI.closed j oj hoj hLj e he hb]; rfl
      · have : j = i := by simpa using hLj
        subst this
        rw [ho] at hoj
        injection hoj with hoj
        subst hoj
        rw [hdep e he hb]; rfl
    · intro s
      cases hd : o.dst with
      | none =>
        show a.eval (.tmp s) = _
        rw [hI.slot s]
        unfold curV
        cases hws : wr.getD s none with
        | none => rfl
        | some j =>
          have hne : (j == i) = false := by
            rw [beq_eq_false_iff_ne]
            rintro rfl
            obtain ⟨oj, hoj, hdj⟩ := okAll_wr hok hws
            rw [ho] at hoj
            injection hoj with hoj
            subst hoj
            rw [hd] at hdj
            cases hdj
          simp only [upd, hne, Bool.or_false]
      | some d =>
        rw [hd] at h2
        dsimp only at h2
        rw [Bool.and_eq_true] at h2
        have hdN : d < a.tmps.size := by rw [hI.size]; exact of_decide_eq_true h2.1
        have hwd : wr.getD d none = some i := by simpa using h2.2
        by_cases hsd : d = s
        · subst hsd
          rw [eval_put_same a d _ hdN]
          unfold curV
          rw [hwd]
          simp [upd]
        · rw [eval_put_ne a d s _ hsd, hI.slot s]
          unfold curV
          cases hws : wr.getD s none with
          | none => rfl
          | some j =>
            have hne : (j == i) = false := by
              rw [beq_eq_false_iff_ne]
              rintro rfl
              obtain ⟨oj, hoj, hdj⟩ := okAll_wr hok hws
              rw [ho] at hoj
              injection hoj with hoj
              subst hoj
              rw [hd] at hdj
              injection hdj with hdj
              exact hsd hdj
            simp only [upd, hne, Bool.or_false]
  -- what the guard says
  have hguard : ∀ g b, o.guard = some (g, b) → ∀ c, vals.getD g undef = .bool c → yielded ops a.tmps g = some c := fun g b hg c hc => by
    rw [hg] at h3
    dsimp only at h3
    rw [Bool.and_eq_true] at h3
    split at h3
    · rename_i og hog
      obtain ⟨d, hd⟩ := Option.isSome_iff_exists.1 h3.2
      have hgo := okAll_one hok hog
      unfold okOne at hgo
      rw [hog] at hgo
      dsimp only at hgo
      rw [Bool.and_eq_true, Bool.and_eq_true, Bool.and_eq_true, hd] at hgo
      dsimp only at hgo
      rw [Bool.and_eq_true] at hgo
      have hdN : d < a.tmps.size := by rw [hI.size]; exact of_decide_eq_true hgo.1.1.2.1
      have hwd : wr.getD d none = some g := by simpa using hgo.1.1.2.2
      have he : a.eval (.tmp d) = .bool c := by
        rw [hI.slot d]
        unfold curV
        rw [hwd]
        simp only [hafter g h3.1, if_true, hc]
      have ht : a.tmps[d]? = some (.bool c) := by
        rw [Array.getElem?_eq_getElem hdN]
        congr 1
        rw [← he]
        simp [Act.eval, hdN]
      unfold yielded
      rw [hog]
      simp [hd, ht]
    · cases h3.2
  have hguardU : ∀ g b, o.guard = some (g, b) → vals.getD g undef = undef → yielded ops a.tmps g = none := fun g b hg hc => by
    rw [hg] at h3
    dsimp only at h3
    rw [Bool.and_eq_true] at h3
    split at h3
    · rename_i og hog
      obtain ⟨d, hd⟩ := Option.isSome_iff_exists.1 h3.2
      have hgo := okAll_one hok hog
      unfold okOne at hgo
      rw [hog] at hgo
      dsimp only at hgo
      rw [Bool.and_eq_true, Bool.and_eq_true, Bool.and_eq_true, hd] at hgo
      dsimp only at hgo
      rw [Bool.and_eq_true] at hgo
      have hdN : d < a.tmps.size := by rw [hI.size]; exact of_decide_eq_true hgo.1.1.2.1
      have hwd : wr.getD d none = some g := by simpa using hgo.1.1.2.2
      have he : a.eval (.tmp d) = undef := by
        rw [hI.slot d]
        unfold curV
        rw [hwd]
        simp only [hafter g h3.1, if_true, hc]
      have ht : a.tmps[d]? = some undef := by
        rw [Array.getElem?_eq_getElem hdN]
        congr 1
        rw [← he]
        simp [Act.eval, hdN]
      unfold yielded
      rw [hog]
      simp [hd, ht]
      rfl
    · cases h3.2
  rcases hstep o ho with ⟨hg, hrun⟩ | hskip
  · have hw : Region.wanted o (yielded ops a.tmps) = true := by
      unfold Region.wanted
      cases hgd : o.guard with
      | none => rfl
      | some gb =>
        obtain ⟨g, b⟩ := gb
        rw [hgd] at hg
        dsimp only at hg ⊢
        rw [hguard g b hgd b hg]
        simp
    unfold wpOp
    rw [ho]
    simp only [hw, if_true]
    refine .inl ?_
    rcases hrun a.eval w hI.s ⟨fun _ => rfl, fun _ => rfl⟩ hread with hr | ⟨f, args, hr, hc⟩
    · unfold Oper.wp
      rw [hr]
      exact hK _ _ (hnext w hI.s)
    · unfold Oper.wp
      rw [hr]
      exact hc.mono fun e w' ⟨he, hS'⟩ => by subst he; exact hK _ _ (hnext w' hS')
  · cases hgd : o.guard with
    | none => rw [hgd] at hskip; exact hskip.elim
    | some gb =>
      obtain ⟨g, b⟩ := gb
      rw [hgd] at hskip
      dsimp only at hskip
      have hw : Region.wanted o (yielded ops a.tmps) = false := by
        unfold Region.wanted
        rw [hgd]
        dsimp only
        rcases hskip.1 with h1 | h1
        · rw [hguard g b hgd _ h1]
          cases b <;> rfl
        · rw [hguardU g b hgd h1]
          rfl
      unfold wpOp
      rw [ho]
      simp only [hw, Bool.false_eq_true, if_false]
      have := hnext w hI.s
      rw [hskip.2] at this
      exact hK _ _ this
theorem vals_end {L : Nat → Bool} {a : Act} {w : World} (hI : InvV S ops wr vals a0 L a w) (hall : ∀ i s, wr.getD s none = some i → L i = true) (aF : Act) (hF : aF.tmps.toList = (List.range a0.tmps.size).map fun s => match wr.getD s none with | none => a0.eval (.tmp s) | some i => vals.getD i undef) (hD : aF.defers = a0.defers) : a = aF := by
  obtain ⟨t, d⟩ := a
  obtain ⟨tF, dF⟩ := aF
  have h1 : t = tF := by
    apply Array.toList_inj.1
    rw [hF]
    have hsz : t.toList.length = a0.tmps.size := hI.size
    apply List.ext_getElem?
    intro s
    rw [List.getElem?_map]
    rcases Nat.lt_or_ge s a0.tmps.size with hs | hs
    · rw [List.getElem?_range hs]
      have e := hI.slot s
      have hts : s < t.size := by rw [show t.size = a0.tmps.size from hI.size]; exact hs
      have e2 : t[s]? = some ((Act.mk t d).eval (.tmp s)) := by
        rw [Array.getElem?_eq_getElem hts]
        simp [Act.eval, hts]
      show t.toList[s]? = _
      rw [Array.getElem?_toList, e2, e]
      unfold curV
      cases hws : wr.getD s none with
      | none => simp only [Option.map_some, hws]
      | some i =>
        simp only [Option.map_some, hws, hall i s hws, if_true]
    · rw [List.getElem?_eq_none (by omega), List.getElem?_eq_none (by simpa using hs)]
      rfl
  have h2 : d = dF := by
    have := hI.defers
    simp only at this hD
    rw [this, hD]
  rw [h1, h2]
def putAll (dsts : List (Option Nat)) (vals : List Value) (a0 : Act) : Act := (dsts.zip vals).foldl (fun a p => a.put p.1 p.2) a0
theorem putAll_defers (dsts : List (Option Nat)) (vals : List Value) (a0 : Act) : (putAll dsts vals a0).defers = a0.defers := by
  unfold putAll
  generalize dsts.zip vals = l
  induction l generalizing a0 with
  | nil => rfl
  | cons p l ih =>
    rw [List.foldl_cons, ih]
    unfold Act.put
    split <;> rfl
theorem region_vals {rid : Nat} {w : World} (wr : List (Option Nat)) (reads : List (List (Nat × Option Nat))) (vals : List Value) (hm : P.follows .mixedOrders = true) (hok : okAll ops wr a0.tmps.size reads = true) (S : World → Prop) (hS : S w.drew)
    (hstep : ∀ i, i < ops.size → VStep P S ops a0 vals reads i) (aF : Act) (hF : aF.tmps.toList = (List.range a0.tmps.size).map fun s => match wr.getD s none with | none => a0.eval (.tmp s) | some i => vals.getD i undef) (hD : aF.defers = a0.defers)
    (hend : ∀ w, S w → Q .normal aF w) : (Code.region rid ops true).wp P Q a0 w := by
  refine region_inv0 hm (okAll_up hok) (InvV S ops wr vals a0) (vals_init hS) ?_ ?_
  · intro L a w i o hI ho hu hdep
    exact vals_step hok hI ho hu hdep (hstep i (Array.getElem?_eq_some_iff.1 ho).1) (fun _ _ h => h)
  · intro L a w hI hall
    have : a = aF := vals_end hI (fun i s hws => by
      obtain ⟨o, ho, _⟩ := okAll_wr hok hws
      exact hall i (Array.getElem?_eq_some_iff.1 ho).1) aF hF hD
    rw [this]
    exact hend w hI.s
/-- The last operation waits for all the others (a store of what they have made): it is met at the frame that they leave. -/
theorem region_vals_last {rid n : Nat} {w : World} (wr : List (Option Nat)) (reads : List (List (Nat × Option Nat))) (dsts : List (Option Nat)) (vals : List Value) (S : World → Prop) (hm : P.follows .mixedOrders = true) (hok : okAll ops wr a0.tmps.size reads = true)
    (hF : (putAll dsts vals a0).tmps.toList = (List.range a0.tmps.size).map fun s => match wr.getD s none with | none => a0.eval (.tmp s) | some i => vals.getD i undef)
    (hn : ops.size = n + 1) (ol : Oper) (hol : ops[n]? = some ol) (hgl : ol.guard = none) (hwr : (wr.all fun x => x != some n) = true) (haft : ((List.range n).all fun i => aft ol i) = true) (hS : S w.drew)
    (hstep : ∀ i, i < n → VStep P S ops a0 vals reads i) (hend : ∀ a w, Hid (a = putAll dsts vals a0) → S w → Oper.wp P ol a w (fun a w => Q .normal a w) Q) : (Code.region rid ops true).wp P Q a0 w := by
  have hall : ∀ (L : Nat → Bool), (∀ e ∈ ol.after, Region.binds .any e = true → L e.on = true) → ∀ i, i < n → L i = true := fun L hd i hi => by
    obtain ⟨e, he, hb, rfl⟩ := aft_spec (List.all_eq_true.1 haft i (List.mem_range.2 hi))
    exact hd e he hb
  refine region_inv0 hm (okAll_up hok) (fun L a w => (L n = false → InvV S ops wr vals a0 L a w) ∧ (L n = true → (∀ i, i < n → L i = true) ∧ Q .normal a w)) ⟨fun _ => vals_init hS, fun h => by cases h⟩ ?_ ?_
  · intro L a w i o hI ho hu hdep
    have hlt : i < n + 1 := by rw [← hn]; exact (Array.getElem?_eq_some_iff.1 ho).1
    by_cases hin : i = n
    · subst hin
      rw [hol] at ho
      injection ho with ho
      subst ho
      have h1 := hall L hdep
      have hV := hI.1 hu
      have ha : a = putAll dsts vals a0 := vals_end hV (fun j s hws => by
        obtain ⟨oj, hoj, _⟩ := okAll_wr hok hws
        have hj : j < i + 1 := by rw [← hn]; exact (Array.getElem?_eq_some_iff.1 hoj).1
        have hne : j ≠ i := by
          rintro rfl
          have hmem : some j ∈ wr := by
            rw [List.getD_eq_getElem?_getD] at hws
            cases hg : wr[s]? with
            | none => rw [hg] at hws; cases hws
            | some x =>
              rw [hg] at hws
              simp only [Option.getD_some] at hws
              subst hws
              exact List.mem_of_getElem? hg
          have := List.all_eq_true.1 hwr _ hmem
          simp at this
        exact h1 j (by omega)) _ hF (putAll_defers dsts vals a0)
      unfold wpOp
      rw [hol]
      have hw : Region.wanted ol (yielded ops a.tmps) = true := by simp [Region.wanted, hgl]
      simp only [hw, if_true]
      refine .inl ?_
      refine Oper.wp_mono (fun a' w' h => ⟨fun hf => ?_, fun _ => ⟨fun j hj => ?_, h⟩⟩) (hend a w ha hV.s)
      · unfold upd at hf; simp at hf
      · unfold upd; rw [h1 j hj]; rfl
    · have hi : i < n := by omega
      have hLn : L n = false := by
        cases hL : L n with
        | false => rfl
        | true =>
          have := (hI.2 hL).1 i hi
          rw [hu] at this
          cases this
      refine vals_step hok (hI.1 hLn) ho hu hdep (hstep i hi) (fun a' w' h => ⟨fun _ => h, fun hf => ?_⟩)
      unfold upd at hf
      rw [hLn, Bool.false_or] at hf
      exact absurd (by simpa using hf : n = i) (fun e => hin e.symm)
  · intro L a w hI hd
    exact (hI.2 (hd n (by omega))).2

theorem region_vals2 {rid : Nat} {w : World} (wr : List (Option Nat)) (reads : List (List (Nat × Option Nat))) (dsts : List (Option Nat)) (vals : List Value) (S : World → Prop) (hm : P.follows .mixedOrders = true) (hok : okAll ops wr a0.tmps.size reads = true)
    (hF : (putAll dsts vals a0).tmps.toList = (List.range a0.tmps.size).map fun s => match wr.getD s none with | none => a0.eval (.tmp s) | some i => vals.getD i undef) (hS : S w.drew)
    (hstep : ∀ i, i < ops.size → VStep P S ops a0 vals reads i) (hend : ∀ w, S w → Q .normal (putAll dsts vals a0) w) : (Code.region rid ops true).wp P Q a0 w :=
  region_vals wr reads vals hm hok S hS hstep _ hF (putAll_defers dsts vals a0) hend
theorem VStep.val {i : Nat} (o : Oper) (ho : ops[i]? = some o) (rd : List (Nat × Option Nat)) (hrd : reads.getD i [] = rd) (u : Value) (hu : vals.getD i undef = u) (hg : match o.guard with | none => True | some (g, b) => vals.getD g undef = .bool b)
    (h : ∀ (ev : Operand → Value) (w : World), S w → EvOk ev → (∀ p ∈ rd, ev (.tmp p.1) = srcV a0 vals p) → (execOp ev o).run P w = .ok (.value u) w) : VStep P S ops a0 vals reads i := by
  intro o' ho'
  rw [ho] at ho'
  injection ho' with ho'
  subst ho' hrd hu
  exact .inl ⟨hg, fun ev w hS he hr => .inl (h ev w hS he hr)⟩
theorem VStep.call {i : Nat} (o : Oper) (ho : ops[i]? = some o) (rd : List (Nat × Option Nat)) (hrd : reads.getD i [] = rd) (u : Value) (hu : vals.getD i undef = u) (hg : match o.guard with | none => True | some (g, b) => vals.getD g undef = .bool b) (f : FuncId) (args : Array Value)
    (h : ∀ (ev : Operand → Value) (w : World), S w → EvOk ev → (∀ p ∈ rd, ev (.tmp p.1) = srcV a0 vals p) → (execOp ev o).run P w = .ok (.enter f args) w)
    (hc : ∀ w, S w → Calls P f args w fun e w' => e = .returned u ∧ S w') : VStep P S ops a0 vals reads i := by
  intro o' ho'
  rw [ho] at ho'
  injection ho' with ho'
  subst ho' hrd hu
  exact .inl ⟨hg, fun ev w hS he hr => .inr ⟨f, args, h ev w hS he hr, hc w hS⟩⟩
theorem VStep.skip {i : Nat} (o : Oper) (ho : ops[i]? = some o) (hu : vals.getD i undef = undef) (hg : match o.guard with | none => False | some (g, b) => vals.getD g undef = .bool (!b)) : VStep P S ops a0 vals reads i := by
  intro o' ho'
  rw [ho] at ho'
  injection ho' with ho'
  subst ho'
  refine .inr ?_
  split at hg
  · exact hg.elim
  · exact ⟨.inl hg, hu⟩
theorem VStep.skipU {i : Nat} (o : Oper) (ho : ops[i]? = some o) (hu : vals.getD i undef = undef) (hg : match o.guard with | none => False | some (g, _) => vals.getD g undef = undef) : VStep P S ops a0 vals reads i := by
  intro o' ho'
  rw [ho] at ho'
  injection ho' with ho'
  subst ho'
  refine .inr ?_
  split at hg
  · exact hg.elim
  · exact ⟨.inr hg, hu⟩
def VFrom (P : Program) (S : World → Prop) (ops : Array Oper) (a0 : Act) (vals : List Value) (reads : List (List (Nat × Option Nat))) (k n : Nat) : Prop := ∀ i, k ≤ i → i < n → VStep P S ops a0 vals reads i
theorem VFrom.cons {k n : Nat} (h : VStep P S ops a0 vals reads k) (t : VFrom P S ops a0 vals reads (k + 1) n) : VFrom P S ops a0 vals reads k n := fun i h1 h2 => by
  by_cases e : i = k
  · subst e; exact h
  · exact t i (by omega) h2
theorem VFrom.nil {n : Nat} : VFrom P S ops a0 vals reads n n := fun i h1 h2 => by omega
theorem VFrom.start {n : Nat} (h : VFrom P S ops a0 vals reads 0 n) : ∀ i, i < n → VStep P S ops a0 vals reads i := fun i hi => h i (Nat.zero_le _) hi
theorem VFrom.all {n : Nat} (hn : ops.size = n) (h : VFrom P S ops a0 vals reads 0 n) : ∀ i, i < ops.size → VStep P S ops a0 vals reads i := fun i hi => h i (Nat.zero_le _) (by rw [← hn]; exact hi)
end

theorem exec_load {P : Program} {ev : Operand → Value} {o : Oper} {T : TypeId} {x : Operand} {a : Addr} {v : Value} {w : World} (ho : o.op = .load T x) (hx : ev x = .pointer (some a)) (hl : (Instr.loadAt T (.pointer (some a))).run P w = .ok v w) : (execOp ev o).run P w = .ok (.value v) w := by
  unfold execOp
  simp only [ho, hx, Sem.run_bind, Sem.run_pure, Result.andThen_ok, hl]
theorem exec_build {P : Program} {ev : Operand → Value} {o : Oper} {T : TypeId} {ps : Array (Nat × Operand)} {qs : Array (Nat × Value)} {v : Value} {w : World} (ho : o.op = .build T ps) (hq : (ps.map fun (i, x) => (i, ev x)) = qs) (hl : (Instr.build T qs).run P w = .ok v w) : (execOp ev o).run P w = .ok (.value v) w := by
  unfold execOp
  simp only [ho, hq, Sem.run_bind, Sem.run_pure, Result.andThen_ok, hl]

end Go.Proofs.YtbbfibgijackhaaDoor.V3
