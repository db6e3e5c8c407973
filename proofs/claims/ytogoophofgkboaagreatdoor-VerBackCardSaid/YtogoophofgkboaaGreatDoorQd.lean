/-
  Of the texts DtA, DtB, DtC, DtD, DtE, DtF, DtG, DtHa, DtI, DtP, DtM what is used. No condition but what each says.
-/
import Derived.Test.YtogoophofgkboaaGreatDoorQb
import Derived.Test.YtogoophofgkboaaGreatDoorQc
import Derived.RangeFuncCalls
import Derived.StillTailTactics
import Derived.BigQuiet
import Derived.Deep.DeepCutAuto
import Derived.IntWalk
import Derived.Lib.Walk
import Derived.Deep.RegionHeld3
import Derived.Deep.QuietTactic
import Derived.WalkMore
import Derived.Test.YtogoophofgkboaaGreatDoorShelf
namespace Go.Proofs.YtogoophofgkboaaGreatDoor
section
open Go.RowKit
abbrev RunQ := Int × Int × Int
abbrev runL (q : RunQ) : List Value := [.int .i64 q.1, .int .i64 q.2.1, .int .i64 q.2.2]
abbrev runV (q : RunQ) : Value := .agg #[.int .i64 q.1, .int .i64 q.2.1, .int .i64 q.2.2]
abbrev dotV (n d : Int) : Value := .agg #[.int .i64 n, .int .i64 d]
def I64 (z : Int) : Prop := -9223372036854775808 ≤ z ∧ z < 9223372036854775808
def RunOk (q : RunQ) : Prop := I64 q.1 ∧ I64 q.2.1 ∧ I64 q.2.2
def goodB (n d : Int) : Bool := decide (0 ≤ n ∧ n ≤ 7 ∧ 1 ≤ d ∧ d ≤ 1099511627776)
theorem goodB_of {n d : Int} : goodB n d = true ↔ 0 ≤ n ∧ n ≤ 7 ∧ 1 ≤ d ∧ d ≤ 1099511627776 := by unfold goodB; exact decide_eq_true_iff
def goodR (q : RunQ) : Bool := decide (0 ≤ q.1 ∧ q.1 ≤ 7 ∧ 1 ≤ q.2.1 ∧ q.2.1 ≤ q.2.2 ∧ q.2.2 ≤ 1099511627776)
theorem goodR_of {q : RunQ} : goodR q = true ↔ 0 ≤ q.1 ∧ q.1 ≤ 7 ∧ 1 ≤ q.2.1 ∧ q.2.1 ≤ q.2.2 ∧ q.2.2 ≤ 1099511627776 := by unfold goodR; exact decide_eq_true_iff
set_option maxHeartbeats 400000 in
theorem good_any (n d : Int) (w : World) : Calls Tryz.prog 44 #[dotV n d] w fun e w' => e = .returned (.bool (goodB n d)) ∧ Kp Nb w w' := by
  have K := hid ((Kp.refl Nb w).alloc (.cells #[.int .i64 n, .int .i64 d] 23))
  by_cases h1 : 0 ≤ n
  · by_cases h2 : n ≤ 7
    · by_cases h3 : 1 ≤ d
      · obtain ⟨b, hb⟩ : ∃ b, decide (d ≤ 1099511627776) = b := ⟨_, rfl⟩
        have HG : Hid (goodB n d = b) := hid (by unfold goodB; rw [← hb]; simp [h1, h2, h3])
        go_enter Tryz.func44, Tryz.ntmps44
        go_wp2
        go_ret
        exact ⟨by rw [HG.out, ← hb]; rfl, K.out⟩
      · have HG : Hid (goodB n d = false) := hid (by unfold goodB; simp [h3])
        go_enter Tryz.func44, Tryz.ntmps44
        go_wp2
        go_ret
        exact ⟨by rw [HG.out]; rfl, K.out⟩
    · have HG : Hid (goodB n d = false) := hid (by unfold goodB; simp [h2])
      go_enter Tryz.func44, Tryz.ntmps44
      go_wp2
      go_ret
      exact ⟨by rw [HG.out]; rfl, K.out⟩
  · have HG : Hid (goodB n d = false) := hid (by unfold goodB; simp [h1])
    go_enter Tryz.func44, Tryz.ntmps44
    go_wp2
    go_ret
    exact ⟨by rw [HG.out]; rfl, K.out⟩
set_option maxHeartbeats 400000 in
theorem goodrun_any (q : RunQ) (w : World) : Calls Tryz.prog 82 #[runV q] w fun e w' => e = .returned (.bool (goodR q)) ∧ Kp Nb w w' := by
  obtain ⟨n, f, t⟩ := q
  have K := hid ((Kp.refl Nb w).alloc (.cells #[.int .i64 n, .int .i64 f, .int .i64 t] 38))
  obtain ⟨W, hW⟩ : ∃ W, W = w.alloc (.cells #[.int .i64 n, .int .i64 f, .int .i64 t] 38) := ⟨_, rfl⟩
  obtain ⟨N, hN⟩ : ∃ N, w.heap.size = N := ⟨_, rfl⟩
  have HB : Hid (Blk W N 38 [.int .i64 n, .int .i64 f, .int .i64 t]) := hid (by rw [hW, ← hN]; exact Blk.new w _ _)
  rw [← hW] at K
  obtain ⟨b1, hb1⟩ : ∃ b, goodB n f = b := ⟨_, rfl⟩
  obtain ⟨b2, hb2⟩ : ∃ b, goodB n t = b := ⟨_, rfl⟩
  have HB1 := hid hb1
  have HB2 := hid hb2
  go_enter Tryz.func82, Tryz.ntmps82
  go_upto_region 1 with fail
  rw [← hW]
  clear hW hN hb1 hb2
  have c0 : W.cell? ⟨N, 0, none⟩ = some (.int .i64 n) := HB.out.cell 0
  have c1 : W.cell? ⟨N, 1, none⟩ = some (.int .i64 f) := HB.out.cell 1
  have c2 : W.cell? ⟨N, 2, none⟩ = some (.int .i64 t) := HB.out.cell 2
  go_wp2_with fail
  refine (good_any n f W).mono ?_
  rintro r w1 ⟨rfl, k1⟩
  rw [HB1.out]
  clear c0 c1 c2
  have HB' := hid (HB.out.kept k1 (fun h => h))
  have K1 := hid (K.out.trans k1 (fun _ _ h => h))
  have c0 : w1.cell? ⟨N, 0, none⟩ = some (.int .i64 n) := HB'.out.cell 0
  have c1 : w1.cell? ⟨N, 1, none⟩ = some (.int .i64 f) := HB'.out.cell 1
  have c2 : w1.cell? ⟨N, 2, none⟩ = some (.int .i64 t) := HB'.out.cell 2
  clear k1
  cases b1 with
  | false =>
    have HG : Hid (goodR (n, f, t) = false) := hid (Bool.eq_false_iff.2 fun h => by
      have h := goodR_of.1 h
      dsimp only at h
      have h2 := HB1.out
      rw [goodB_of.2 (by omega)] at h2
      cases h2)
    go_wp2
    go_ret
    exact ⟨by rw [HG.out]; rfl, K1.out⟩
  | true =>
    have h1 := goodB_of.1 HB1.out
    go_wp2_with fail
    refine (good_any n t w1).mono ?_
    rintro r w2 ⟨rfl, k2⟩
    rw [HB2.out]
    clear c0 c1 c2
    have HB3 := hid (HB'.out.kept k2 (fun h => h))
    have K2 := hid (K1.out.trans k2 (fun _ _ h => h))
    have c0 : w2.cell? ⟨N, 0, none⟩ = some (.int .i64 n) := HB3.out.cell 0
    have c1 : w2.cell? ⟨N, 1, none⟩ = some (.int .i64 f) := HB3.out.cell 1
    have c2 : w2.cell? ⟨N, 2, none⟩ = some (.int .i64 t) := HB3.out.cell 2
    clear k2
    cases b2 with
    | false =>
      have HG : Hid (goodR (n, f, t) = false) := hid (Bool.eq_false_iff.2 fun h => by
        have h := goodR_of.1 h
        dsimp only at h
        have h2 := HB2.out
        rw [goodB_of.2 (by omega)] at h2
        cases h2)
      go_wp2
      go_ret
      exact ⟨by rw [HG.out]; rfl, K2.out⟩
    | true =>
      have h2 := goodB_of.1 HB2.out
      obtain ⟨b, hb⟩ : ∃ b, decide (f ≤ t) = b := ⟨_, rfl⟩
      have HG : Hid (goodR (n, f, t) = b) := hid (by
        unfold goodR
        rw [← hb]
        dsimp only
        apply decide_eq_decide.2
        constructor
        · intro h; omega
        · intro h; omega)
      go_wp2
      go_ret
      exact ⟨by rw [HG.out, ← hb]; rfl, K2.out⟩
end
section
open Go.RowKit
def runAt (c : List RunQ) (i : Nat) : RunQ := c[i]?.getD (0, 0, 0)
def ClSl (w : World) (v : Value) (c : List RunQ) : Prop := (∀ i, RunOk (runAt c i)) ∧ RowsSl runL (0, 0, 0) 3 w v c
theorem ClSl.kept {w w' : World} {v : Value} {c : List RunQ} (h : ClSl w v c) (k : Kp Nb w w') : ClSl w' v c := ⟨h.1, h.2.kept k⟩
theorem ClSl.shape {w : World} {v : Value} {c : List RunQ} (h : ClSl w v c) : ∃ y d, v = .slice y c.length d := h.2.shape
theorem run_zero_ok : RunOk (0, 0, 0) := by unfold RunOk I64; decide
theorem ClSl.ok {w : World} {v : Value} {c : List RunQ} (h : ClSl w v c) : ∀ q ∈ c, RunOk q := fun q hq => by
  obtain ⟨i, hi, rfl⟩ := List.mem_iff_getElem.1 hq
  have := h.1 i
  unfold runAt at this
  rwa [List.getElem?_eq_getElem hi] at this
theorem runAt_ok {c : List RunQ} (h : ∀ q ∈ c, RunOk q) (i : Nat) : RunOk (runAt c i) := by
  unfold runAt
  cases e : c[i]? with
  | none => exact run_zero_ok
  | some q => exact h q (List.mem_of_getElem? e)
/-- A clock's slice, with its place. -/
theorem cl_shape {w : World} {v : Value} {c : List RunQ} (h : ClSl w v c) (h0 : c ≠ []) : ∃ blk off cap, v = .slice (some ⟨blk, off, none⟩) c.length cap ∧ c.length ≤ cap ∧ cap ≤ maxLen ∧ ∀ i, i < c.length → w.rangeAt blk (off + i * 3) (runL (runAt c i)) := by
  rcases h.2 with ⟨_, e⟩ | ⟨blk, off, cap, e, h1, h2, h3⟩
  · exact absurd e h0
  · exact ⟨blk, off, cap, e, h1, h2, h3⟩
theorem under_run : ∃ fs, Tryz.prog.underlying 38 = some (.struct fs) := ⟨_, Tryz.underlying38⟩
theorem run_info : (Tryz.prog.info? 38).map (·.size) = some 3 := by kernel_rfl
theorem run_infoL (q : RunQ) : (Tryz.prog.info? 38).map (·.size) = some (runL q).length := run_info
theorem run_infoA (q : RunQ) : (Tryz.prog.info? 38).map (·.size) = some (runL q).toArray.size := run_info
theorem run_one (q : RunQ) : (runL q).toArray.all (·.oneCell') = true := by simp [runL, Value.oneCell']
theorem run_one' (q : RunQ) : ∀ u ∈ runL q, u.oneCell' = true := fun u hu => by
  simp only [runL, List.mem_cons, List.not_mem_nil, or_false] at hu
  rcases hu with rfl | rfl | rfl <;> rfl
theorem range_ofR {w : World} {B : Nat} {t : TypeId} {vs : List Value} (h : Blk w B t vs) : w.rangeAt B 0 vs := h.range 0 vs (fun j _ => by rw [Nat.zero_add])
theorem run_there {w : World} {B : Nat} {t : TypeId} {p q : RunQ} (h : Blk w B t (runL p)) : w.there B 0 (runL q).toArray.size := h.there 0 3 (by simp)
/-- Is the second run behind the first one, with a gap? -/
def gapB (p q : RunQ) : Bool := !(decide (q.1 < p.1) || (decide (q.1 = p.1) && decide (q.2.1 < p.2.2 + 2)))
def rightC (c : List RunQ) : Bool := (List.range c.length).all fun i => goodR (runAt c i) && (decide (i = 0) || gapB (runAt c (i - 1)) (runAt c i))
theorem rightC_of {c : List RunQ} : rightC c = true ↔ ∀ i, i < c.length → goodR (runAt c i) = true ∧ (0 < i → gapB (runAt c (i - 1)) (runAt c i) = true) := by
  unfold rightC
  rw [List.all_eq_true]
  constructor
  · intro h i hi
    have := h i (List.mem_range.2 hi)
    rw [Bool.and_eq_true, Bool.or_eq_true, decide_eq_true_iff] at this
    exact ⟨this.1, fun h0 => this.2.resolve_left (by omega)⟩
  · intro h i hi
    have := h i (List.mem_range.1 hi)
    rw [Bool.and_eq_true, Bool.or_eq_true, decide_eq_true_iff]
    refine ⟨this.1, ?_⟩
    rcases Nat.eq_zero_or_pos i with h0 | h0
    · exact .inl h0
    · exact .inr (this.2 h0)
theorem rightC_not {c : List RunQ} (i : Nat) (hi : i < c.length) (h : goodR (runAt c i) = false ∨ (0 < i ∧ gapB (runAt c (i - 1)) (runAt c i) = false)) : rightC c = false := by
  cases e : rightC c with
  | false => rfl
  | true =>
    have := rightC_of.1 e i hi
    rcases h with h | ⟨h0, h⟩
    · rw [this.1] at h; cases h
    · rw [this.2 h0] at h; cases h
def RigR (w : World) (N : Nat) (c : List RunQ) (i : Value) (wr : World) : Prop := ∃ k : Nat, k ≤ c.length ∧ i = .int .i64 k ∧ Hid (∀ j, j < k → goodR (runAt c j) = true ∧ (0 < j → gapB (runAt c (j - 1)) (runAt c j) = true)) ∧ Hid (∃ p, Blk wr N 38 (runL p) ∧ (0 < k → p = runAt c (k - 1))) ∧ Hid (Kp Nb w wr)
set_option maxRecDepth 100000 in
set_option maxHeartbeats 4000000 in
theorem dright_any (v : Value) (c : List RunQ) (w : World) (hs : ClSl w v c) (hbig : c.length ≤ 1099511627776) : Calls Tryz.prog 45 #[v] w fun e w' => e = .returned (.bool (rightC c)) ∧ Kp Nb w w' := by
  obtain ⟨y, d, rfl⟩ := hs.shape
  obtain ⟨L, hL⟩ : ∃ L, c.length = L := ⟨_, rfl⟩
  obtain ⟨N, hN⟩ : ∃ N, w.heap.size = N := ⟨_, rfl⟩
  obtain ⟨W, hW⟩ : ∃ W, W = w.alloc (.cells (runL (0, 0, 0)).toArray 38) := ⟨_, rfl⟩
  have HB0 : Hid (Blk W N 38 (runL (0, 0, 0))) := hid (by rw [hW, ← hN]; exact Blk.new w _ _)
  have K0 : Hid (Kp Nb w W) := hid (by rw [hW]; exact (Kp.refl Nb w).alloc _)
  have HLE := hid hL
  have HNE := hid hN
  rw [hL] at hs hbig ⊢
  have HS := hid hs
  clear hL hs
  go_enter Tryz.func45, Tryz.ntmps45
  go_wp2_with fail
  rw [show w.alloc (.cells #[.int .i64 0, .int .i64 0, .int .i64 0] 38) = W from hW.symm]
  clear hW hN
  go_loopw [8] (RigR w N c) (fun i _ => L - (intOf i).toNat)
  case atStart => exact ⟨0, Nat.zero_le _, rfl, hid (fun j hj => absurd hj (Nat.not_lt_zero _)), hid ⟨_, HB0.out, fun h => absurd h (Nat.lt_irrefl _)⟩, K0⟩
  case round =>
    clear HB0 K0
    obtain ⟨k, hk, rfl, HJ, HP, HK⟩ := hrel
    rw [HLE.out] at hk
    by_cases hlt : k < L
    · obtain ⟨p, hp, hpk⟩ := HP.out
      have HBP := hid hp
      have HPK := hid hpk
      obtain ⟨blk, off, cap, e1, hc, hm, hcell⟩ := cl_shape (HS.out.kept HK.out) (by intro h; have := HLE.out; rw [h, List.length_nil] at this; omega)
      rw [HLE.out] at e1 hc hcell
      injection e1 with e1 _ e2
      subst e1 e2
      have HR := hid (hcell k hlt)
      have HOK := HS.out.1 k
      obtain ⟨q, hq⟩ : ∃ q, runAt c k = q := ⟨_, rfl⟩
      rw [hq] at HR HOK
      have HQ := hid hq
      obtain ⟨M, hM⟩ : ∃ M, wr.heap.size = M := ⟨_, rfl⟩
      obtain ⟨W2, hW2⟩ : ∃ W, W = (wr.alloc (.cells (runL (0, 0, 0)).toArray 38)).setCells M 0 (runL q) := ⟨_, rfl⟩
      have hz := Blk.new wr 38 (runL (0, 0, 0))
      rw [hM] at hz
      have kW : Kp Nb wr W2 := by rw [hW2]; exact Kp.setCells (fun h => absurd h (by omega)) _ 0 _ ((Kp.refl Nb wr).alloc _)
      have TH := hid (run_there (q := q) hz)
      have HZ : Hid (Blk W2 M 38 (runL q)) := hid (by rw [hW2]; exact row_set hz rfl)
      have HBP2 := hid (HBP.out.kept kW (fun h => h))
      have HK2 := hid (HK.out.trans kW (fun _ _ h => h))
      have HMN : Hid (N ≠ M) := hid (by have := HBP.out.lt; omega)
      unfold maxLen at hm
      clear hz kW hcell hp hpk hq
      obtain ⟨fs, hfs⟩ := under_run
      go_upto_region 5 with (first
        | (refine wpList_load_mid (by rfl) 38 (.tmp 11) (by rfl) blk (off + k * 3) (by rfl) (runL q) _ HR.out hfs rfl (run_infoL q) ?_)
        | (refine wpList_store_mid (by rfl) 38 (.tmp 5) (.tmp 12) (by rfl) M 0 (runL q).toArray (by rfl) (by rfl) TH.out (run_infoA q) (run_one q) ?_))
      rw [show (wr.alloc (.cells #[.int .i64 0, .int .i64 0, .int .i64 0] 38)).setCells M 0 (runL q) = W2 from hW2.symm]
      clear hW2 TH
      obtain ⟨qn, qf, qt⟩ := q
      obtain ⟨pn, pf, pt⟩ := p
      have c0 : W2.cell? ⟨M, 0, none⟩ = some (.int .i64 qn) := HZ.out.cell 0
      have c1 : W2.cell? ⟨M, 1, none⟩ = some (.int .i64 qf) := HZ.out.cell 1
      have c2 : W2.cell? ⟨M, 2, none⟩ = some (.int .i64 qt) := HZ.out.cell 2
      obtain ⟨gq, hgq⟩ : ∃ b, goodR (qn, qf, qt) = b := ⟨_, rfl⟩
      have HGQ := hid hgq
      clear hgq
      go_wp2_with fail
      refine (goodrun_any (qn, qf, qt) W2).mono ?_
      rintro r w5 ⟨rfl, k5⟩
      rw [HGQ.out]
      clear c0 c1 c2
      have HZ5 := hid (HZ.out.kept k5 (fun h => h))
      have HBP5 := hid (HBP2.out.kept k5 (fun h => h))
      have HK5 := hid (HK2.out.trans k5 (fun _ _ h => h))
      have c0 : w5.cell? ⟨M, 0, none⟩ = some (.int .i64 qn) := HZ5.out.cell 0
      have c1 : w5.cell? ⟨M, 1, none⟩ = some (.int .i64 qf) := HZ5.out.cell 1
      have c2 : w5.cell? ⟨M, 2, none⟩ = some (.int .i64 qt) := HZ5.out.cell 2
      have d0 : w5.cell? ⟨N, 0, none⟩ = some (.int .i64 pn) := HBP5.out.cell 0
      have d1 : w5.cell? ⟨N, 1, none⟩ = some (.int .i64 pf) := HBP5.out.cell 1
      have d2 : w5.cell? ⟨N, 2, none⟩ = some (.int .i64 pt) := HBP5.out.cell 2
      have HB6 : Hid (Blk (w5.setCells N 0 (runL (qn, qf, qt))) N 38 (runL (qn, qf, qt))) := hid (row_set HBP5.out rfl)
      have HK6 : Hid (Kp Nb w (w5.setCells N 0 (runL (qn, qf, qt)))) := hid (Kp.setCells (fun h => by have := HNE.out; omega) _ 0 _ HK5.out)
      clear k5 HZ HBP2 HK2
      cases gq with
      | false =>
        have HF : Hid (rightC c = false) := hid (rightC_not k (by rw [HLE.out]; exact hlt) (.inl (by rw [HQ.out]; exact HGQ.out)))
        go_wp2
        go_ret
        exact ⟨by rw [HF.out]; rfl, HK5.out⟩
      | true =>
        by_cases hk0 : k = 0
        · subst hk0
          have NXJ : Hid (∀ j, j < 0 + 1 → goodR (runAt c j) = true ∧ (0 < j → gapB (runAt c (j - 1)) (runAt c j) = true)) := hid (fun j hj => by
            obtain rfl : j = 0 := by omega
            exact ⟨by rw [HQ.out]; exact HGQ.out, fun h => absurd h (Nat.lt_irrefl _)⟩)
          go_upto_region 7 with fail
          go_wp2_with (first
            | (refine wpList_load_mid (by rfl) 38 (.tmp 5) (by rfl) M 0 (by rfl) (runL (qn, qf, qt)) _ (range_ofR HZ5.out) hfs rfl (run_infoL (qn, qf, qt)) ?_)
            | (refine wpList_store_mid (by rfl) 38 (.tmp 3) (.tmp 42) (by rfl) N 0 (runL (qn, qf, qt)).toArray (by rfl) (by rfl) (run_there (q := (qn, qf, qt)) HBP5.out) (run_infoA (qn, qf, qt)) (run_one (qn, qf, qt)) ?_))
          go_roundw
          case rel => exact ⟨0 + 1, by rw [HLE.out]; omega, by go_num, NXJ, hid ⟨(qn, qf, qt), HB6.out, fun _ => by rw [Nat.add_sub_cancel]; exact HQ.out.symm⟩, HK6⟩
          case measure => simp [intOf]; omega
        · have hk1 : 0 < k := by omega
          have hpp := HPK.out hk1
          have hpg := (HJ.out (k - 1) (by omega)).1
          rw [← hpp] at hpg
          have hpb := goodR_of.1 hpg
          dsimp only at hpb
          obtain ⟨gp, hgp⟩ : ∃ b, gapB (pn, pf, pt) (qn, qf, qt) = b := ⟨_, rfl⟩
          have hgu := hgp
          unfold gapB at hgu
          dsimp only at hgu
          have HF : Hid (gp = false → rightC c = false) := hid (fun h => rightC_not k (by rw [HLE.out]; exact hlt) (.inr ⟨hk1, by rw [HQ.out, ← hpp, hgp, h]⟩))
          have NXJ : Hid (gp = true → ∀ j, j < k + 1 → goodR (runAt c j) = true ∧ (0 < j → gapB (runAt c (j - 1)) (runAt c j) = true)) := hid (fun h j hj => by
            by_cases hj2 : j < k
            · exact HJ.out j hj2
            · obtain rfl : j = k := by omega
              exact ⟨by rw [HQ.out]; exact HGQ.out, fun _ => by rw [HQ.out, ← hpp, hgp, h]⟩)
          clear hpg hpp hgp
          by_cases h1 : qn < pn
          · have HF := hid (HF.out (by rw [← hgu]; simp [h1]))
            go_wp2
            go_ret
            exact ⟨by rw [HF.out]; rfl, HK5.out⟩
          · by_cases h2 : qn = pn
            · subst h2
              by_cases h3 : qf < pt + 2
              · have HF := hid (HF.out (by rw [← hgu]; simp [h3]))
                go_wp2
                go_ret
                exact ⟨by rw [HF.out]; rfl, HK5.out⟩
              · have NXJ := hid (NXJ.out (by rw [← hgu]; simp [h3]))
                go_upto_region 7 with fail
                go_wp2_with (first
                  | (refine wpList_load_mid (by rfl) 38 (.tmp 5) (by rfl) M 0 (by rfl) (runL (qn, qf, qt)) _ (range_ofR HZ5.out) hfs rfl (run_infoL (qn, qf, qt)) ?_)
                  | (refine wpList_store_mid (by rfl) 38 (.tmp 3) (.tmp 42) (by rfl) N 0 (runL (qn, qf, qt)).toArray (by rfl) (by rfl) (run_there (q := (qn, qf, qt)) HBP5.out) (run_infoA (qn, qf, qt)) (run_one (qn, qf, qt)) ?_))
                go_roundw
                case rel => exact ⟨k + 1, by rw [HLE.out]; omega, by go_num, NXJ, hid ⟨(qn, qf, qt), HB6.out, fun _ => by rw [Nat.add_sub_cancel]; exact HQ.out.symm⟩, HK6⟩
                case measure => simp [intOf]; omega
            · have NXJ := hid (NXJ.out (by rw [← hgu]; simp [h1, h2]))
              go_upto_region 7 with fail
              go_wp2_with (first
                | (refine wpList_load_mid (by rfl) 38 (.tmp 5) (by rfl) M 0 (by rfl) (runL (qn, qf, qt)) _ (range_ofR HZ5.out) hfs rfl (run_infoL (qn, qf, qt)) ?_)
                | (refine wpList_store_mid (by rfl) 38 (.tmp 3) (.tmp 42) (by rfl) N 0 (runL (qn, qf, qt)).toArray (by rfl) (by rfl) (run_there (q := (qn, qf, qt)) HBP5.out) (run_infoA (qn, qf, qt)) (run_one (qn, qf, qt)) ?_))
              go_roundw
              case rel => exact ⟨k + 1, by rw [HLE.out]; omega, by go_num, NXJ, hid ⟨(qn, qf, qt), HB6.out, fun _ => by rw [Nat.add_sub_cancel]; exact HQ.out.symm⟩, HK6⟩
              case measure => simp [intOf]; omega
    · obtain rfl : k = L := by omega
      have HT : Hid (rightC c = true) := hid (rightC_of.2 fun j hj => HJ.out j (by rw [HLE.out] at hj; exact hj))
      go_wp2
      go_ret
      exact ⟨by rw [HT.out]; rfl, HK.out⟩
end
section
open Go.RowKit
def inR (r q : RunQ) : Bool := decide (r.1 = q.1 ∧ r.2.1 ≤ q.2.1 ∧ q.2.2 ≤ r.2.2)
def withinB (c : List RunQ) (q : RunQ) : Bool := c.any fun r => inR r q
theorem runAt_mem {c : List RunQ} {i : Nat} (hi : i < c.length) : runAt c i ∈ c := by unfold runAt; rw [List.getElem?_eq_getElem hi]; exact List.getElem_mem hi
theorem withinB_yes {c : List RunQ} {q : RunQ} {k : Nat} (hk : k < c.length) (h : inR (runAt c k) q = true) : withinB c q = true := List.any_eq_true.2 ⟨_, runAt_mem hk, h⟩
theorem withinB_no {c : List RunQ} {q : RunQ} (h : ∀ j, j < c.length → inR (runAt c j) q = false) : withinB c q = false := by
  cases e : withinB c q with
  | false => rfl
  | true =>
    obtain ⟨r, hr, hi⟩ := List.any_eq_true.1 e
    obtain ⟨i, hl, rfl⟩ := List.mem_iff_getElem.1 hr
    have := h i hl
    unfold runAt at this
    rw [List.getElem?_eq_getElem hl, Option.getD_some] at this
    rw [this] at hi
    cases hi
def hasC (c : List RunQ) (n d : Int) : Bool := rightC c && goodB n d && withinB c (n, d, d)
def WiR (w : World) (N : Nat) (c : List RunQ) (q : RunQ) (i : Value) (wr : World) : Prop := ∃ k : Nat, k ≤ c.length ∧ i = .int .i64 k ∧ Hid (∀ j, j < k → inR (runAt c j) q = false) ∧ Hid (Blk wr N 38 (runL q)) ∧ Hid (Kp Nb w wr)
set_option maxRecDepth 100000 in
set_option maxHeartbeats 4000000 in
theorem within_any (v : Value) (c : List RunQ) (q : RunQ) (w : World) (hs : ClSl w v c) (hbig : c.length ≤ 1048576) : Calls Tryz.prog 83 #[v, runV q] w fun e w' => e = .returned (.bool (withinB c q)) ∧ Kp Nb w w' := by
  obtain ⟨an, af, aT⟩ := q
  obtain ⟨y, d, rfl⟩ := hs.shape
  obtain ⟨L, hL⟩ : ∃ L, c.length = L := ⟨_, rfl⟩
  obtain ⟨N, hN⟩ : ∃ N, w.heap.size = N := ⟨_, rfl⟩
  obtain ⟨W, hW⟩ : ∃ W, W = w.alloc (.cells (runL (an, af, aT)).toArray 38) := ⟨_, rfl⟩
  have HB0 : Hid (Blk W N 38 (runL (an, af, aT))) := hid (by rw [hW, ← hN]; exact Blk.new w _ _)
  have K0 : Hid (Kp Nb w W) := hid (by rw [hW]; exact (Kp.refl Nb w).alloc _)
  have HLE := hid hL
  rw [hL] at hs hbig ⊢
  have HS := hid hs
  clear hL hs
  go_enter Tryz.func83, Tryz.ntmps83
  go_wp2_with fail
  rw [show w.alloc (.cells #[.int .i64 an, .int .i64 af, .int .i64 aT] 38) = W from hW.symm]
  clear hW hN
  go_loopw [9] (WiR w N c (an, af, aT)) (fun i _ => L - (intOf i).toNat)
  case atStart => exact ⟨0, Nat.zero_le _, rfl, hid (fun j hj => absurd hj (Nat.not_lt_zero _)), HB0, K0⟩
  case round =>
    clear HB0 K0
    obtain ⟨k, hk, rfl, HJ, HBQ, HK⟩ := hrel
    rw [HLE.out] at hk
    by_cases hlt : k < L
    · obtain ⟨blk, off, cap, e1, hc, hm, hcell⟩ := cl_shape (HS.out.kept HK.out) (by intro h; have := HLE.out; rw [h, List.length_nil] at this; omega)
      rw [HLE.out] at e1 hc hcell
      injection e1 with e1 _ e2
      subst e1 e2
      have HR := hid (hcell k hlt)
      obtain ⟨⟨qn, qf, qt⟩, hq⟩ : ∃ q, runAt c k = q := ⟨_, rfl⟩
      have HOK := HS.out.1 k
      rw [hq] at HR HOK
      have HQ := hid hq
      obtain ⟨M, hM⟩ : ∃ M, wr.heap.size = M := ⟨_, rfl⟩
      obtain ⟨W2, hW2⟩ : ∃ W, W = (wr.alloc (.cells (runL (0, 0, 0)).toArray 38)).setCells M 0 (runL (qn, qf, qt)) := ⟨_, rfl⟩
      have hz := Blk.new wr 38 (runL (0, 0, 0))
      rw [hM] at hz
      have KW : Hid (Kp Nb wr W2) := hid (by rw [hW2]; exact Kp.setCells (fun h => absurd h (by omega)) _ 0 _ ((Kp.refl Nb wr).alloc _))
      have HMW : Hid (wr.heap.size = M) := hid hM
      have TH := hid (run_there (q := (qn, qf, qt)) hz)
      have HZ : Hid (Blk W2 M 38 (runL (qn, qf, qt))) := hid (by rw [hW2]; exact row_set hz rfl)
      have HK2 := hid (HK.out.trans KW.out (fun _ _ h => h))
      unfold maxLen at hm
      obtain ⟨fs, hfs⟩ := under_run
      clear hz hcell hq
      go_upto_region 4 with (first
        | (refine wpList_load_mid (by rfl) 38 (.tmp 11) (by rfl) blk (off + k * 3) (by rfl) (runL (qn, qf, qt)) _ HR.out hfs rfl (run_infoL (qn, qf, qt)) ?_)
        | (refine wpList_store_mid (by rfl) 38 (.tmp 6) (.tmp 12) (by rfl) M 0 (runL (qn, qf, qt)).toArray (by rfl) (by rfl) TH.out (run_infoA (qn, qf, qt)) (run_one (qn, qf, qt)) ?_))
      rw [show (wr.alloc (.cells #[.int .i64 0, .int .i64 0, .int .i64 0] 38)).setCells M 0 (runL (qn, qf, qt)) = W2 from hW2.symm]
      clear hW2 TH hM
      have c0 : W2.cell? ⟨M, 0, none⟩ = some (.int .i64 qn) := HZ.out.cell 0
      have c1 : W2.cell? ⟨M, 1, none⟩ = some (.int .i64 qf) := HZ.out.cell 1
      have c2 : W2.cell? ⟨M, 2, none⟩ = some (.int .i64 qt) := HZ.out.cell 2
      have HBQ2 := hid (HBQ.out.kept KW.out (fun h => h))
      have d0 : World.cell? W2 ⟨N, 0, none⟩ = some (.int .i64 an) := HBQ2.out.cell 0
      have d1 : World.cell? W2 ⟨N, 1, none⟩ = some (.int .i64 af) := HBQ2.out.cell 1
      have d2 : World.cell? W2 ⟨N, 2, none⟩ = some (.int .i64 aT) := HBQ2.out.cell 2
      have NX : Hid (inR (qn, qf, qt) (an, af, aT) = false → ∀ j, j < k + 1 → inR (runAt c j) (an, af, aT) = false) := hid (fun h j hj => by
        by_cases hj2 : j < k
        · exact HJ.out j hj2
        · obtain rfl : j = k := by omega
          rw [HQ.out]; exact h)
      clear KW
      by_cases h1 : qn = an
      · subst h1
        by_cases h2 : qf ≤ af
        · by_cases h3 : aT ≤ qt
          · have HY : Hid (withinB c (qn, af, aT) = true) := hid (withinB_yes (by rw [HLE.out]; exact hlt) (by rw [HQ.out]; unfold inR; simp [h2, h3]))
            go_wp2
            go_ret
            exact ⟨by rw [HY.out]; rfl, HK2.out⟩
          · have NX := hid (NX.out (by unfold inR; simp [h3]))
            go_wp2
            go_roundw
            case rel => exact ⟨k + 1, by rw [HLE.out]; omega, by go_num, NX, HBQ2, HK2⟩
            case measure => simp [intOf]; omega
        · have NX := hid (NX.out (by unfold inR; simp [h2]))
          go_wp2
          go_roundw
          case rel => exact ⟨k + 1, by rw [HLE.out]; omega, by go_num, NX, HBQ2, HK2⟩
          case measure => simp [intOf]; omega
      · have NX := hid (NX.out (by unfold inR; simp [h1]))
        go_wp2
        go_roundw
        case rel => exact ⟨k + 1, by rw [HLE.out]; omega, by go_num, NX, HBQ2, HK2⟩
        case measure => simp [intOf]; omega
    · obtain rfl : k = L := by omega
      have HT : Hid (withinB c (an, af, aT) = false) := hid (withinB_no fun j hj => HJ.out j (by rw [HLE.out] at hj; exact hj))
      go_wp2
      go_ret
      exact ⟨by rw [HT.out]; rfl, HK.out⟩
set_option maxRecDepth 100000 in
set_option maxHeartbeats 1000000 in
theorem has_any (v : Value) (c : List RunQ) (n d : Int) (w : World) (hs : ClSl w v c) (hbig : c.length ≤ 1048576) : Calls Tryz.prog 47 #[v, dotV n d] w fun e w' => e = .returned (.bool (hasC c n d)) ∧ Kp Nb w w' := by
  obtain ⟨y, dc, rfl⟩ := hs.shape
  obtain ⟨L, hL⟩ : ∃ L, c.length = L := ⟨_, rfl⟩
  obtain ⟨N, hN⟩ : ∃ N, w.heap.size = N := ⟨_, rfl⟩
  obtain ⟨W, hW⟩ : ∃ W, W = w.alloc (.cells #[.int .i64 n, .int .i64 d] 23) := ⟨_, rfl⟩
  have HB0 : Hid (Blk W N 23 [.int .i64 n, .int .i64 d]) := hid (by rw [hW, ← hN]; exact Blk.new w _ _)
  have K0 : Hid (Kp Nb w W) := hid (by rw [hW]; exact (Kp.refl Nb w).alloc _)
  have HLE := hid hL
  rw [hL] at hs hbig ⊢
  have HS := hid (hs.kept K0.out)
  have HBG := hid hbig
  obtain ⟨rb, hrb⟩ : ∃ b, rightC c = b := ⟨_, rfl⟩
  obtain ⟨gb, hgb⟩ : ∃ b, goodB n d = b := ⟨_, rfl⟩
  obtain ⟨wb, hwb⟩ : ∃ b, withinB c (n, d, d) = b := ⟨_, rfl⟩
  have HH : Hid (hasC c n d = (rb && gb && wb)) := hid (by unfold hasC; rw [hrb, hgb, hwb])
  have HRB := hid hrb
  have HGB := hid hgb
  have HWB := hid hwb
  clear hL hs hrb hgb hwb
  go_enter Tryz.func47, Tryz.ntmps47
  go_upto_region 1 with fail
  rw [← hW]
  clear hW hN
  go_wp2_with fail
  refine (dright_any _ c W HS.out (by have := HBG.out; have := HLE.out; omega)).mono ?_
  rintro r w1 ⟨rfl, k1⟩
  rw [HRB.out]
  have HB1 := hid (HB0.out.kept k1 (fun h => h))
  have K1 := hid (K0.out.trans k1 (fun _ _ h => h))
  have HS1 := hid (HS.out.kept k1)
  clear k1
  have c0 : w1.cell? ⟨N, 0, none⟩ = some (.int .i64 n) := HB1.out.cell 0
  have c1 : w1.cell? ⟨N, 1, none⟩ = some (.int .i64 d) := HB1.out.cell 1
  cases rb with
  | false =>
    go_wp2
    go_ret
    exact ⟨by rw [HH.out]; rfl, K1.out⟩
  | true =>
    go_wp2_with fail
    refine (good_any n d w1).mono ?_
    rintro r w2 ⟨rfl, k2⟩
    rw [HGB.out]
    have HB2 := hid (HB1.out.kept k2 (fun h => h))
    have K2 := hid (K1.out.trans k2 (fun _ _ h => h))
    have HS2 := hid (HS1.out.kept k2)
    clear k2 c0 c1
    have c0 : w2.cell? ⟨N, 0, none⟩ = some (.int .i64 n) := HB2.out.cell 0
    have c1 : w2.cell? ⟨N, 1, none⟩ = some (.int .i64 d) := HB2.out.cell 1
    cases gb with
    | false =>
      go_wp2
      go_ret
      exact ⟨by rw [HH.out]; rfl, K2.out⟩
    | true =>
      go_wp2_with fail
      refine (within_any _ c (n, d, d) w2 HS2.out (by have := HBG.out; have := HLE.out; omega)).mono ?_
      rintro r w3 ⟨rfl, k3⟩
      rw [HWB.out]
      have K3 := hid (K2.out.trans k3 (fun _ _ h => h))
      clear k3
      go_wp2
      go_ret
      exact ⟨by rw [HH.out]; cases wb <;> rfl, K3.out⟩
end
section
open Go.RowKit
theorem exec_buildSliceD {P : Program} {ev : Operand → Value} {o : Oper} {T : TypeId} {n : Nat} {ps : Array (Nat × Operand)} {qs : Array (Nat × Value)} {v : Value} {w w' : World} (ho : o.op = .buildSlice T n ps) (hq : (ps.map fun (i, x) => (i, ev x)) = qs) (hl : (Instr.buildSlice T n qs).run P w = .ok v w') : (execOp ev o).run P w = .ok (.value v) w' := by
  unfold execOp
  simp only [ho, hq, Sem.run_bind, Sem.run_pure, Result.andThen_ok, hl]
theorem make_run1 (w : World) (n f t : Int) : (Instr.buildSlice 25 1 #[(0, .agg #[.int .i64 n, .int .i64 f, .int .i64 t])]).run Tryz.prog w = .ok (.slice (some ⟨w.heap.size, 0, none⟩) 1 1) (w.alloc (.cells #[.int .i64 n, .int .i64 f, .int .i64 t] 38 (0, 0))) := by kernel_rfl
theorem rows_oneR {W : World} {B : Nat} {q : RunQ} (h : Blk W B 38 (runL q)) : RowsSl runL (0, 0, 0) 3 W (.slice (some ⟨B, 0, none⟩) 1 1) [q] := by
  refine .inr ⟨B, 0, 1, rfl, Nat.le_refl _, by unfold maxLen; omega, fun i hi => ?_⟩
  have e : i = 0 := by simp at hi; omega
  subst e
  exact h.range 0 _ (fun j _ => by rw [Nat.zero_add]; rfl)
theorem run_infoF : (Tryz.prog.info? 38).map (fun i => (i.zero, i.size, i.bytes)) = some (some (.agg #[.int .i64 0, .int .i64 0, .int .i64 0]), 3, 24) := by kernel_rfl
theorem run_info3 : ∃ i z, Tryz.prog.info? 38 = some i ∧ i.zero = some z ∧ i.size = 3 ∧ i.bytes = 24 ∧ z.cells.size = 3 := by
  obtain ⟨i, h1, h2, h3, h4⟩ := info_parts run_infoF
  exact ⟨i, _, h1, h2, h3, h4, rfl⟩
theorem under_clock : Tryz.prog.underlying 25 = some (.slice 38) := Tryz.underlying25
theorem cl_owned {w : World} {base : Nat} {v : Value} {c : List RunQ} (h : w.ownsRow base 38 3 v c.length (flatR runL c)) (hok : ∀ q ∈ c, RunOk q) : ClSl w v c := ⟨runAt_ok hok, rows_owned h (fun _ _ => rfl)⟩
theorem ownsRow_kpD {w w' : World} {base e size k : Nat} {v : Value} {xs : List Value} (h : w.ownsRow base e size v k xs) (hk : Kp Nb w w') : w'.ownsRow base e size v k xs :=
  ownsRow_same h (fun g hg => by obtain ⟨-, o, ho, -⟩ := row_cells h hg; exact hk.heap (Array.getElem?_eq_some_iff.1 ho).1 (fun h => h))
def OwnV (w : World) (v : Value) (w' : World) : Prop := ∀ g, v.ownBlock = some g → w.heap.size ≤ g ∧ g < w'.heap.size
theorem own_of {w w' : World} {e size k : Nat} {v : Value} {xs : List Value} (h : w'.ownsRow w.heap.size e size v k xs) : OwnV w v w' := fun g hg => by obtain ⟨h1, o, ho, -⟩ := row_cells h hg; exact ⟨h1, (Array.getElem?_eq_some_iff.1 ho).1⟩
theorem cl_nil (w : World) : ClSl w (.slice none 0 0) [] := ⟨runAt_ok (by simp), .inl ⟨⟨_, _, rfl⟩, rfl⟩⟩
theorem take_snocR (c : List RunQ) (k : Nat) (hk : k < c.length) : c.take (k + 1) = c.take k ++ [runAt c k] := by
  unfold runAt
  rw [List.take_succ_eq_append_getElem hk, List.getElem?_eq_getElem hk]
  rfl
def ofF (c : List RunQ) (n : Int) : List RunQ := c.filter fun r => decide (r.1 = n)
theorem ofF_snoc (c : List RunQ) (n : Int) (k : Nat) (hk : k < c.length) : ofF (c.take (k + 1)) n = ofF (c.take k) n ++ (if (runAt c k).1 = n then [runAt c k] else []) := by
  rw [take_snocR c k hk]
  unfold ofF
  rw [List.filter_append]
  congr 1
  by_cases h : (runAt c k).1 = n
  · simp [h]
  · simp [h]
end
section
open Go.RowKit
/-- The nodes of a right clock rise. -/
theorem right_nodes {c : List RunQ} (h : rightC c = true) : ∀ (i d : Nat), i + d < c.length → (runAt c i).1 ≤ (runAt c (i + d)).1 := by
  intro i d
  induction d with
  | zero => intro _; exact Int.le_refl _
  | succ d ih =>
    intro hl
    have h1 := ih (by omega)
    have h2 := (rightC_of.1 h (i + (d + 1)) hl).2 (by omega)
    rw [show i + (d + 1) - 1 = i + d by omega] at h2
    unfold gapB at h2
    simp only [Bool.not_eq_true', Bool.or_eq_false_iff, decide_eq_false_iff_not] at h2
    have := h2.1
    omega
def topF (c : List RunQ) (n : Int) : Int := match (ofF c n).getLast? with
  | none => 0
  | some r => r.2.2
def topC (c : List RunQ) (n : Int) : Int := if rightC c then topF c n else 0
theorem topF_eq (c : List RunQ) (n : Int) (k : Nat) (hk : k < c.length) (h : (runAt c k).1 = n) : topF (c.take (k + 1)) n = (runAt c k).2.2 := by
  unfold topF
  rw [ofF_snoc c n k hk, if_pos h, List.getLast?_concat]
theorem topF_ne (c : List RunQ) (n : Int) (k : Nat) (hk : k < c.length) (h : ¬ (runAt c k).1 = n) : topF (c.take (k + 1)) n = topF (c.take k) n := by
  unfold topF
  rw [ofF_snoc c n k hk, if_neg h, List.append_nil]
theorem topF_past {c : List RunQ} {n : Int} (hr : rightC c = true) (k : Nat) (hk : k < c.length) (h : n < (runAt c k).1) : topF c n = topF (c.take k) n := by
  have key : ∀ d, k + d ≤ c.length → topF (c.take (k + d)) n = topF (c.take k) n := by
    intro d
    induction d with
    | zero => intro _; rfl
    | succ d ih =>
      intro hl
      rw [show k + (d + 1) = k + d + 1 by omega, topF_ne c n (k + d) (by omega) (fun e => by have := right_nodes hr k d (by omega); omega)]
      exact ih (by omega)
  have := key (c.length - k) (by omega)
  rw [show k + (c.length - k) = c.length by omega, List.take_length] at this
  exact this
def ToR (w1 : World) (c : List RunQ) (n : Int) (s i : Value) (wr : World) : Prop := ∃ k : Nat, k ≤ c.length ∧ s = .int .i64 (topF (c.take k) n) ∧ i = .int .i64 k ∧ Hid (Kp Nb w1 wr)
set_option maxRecDepth 100000 in
set_option maxHeartbeats 4000000 in
theorem top_any (v : Value) (c : List RunQ) (n : Int) (w : World) (hs : ClSl w v c) (hbig : c.length ≤ 1048576) : Calls Tryz.prog 46 #[v, .int .i64 n] w fun e w' => e = .returned (.int .i64 (topC c n)) ∧ Kp Nb w w' := by
  obtain ⟨y, d, rfl⟩ := hs.shape
  obtain ⟨L, hL⟩ : ∃ L, c.length = L := ⟨_, rfl⟩
  have HLE := hid hL
  rw [hL] at hs hbig ⊢
  have HS0 := hid hs
  have hb20 : L ≤ 1048576 := hbig
  obtain ⟨rb, hrb⟩ : ∃ b, rightC c = b := ⟨_, rfl⟩
  have HRB := hid hrb
  clear hL hs hrb
  go_enter Tryz.func46, Tryz.ntmps46
  go_wp2
  refine wp_scope_straight ?_
  go_wp2_with fail
  refine (dright_any _ c w HS0.out (by have := HLE.out; omega)).mono ?_
  rintro r w1 ⟨rfl, k1⟩
  rw [HRB.out]
  have K1 := hid k1
  have HS := hid (HS0.out.kept k1)
  clear k1
  cases rb with
  | false =>
    have HE : Hid (topC c n = 0) := hid (by unfold topC; rw [HRB.out]; rfl)
    go_wp2
    dsimp only [Exit.noGoto]
    go_ret
    exact ⟨by rw [HE.out]; rfl, K1.out⟩
  | true =>
    have HE : Hid (topC c n = topF c n) := hid (by unfold topC; rw [HRB.out]; rfl)
    go_wp2
    refine wp_label ?_
    go_wp2
    go_loopw [5, 13] (ToR w1 c n) (fun _ i _ => L - (intOf i).toNat)
    case atStart => exact ⟨0, Nat.zero_le _, by rw [List.take_zero]; rfl, rfl, hid (Kp.refl _ _)⟩
    case round =>
      obtain ⟨k, hk, rfl, rfl, HK⟩ := hrel
      rw [HLE.out] at hk
      by_cases hlt : k < L
      · obtain ⟨blk, off, cap, e1, hc, hm, hcell⟩ := cl_shape (HS.out.kept HK.out) (by intro h; have := HLE.out; rw [h, List.length_nil] at this; omega)
        rw [HLE.out] at e1 hc hcell
        injection e1 with e1 _ e2
        subst e1 e2
        have HR := hid (hcell k hlt)
        obtain ⟨⟨qn, qf, qt⟩, hq⟩ : ∃ q, runAt c k = q := ⟨_, rfl⟩
        have HOK := HS.out.1 k
        rw [hq] at HR HOK
        have HQ := hid hq
        obtain ⟨M, hM⟩ : ∃ M, wr.heap.size = M := ⟨_, rfl⟩
        obtain ⟨W2, hW2⟩ : ∃ W, W = (wr.alloc (.cells (runL (0, 0, 0)).toArray 38)).setCells M 0 (runL (qn, qf, qt)) := ⟨_, rfl⟩
        have hz := Blk.new wr 38 (runL (0, 0, 0))
        rw [hM] at hz
        have KW : Hid (Kp Nb wr W2) := hid (by rw [hW2]; exact Kp.setCells (fun h => absurd h (by omega)) _ 0 _ ((Kp.refl Nb wr).alloc _))
        have HMW : Hid (wr.heap.size = M) := hid hM
        have TH := hid (run_there (q := (qn, qf, qt)) hz)
        have HZ : Hid (Blk W2 M 38 (runL (qn, qf, qt))) := hid (by rw [hW2]; exact row_set hz rfl)
        have HK2 := hid (HK.out.trans KW.out (fun _ _ h => h))
        unfold maxLen at hm
        obtain ⟨fs, hfs⟩ := under_run
        clear hz hcell hq
        go_upto_region 7 with (first
          | (refine wpList_load_mid (by rfl) 38 (.tmp 15) (by rfl) blk (off + k * 3) (by rfl) (runL (qn, qf, qt)) _ HR.out hfs rfl (run_infoL (qn, qf, qt)) ?_)
          | (refine wpList_store_mid (by rfl) 38 (.tmp 7) (.tmp 16) (by rfl) M 0 (runL (qn, qf, qt)).toArray (by rfl) (by rfl) TH.out (run_infoA (qn, qf, qt)) (run_one (qn, qf, qt)) ?_))
        rw [show (wr.alloc (.cells #[.int .i64 0, .int .i64 0, .int .i64 0] 38)).setCells M 0 (runL (qn, qf, qt)) = W2 from hW2.symm]
        clear hW2 TH hM
        have c0 : W2.cell? ⟨M, 0, none⟩ = some (.int .i64 qn) := HZ.out.cell 0
        have c1 : W2.cell? ⟨M, 1, none⟩ = some (.int .i64 qf) := HZ.out.cell 1
        have c2 : W2.cell? ⟨M, 2, none⟩ = some (.int .i64 qt) := HZ.out.cell 2
        have he := fun h => topF_eq c n k (by rw [HLE.out]; exact hlt) (by rw [HQ.out]; exact h)
        have hne := fun h => topF_ne c n k (by rw [HLE.out]; exact hlt) (by rw [HQ.out]; exact h)
        have hpa := fun h => topF_past (n := n) HRB.out k (by rw [HLE.out]; exact hlt) (by rw [HQ.out]; exact h)
        rw [HQ.out] at he
        dsimp only at he hne hpa
        have HEQ := hid he
        have HNEQ := hid hne
        have HPA := hid hpa
        obtain ⟨S, hS⟩ : ∃ S, topF (c.take k) n = S := ⟨_, rfl⟩
        have HSS := hid hS
        rw [hS]
        clear he hne hpa hS KW
        by_cases h1 : qn < n
        · have HN := hid (HNEQ.out (by omega))
          go_wp2
          go_roundw
          case rel => exact ⟨k + 1, by rw [HLE.out]; omega, by rw [HN.out, HSS.out], by go_num, HK2⟩
          case measure => simp [intOf]; omega
        · by_cases h2 : n < qn
          · have HN := hid (HPA.out h2)
            go_wp2
            go_ret
            exact ⟨by rw [HE.out, HN.out, HSS.out]; rfl, K1.out.trans HK2.out (fun _ _ h => h)⟩
          · have HN := hid (HEQ.out (by omega))
            go_wp2
            go_roundw
            case rel => exact ⟨k + 1, by rw [HLE.out]; omega, by rw [HN.out], by go_num, HK2⟩
            case measure => simp [intOf]; omega
      · obtain rfl : k = L := by omega
        have ht : c.take k = c := List.take_of_length_le (by rw [HLE.out]; exact Nat.le_refl _)
        rw [ht]
        go_wp2
        dsimp only [Exit.noGoto]
        go_ret
        exact ⟨by rw [HE.out]; rfl, K1.out.trans HK.out (fun _ _ h => h)⟩
end
section
open Go.RowKit
/-- An own row with its block. -/
theorem rowblk {w : World} {base e size n : Nat} {v : Value} {xs : List Value} (h : w.ownsRow base e size v n xs) (hn : 0 < n) : ∃ g cap vs, v = .slice (some ⟨g, 0, none⟩) n cap ∧ base ≤ g ∧ Blk w g e vs ∧ n ≤ cap ∧ cap ≤ maxLen ∧ vs.length = cap * size ∧ vs.take (n * size) = xs := by
  rcases h.2 with ⟨_, h0⟩ | ⟨g, cap, cur, rfl, hb, hg, hnc, hm, hs, ht⟩
  · omega
  · exact ⟨g, cap, cur.toList, rfl, hb, by unfold Blk; simpa using hg, hnc, hm, by simpa using hs, ht⟩
theorem own_put {w : World} {base e size n g cap : Nat} {vs xs : List Value} (hx : xs.length = n * size) (hb : base ≤ g) (hg : Blk w g e vs) (hnc : n ≤ cap) (hm : cap ≤ maxLen) (hs : vs.length = cap * size) (ht : vs.take (n * size) = xs) :
    w.ownsRow base e size (.slice (some ⟨g, 0, none⟩) n cap) n xs :=
  ⟨hx, .inr ⟨g, cap, vs.toArray, rfl, hb, hg, hnc, hm, by simpa using hs, by simpa using ht⟩⟩
end
section
open Go.RowKit
theorem exec_loadD {P : Program} {ev : Operand → Value} {o : Oper} {T : TypeId} {x : Operand} {a : Addr} {v : Value} {w : World} (ho : o.op = .load T x) (hx : ev x = .pointer (some a)) (hl : (Instr.loadAt T (.pointer (some a))).run P w = .ok v w) : (execOp ev o).run P w = .ok (.value v) w := by
  unfold execOp
  simp only [ho, hx, Sem.run_bind, Sem.run_pure, Result.andThen_ok, hl]
theorem cell_lt {w : World} {a : Addr} {v : Value} (h : w.cell? a = some v) : a.block < w.heap.size := by
  unfold World.cell? at h
  cases hx : w.heap[a.block]? with
  | none => rw [hx] at h; cases h
  | some o => exact (Array.getElem?_eq_some_iff.1 hx).1
end
section
open Go.RowKit
theorem right_good {c : List RunQ} (h : rightC c = true) : ∀ q ∈ c, goodR q = true := fun q hq => by
  obtain ⟨i, hi, rfl⟩ := List.mem_iff_getElem.1 hq
  have := (rightC_of.1 h i hi).1
  unfold runAt at this
  rwa [List.getElem?_eq_getElem hi] at this
end
section
open Go.RowKit Go.Shelf Go.Sort Go.Lib
attribute [local go_sem] Oper.semAt_some
theorem eq_run (p q : RunQ) (w : World) : Sem.run Tryz.prog (Op.equalIn 10000 38 (runV p) (runV q)) w = .ok (decide (p = q)) w := by
  obtain ⟨a, b, c⟩ := p
  obtain ⟨a', b', c'⟩ := q
  have hd : decide (((a, b, c) : RunQ) = (a', b', c')) = (decide (a = a') && (decide (b = b') && decide (c = c'))) := by simp only [Prod.mk.injEq, Bool.decide_and]
  rw [hd]
  clear hd
  dsimp only [runV]
  by_cases h1 : a = a'
  · subst h1
    by_cases h2 : b = b'
    · subst h2
      by_cases h3 : c = c'
      · subst h3; go_simp
      · have g : (c == c') = false := beq_eq_false_iff_ne.2 h3
        rw [decide_eq_false h3]
        clear h3
        go_simp
    · have g : (b == b') = false := beq_eq_false_iff_ne.2 h2
      rw [decide_eq_false h2]
      clear h2
      go_simp
  · have g : (a == a') = false := beq_eq_false_iff_ne.2 h1
    rw [decide_eq_false h1]
    clear h1
    go_simp
theorem neqR : NeqAt Tryz.prog 38 (fun q : RunQ => .agg (runL q).toArray) (fun x y => decide (x = y)) := by
  constructor
  · intro x y w
    have h : Sem.run Tryz.prog (Op.equal 38 (.agg (runL x).toArray) (.agg (runL y).toArray)) w = .ok (decide (x = y)) w := eq_run x y w
    dsimp only
    show Sem.run Tryz.prog (do pure (Value.bool (!(← Op.equal 38 (.agg (runL x).toArray) (.agg (runL y).toArray))))) w = _
    simp only [Sem.run_bind, Sem.run_pure, Result.andThen_ok, h]
  · intro op a b x y w
    obtain ⟨xs, hxs⟩ : ∃ xs : Array Value, (runL x).toArray = xs := ⟨_, rfl⟩
    obtain ⟨ys, hys⟩ : ∃ ys : Array Value, (runL y).toArray = ys := ⟨_, rfl⟩
    dsimp only
    rw [hxs, hys]
    go_simp
theorem holds_runs {w : World} {g off : Nat} {c : List RunQ} (h : ∀ i, i < c.length → w.rangeAt g (off + i * 3) (runL (runAt c i))) : ∀ j, j < c.length → ∀ i v, (runL c[j]!)[i]? = some v → w.cell? ⟨g, off + j * 3 + i, none⟩ = some v := fun j hj i v hv => by
  refine h j hj i v ?_
  rw [← hv]
  have e : c[j]! = runAt c j := by unfold runAt; rw [getElem!_pos c j hj, List.getElem?_eq_getElem hj]; rfl
  rw [e]
set_option maxHeartbeats 1000000 in
theorem requal_any (va vb : Value) (xs ys : List RunQ) (w : World) (ha : ClSl w va xs) (hb : ClSl w vb ys) (hx : xs.length ≤ 100000) (hy : ys.length ≤ 100000) :
    Calls Tryz.prog 81 #[va, vb] w fun e w' => e = .returned (.bool (decide (xs = ys))) ∧ Kp Nb w w' := by
  by_cases hl : xs.length = ys.length
  · by_cases h0 : xs.length = 0
    · have e1 : xs = [] := List.length_eq_zero_iff.1 h0
      have e2 : ys = [] := List.length_eq_zero_iff.1 (by omega)
      subst e1 e2
      obtain ⟨pa, da, rfl⟩ := ha.shape
      obtain ⟨pb, db, rfl⟩ := hb.shape
      clear ha hb hx hy hl h0
      simp only [List.length_nil]
      go_enter Tryz.func81, Tryz.ntmps81
      go_wp2
      go_loopw [13] (fun i wr => i = .int .i64 0 ∧ wr = w) (fun _ _ => 0)
      case atStart => exact ⟨rfl, rfl⟩
      case round =>
        obtain ⟨rfl, rfl⟩ := hrel
        go_wp2
        go_ret
        exact ⟨by simp, Kp.refl _ _⟩
    · obtain ⟨g, o1, c1, rfl, hc1, _, hcell1⟩ := cl_shape ha (by intro e; rw [e] at h0; exact h0 rfl)
      obtain ⟨g2, o2, c2, rfl, hc2, _, hcell2⟩ := cl_shape hb (by intro e; rw [e] at hl; exact h0 hl)
      have h := AnyQ.slices_Equal (P := Tryz.prog) Tryz.equalRun 3 (fun w => Tryz.isAgg38 w) (fun w => Tryz.sizeOf38 w) runL (fun _ => rfl) (fun x y => decide (x = y)) neqR g o1 xs.length c1 g2 o2 ys.length c2 xs ys w
        (Nat.le_refl _) (Nat.le_refl _) (by omega) (by omega) (holds_runs hcell1) (holds_runs hcell2)
      refine Calls.mono h ?_
      rintro e w' ⟨rfl, q, rfl⟩
      refine ⟨?_, ⟨rfl, rfl, rfl, Nat.le_refl _, fun _ _ _ => rfl⟩⟩
      congr 2
      rw [List.take_length, List.take_length]
      have e : ∀ (a b : List RunQ), Lib.allEq (fun x y => decide (x = y)) a b = decide (a = b) := fun a => by
        induction a with
        | nil => intro b; cases b <;> simp [Lib.allEq]
        | cons x a ih => intro b; cases b with
          | nil => simp [Lib.allEq]
          | cons y b => simp [Lib.allEq, ih]
      rw [e]
  · have hne : decide (xs = ys) = false := decide_eq_false (fun e => hl (by rw [e]))
    rw [hne]
    obtain ⟨pa, da, rfl⟩ := ha.shape
    obtain ⟨pb, db, rfl⟩ := hb.shape
    obtain ⟨nA, hnA⟩ : ∃ n, xs.length = n := ⟨_, rfl⟩
    obtain ⟨nB, hnB⟩ : ∃ n, ys.length = n := ⟨_, rfl⟩
    rw [hnA, hnB] at hl ⊢
    have hl' : ¬ (nA : Int) = (nB : Int) := by omega
    clear ha hb hx hy hne hnA hnB hl
    go_enter Tryz.func81, Tryz.ntmps81
    go_wp2
    go_ret
    exact ⟨rfl, Kp.refl _ _⟩
set_option maxHeartbeats 1000000 in
theorem same_any (va vb : Value) (xs ys : List RunQ) (w : World) (ha : ClSl w va xs) (hb : ClSl w vb ys) (hx : xs.length ≤ 100000) (hy : ys.length ≤ 100000) :
    Calls Tryz.prog 42 #[va, vb] w fun e w' => e = .returned (.bool (decide (xs = ys))) ∧ Kp Nb w w' := by
  have CC := hid (requal_any va vb xs ys w ha hb hx hy)
  obtain ⟨b, hb'⟩ : ∃ b, decide (xs = ys) = b := ⟨_, rfl⟩
  rw [hb'] at CC ⊢
  have HS := ha.shape
  have HS2 := hb.shape
  clear ha hb hx hy hb'
  obtain ⟨pa, da, rfl⟩ := HS
  obtain ⟨pb, db, rfl⟩ := HS2
  go_enter Tryz.func42, Tryz.ntmps42
  go_wp2_with (go_at_call 81; refine CC.out.mono ?_; rintro r w1 ⟨rfl, k1⟩; have K1 := hid k1; clear k1)
  go_ret
  exact ⟨rfl, K1.out⟩
end
section
open Go.RowKit
/-- One run lies behind another one, and they don't touch. -/
def Gap (p q : RunQ) : Prop := p.1 < q.1 ∨ (p.1 = q.1 ∧ p.2.2 + 2 ≤ q.2.1)
theorem gapB_gap {p q : RunQ} : gapB p q = true ↔ Gap p q := by
  unfold gapB Gap
  simp only [Bool.not_eq_true', Bool.or_eq_false_iff, Bool.and_eq_false_iff, decide_eq_false_iff_not]
  omega
def Rt (c : List RunQ) : Prop := (∀ r ∈ c, goodR r = true) ∧ c.Pairwise Gap
theorem Rt.nil : Rt [] := ⟨by simp, .nil⟩
theorem gap_trans {p q r : RunQ} (hq : goodR q = true) (h1 : Gap p q) (h2 : Gap q r) : Gap p r := by
  have := goodR_of.1 hq
  unfold Gap at *
  omega
theorem rightC_rt {c : List RunQ} : rightC c = true ↔ Rt c := by
  rw [rightC_of]
  have hat : ∀ i (hi : i < c.length), runAt c i = c[i] := fun i hi => by unfold runAt; rw [List.getElem?_eq_getElem hi]; rfl
  constructor
  · intro h
    refine ⟨fun r hr => ?_, ?_⟩
    · obtain ⟨i, hi, rfl⟩ := List.mem_iff_getElem.1 hr
      rw [← hat i hi]; exact (h i hi).1
    · rw [List.pairwise_iff_getElem]
      have key : ∀ (d i : Nat), i + d + 1 < c.length → Gap (runAt c i) (runAt c (i + d + 1)) := by
        intro d
        induction d with
        | zero => intro i hi; exact gapB_gap.1 ((h (i + 1) hi).2 (by omega))
        | succ d ih =>
          intro i hi
          have h1 := ih i (by omega)
          have h2 := gapB_gap.1 ((h (i + (d + 1) + 1) hi).2 (by omega))
          rw [show i + (d + 1) + 1 - 1 = i + d + 1 by omega] at h2
          exact gap_trans (h (i + d + 1) (by omega)).1 h1 h2
      intro i j hi hj hij
      have := key (j - i - 1) i (by omega)
      rw [show i + (j - i - 1) + 1 = j by omega, hat i hi, hat j hj] at this
      exact this
  · rintro ⟨h1, h2⟩ i hi
    refine ⟨?_, fun h0 => gapB_gap.2 ?_⟩
    · rw [hat i hi]; exact h1 _ (List.getElem_mem hi)
    · rw [List.pairwise_iff_getElem] at h2
      rw [hat i hi, hat (i - 1) (by omega)]
      exact h2 (i - 1) i (by omega) hi (by omega)
end
section
open Go.RowKit Go.Shelf Go.Sort Go.Lib
attribute [local go_sem] Oper.semAt_some
abbrev bs (l : List UInt8) : ByteArray := ⟨l.toArray⟩
/-- The library's table of powers lies in memory. -/
def Tab (w : World) : Prop := Lib.TabIs Tryz.prog w "internal/strconv.uint64pow10" .u64 Lib.pow10Tab
theorem Tab.keptS {S : Nat → Prop} {w w' : World} (h : Tab w) (k : Kp S w w') (hS : ∀ g, g < w.heap.size → Tryz.prog.globalNamed "internal/strconv.uint64pow10" = some g → ¬ S g) : Tab w' := by
  unfold Tab Lib.TabIs World.var? at h ⊢
  cases hg : Tryz.prog.globalNamed "internal/strconv.uint64pow10" with
  | none => rw [hg] at h; cases h
  | some g =>
    rw [hg, Option.bind_some] at h
    rw [Option.bind_some]
    cases ho : w.heap[g]? with
    | none => rw [ho] at h; cases h
    | some o =>
      have hlt : g < w.heap.size := (Array.getElem?_eq_some_iff.1 ho).1
      rw [k.block g hlt (hS g hlt hg)]
      exact h
theorem Tab.kept {w w' : World} (h : Tab w) (k : Kp Nb w w') : Tab w' := h.keptS k (fun _ _ _ h => h)
theorem kp_grow (w : World) (n : Nat) (os : Array Obj) : Kp Nb w (grow (w.drewN n) os) := by
  have k := (Kp.refl Nb w).drewN n
  refine k.trans ⟨rfl, rfl, rfl, ?_, fun i hi _ => ?_⟩ (fun _ _ h => h)
  · show _ ≤ ((w.drewN n).heap ++ os).size
    rw [Array.size_append]; omega
  · show ((w.drewN n).heap ++ os)[i]? = _
    rw [Array.getElem?_append_left hi]
theorem itoa_any (n : Int) (h : I64 n) (w : World) (ht : Tab w) : Calls Tryz.prog 114 #[.int .i64 n] w fun e w' => e = .returned (.string (bs (Lib.itoa n))) ∧ Kp Nb w w' := by
  refine Calls.mono (Tryz.strconv_Itoa n (by unfold I64 at h; omega) (by unfold I64 at h; omega) w ht) ?_
  rintro e w' ⟨rfl, k, os, rfl⟩
  exact ⟨rfl, kp_grow w k os⟩
theorem add_bs (w : World) (a b : List UInt8) (ha : a.length ≤ 8388608) (hb : b.length ≤ 8388608) : (Op.stringOp .add (bs a) (bs b)).run Tryz.prog w = .ok (.string (bs (a ++ b))) w :=
  run_string_add_lists w a b (by omega) (by omega)
theorem dec_len : ∀ (k u : Nat), u < 10 ^ (k + 1) → (Lib.decDigits u).length ≤ k + 1
  | 0, u, h => by
    unfold Lib.decDigits
    rw [dif_pos (by omega)]
    simp
  | k + 1, u, h => by
    unfold Lib.decDigits
    split
    · simp
    · have h1 := dec_len k (u / 10) (by rw [Nat.div_lt_iff_lt_mul (by decide)]; rw [Nat.pow_succ 10 (k + 1)] at h; exact h)
      rw [List.length_append, List.length_singleton]
      omega
theorem itoa_len (n : Int) (h : I64 n) : (Lib.itoa n).length ≤ 25 := by
  have h1 : n.natAbs < 10 ^ (19 + 1) := by unfold I64 at h; simp; omega
  have h2 := dec_len 19 n.natAbs h1
  have h3 := dec_len 19 n.toNat (by omega)
  have h4 := dec_len 19 (-n).toNat (by omega)
  unfold Lib.itoa
  split <;> simp <;> omega
/-- A run's text. -/
def textR (q : RunQ) : List UInt8 := Lib.itoa q.1 ++ [58] ++ Lib.itoa q.2.1 ++ (if q.2.1 < q.2.2 then [45] ++ Lib.itoa q.2.2 else [])
set_option maxRecDepth 100000 in
set_option maxHeartbeats 2000000 in
theorem runtext_any (q : RunQ) (w : World) (hq : RunOk q) (ht : Tab w) : Calls Tryz.prog 101 #[runV q] w fun e w' => e = .returned (.string (bs (textR q))) ∧ Kp Nb w w' := by
  obtain ⟨qn, qf, qt⟩ := q
  obtain ⟨N, hN⟩ : ∃ N, w.heap.size = N := ⟨_, rfl⟩
  obtain ⟨W, hW⟩ : ∃ W, W = w.alloc (.cells #[.int .i64 qn, .int .i64 qf, .int .i64 qt] 38) := ⟨_, rfl⟩
  have HB0 : Hid (Blk W N 38 [.int .i64 qn, .int .i64 qf, .int .i64 qt]) := hid (by rw [hW, ← hN]; exact Blk.new w _ _)
  have K0 : Hid (Kp Nb w W) := hid (by rw [hW]; exact (Kp.refl Nb w).alloc _)
  have HT := hid (ht.kept K0.out)
  obtain ⟨sn, hsn⟩ : ∃ t, bs (Lib.itoa qn) = t := ⟨_, rfl⟩
  obtain ⟨sf, hsf⟩ : ∃ t, bs (Lib.itoa qf) = t := ⟨_, rfl⟩
  obtain ⟨st', hst⟩ : ∃ t, bs (Lib.itoa qt) = t := ⟨_, rfl⟩
  obtain ⟨s1, hs1⟩ : ∃ t, bs (Lib.itoa qn ++ [58]) = t := ⟨_, rfl⟩
  obtain ⟨s2, hs2⟩ : ∃ t, bs (Lib.itoa qn ++ [58] ++ Lib.itoa qf) = t := ⟨_, rfl⟩
  obtain ⟨s3, hs3⟩ : ∃ t, bs ([45] ++ Lib.itoa qt) = t := ⟨_, rfl⟩
  obtain ⟨s4, hs4⟩ : ∃ t, bs (Lib.itoa qn ++ [58] ++ Lib.itoa qf ++ ([45] ++ Lib.itoa qt)) = t := ⟨_, rfl⟩
  have L1 := itoa_len qn hq.1
  have L2 := itoa_len qf hq.2.1
  have L3 := itoa_len qt hq.2.2
  have A1 : ∀ w : World, (Op.stringOp .add sn ⟨#[58]⟩).run Tryz.prog w = .ok (.string s1) w := fun w => by rw [← hsn, ← hs1]; exact add_bs w _ [58] (by omega) (by decide)
  have A2 : ∀ w : World, (Op.stringOp .add s1 sf).run Tryz.prog w = .ok (.string s2) w := fun w => by rw [← hs1, ← hsf, ← hs2]; exact add_bs w _ _ (by rw [List.length_append]; simp only [List.length_singleton]; omega) (by omega)
  have A3 : ∀ w : World, (Op.stringOp .add ⟨#[45]⟩ st').run Tryz.prog w = .ok (.string s3) w := fun w => by rw [← hst, ← hs3]; exact add_bs w [45] _ (by decide) (by omega)
  have A4 : ∀ w : World, (Op.stringOp .add s2 s3).run Tryz.prog w = .ok (.string s4) w := fun w => by rw [← hs2, ← hs3, ← hs4]; exact add_bs w _ _ (by simp only [List.length_append, List.length_singleton]; omega) (by simp only [List.length_append, List.length_singleton]; omega)
  have C1 : Hid (∀ wx, Tab wx → Calls Tryz.prog 114 #[.int .i64 qn] wx fun e w' => e = .returned (.string sn) ∧ Kp Nb wx w') := hid (fun wx h => by rw [← hsn]; exact itoa_any qn hq.1 wx h)
  have C2 : Hid (∀ wx, Tab wx → Calls Tryz.prog 114 #[.int .i64 qf] wx fun e w' => e = .returned (.string sf) ∧ Kp Nb wx w') := hid (fun wx h => by rw [← hsf]; exact itoa_any qf hq.2.1 wx h)
  have C3 : Hid (∀ wx, Tab wx → Calls Tryz.prog 114 #[.int .i64 qt] wx fun e w' => e = .returned (.string st') ∧ Kp Nb wx w') := hid (fun wx h => by rw [← hst]; exact itoa_any qt hq.2.2 wx h)
  have HR : Hid (bs (textR (qn, qf, qt)) = if qf < qt then s4 else s2) := hid (by
    unfold textR; dsimp only; rw [← hs4, ← hs2]
    split
    · rfl
    · rw [List.append_nil])
  obtain ⟨R, hR⟩ : ∃ R, bs (textR (qn, qf, qt)) = R := ⟨_, rfl⟩
  rw [hR] at HR ⊢
  clear ht hq hsn hsf hst hs1 hs2 hs3 hs4 hR L1 L2 L3
  go_enter Tryz.func101, Tryz.ntmps101
  go_upto_region 1 with fail
  rw [← hW]
  clear hW hN
  have c0 : W.cell? ⟨N, 0, none⟩ = some (.int .i64 qn) := HB0.out.cell 0
  have c1 : W.cell? ⟨N, 1, none⟩ = some (.int .i64 qf) := HB0.out.cell 1
  have kh := hid (Kp.refl Nb W)
  go_region_held3 (fun w' => Hid (Kp Nb W w') ∧ w'.cell? ⟨N, 0, none⟩ = some (.int .i64 qn) ∧ w'.cell? ⟨N, 1, none⟩ = some (.int .i64 qf))
    (first | exact ⟨hid (kh.out.drew), (HB0.out.kept (kh.out.drew) (fun h => h)).cell 0, (HB0.out.kept (kh.out.drew) (fun h => h)).cell 1⟩ | exact ⟨hid kh.out, (HB0.out.kept kh.out (fun h => h)).cell 0, (HB0.out.kept kh.out (fun h => h)).cell 1⟩)
    (first
      | (go_at_call 114; refine (C1.out _ (HT.out.kept (by first | exact Kp.drew kh.out | exact kh.out))).mono ?_; rintro e wy ⟨rfl, kk'⟩; have kh := hid (Kp.trans (by first | exact Kp.drew kh.out | exact kh.out) kk' (fun _ _ h => h)); clear kk')
      | (go_at_call 114; refine (C2.out _ (HT.out.kept (by first | exact Kp.drew kh.out | exact kh.out))).mono ?_; rintro e wy ⟨rfl, kk'⟩; have kh := hid (Kp.trans (by first | exact Kp.drew kh.out | exact kh.out) kk' (fun _ _ h => h)); clear kk'))
  have HB1 := hid (HB0.out.kept kh.out (fun h => h))
  have d1 : wy.cell? ⟨N, 1, none⟩ = some (.int .i64 qf) := HB1.out.cell 1
  have d2 : wy.cell? ⟨N, 2, none⟩ = some (.int .i64 qt) := HB1.out.cell 2
  clear c0 c1
  by_cases hlt : qf < qt
  · have hR := HR.out
    rw [if_pos hlt] at hR
    have HR2 := hid hR
    have hg : qt > qf := hlt
    clear hR
    go_wp2_with fail
    refine (C3.out _ (HT.out.kept kh.out)).mono ?_
    rintro r w5 ⟨rfl, k5⟩
    have K5 := hid (K0.out.trans (kh.out.trans k5 (fun _ _ h => h)) (fun _ _ h => h))
    clear k5
    go_wp2
    go_ret
    exact ⟨by rw [HR2.out]; rfl, K5.out⟩
  · have hR := HR.out
    rw [if_neg hlt] at hR
    have HR2 := hid hR
    have hg : ¬ qt > qf := hlt
    clear hR
    go_wp2
    go_ret
    exact ⟨by rw [HR2.out]; rfl, K0.out.trans kh.out (fun _ _ h => h)⟩
end

end Go.Proofs.YtogoophofgkboaaGreatDoor
