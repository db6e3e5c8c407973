/-
  Layer 3: clocks in memory; Right. Conditions: what these types hold; at most 2^40 runs.
-/
import Derived.Test.YtbbfibgijackhaaGreatDoorDtA
namespace Go.Proofs.YtbbfibgijackhaaGreatDoor
open Go.RowKit

def runAt (c : List RunQ) (i : Nat) : RunQ := c[i]?.getD (0, 0, 0)
def ClSl (w : World) (v : Value) (c : List RunQ) : Prop := (∀ i, RunOk (runAt c i)) ∧ RowsSl runL (0, 0, 0) 3 w v c
theorem ClSl.kept {w w' : World} {v : Value} {c : List RunQ} (h : ClSl w v c) (k : Kp Nb w w') : ClSl w' v c := ⟨h.1, h.2.kept k⟩
theorem ClSl.shape {w : World} {v : Value} {c : List RunQ} (h : ClSl w v c) : ∃ y d, v = .slice y c.length d := h.2.shape
theorem run_zero_ok : RunOk (0, 0, 0) := by unfold RunOk I64; decide
theorem ClSl.ok {w : World} {v : Value} {c : List RunQ} (h : ClSl w v c) : ∀ q ∈ c, RunOk q := fun q hq => by
  obtain ⟨i, hi, rfl⟩ := List.mem_iff_getElem.1 hq
  have := h.1 i
  unfold runAt at this
  rwa [List.getElem?_eq_getElem hi] at this
theorem runAt_ok {c : List RunQ} (h : ∀ q ∈ c, RunOk q) (i : Nat) : RunOk (runAt c i) := by
  unfold runAt
  cases e : c[i]? with
  | none => exact run_zero_ok
  | some q => exact h q (List.mem_of_getElem? e)
/-- A clock's slice, with its place. -/
theorem cl_shape {w : World} {v : Value} {c : List RunQ} (h : ClSl w v c) (h0 : c ≠ []) : ∃ blk off cap, v = .slice (some ⟨blk, off, none⟩) c.length cap ∧ c.length ≤ cap ∧ cap ≤ maxLen ∧ ∀ i, i < c.length → w.rangeAt blk (off + i * 3) (runL (runAt c i)) := by
  rcases h.2 with ⟨_, e⟩ | ⟨blk, off, cap, e, h1, h2, h3⟩
  · exact absurd e h0
  · exact ⟨blk, off, cap, e, h1, h2, h3⟩
theorem under_run : ∃ fs, Tryz.prog.underlying 61 = some (.struct fs) := ⟨_, Tryz.underlying61⟩
theorem run_info : (Tryz.prog.info? 61).map (·.size) = some 3 := by kernel_rfl
theorem run_infoL (q : RunQ) : (Tryz.prog.info? 61).map (·.size) = some (runL q).length := run_info
theorem run_infoA (q : RunQ) : (Tryz.prog.info? 61).map (·.size) = some (runL q).toArray.size := run_info
theorem run_one (q : RunQ) : (runL q).toArray.all (·.oneCell') = true := by simp [runL, Value.oneCell']
theorem run_one' (q : RunQ) : ∀ u ∈ runL q, u.oneCell' = true := fun u hu => by
  simp only [runL, List.mem_cons, List.not_mem_nil, or_false] at hu
  rcases hu with rfl | rfl | rfl <;> rfl
theorem load_run {w : World} {B o : Nat} {q : RunQ} (h : w.rangeAt B o (runL q)) : (Instr.loadAt 61 (.pointer (some ⟨B, o, none⟩))).run Tryz.prog w = .ok (runV q) w := by
  obtain ⟨fs, hu⟩ := under_run
  exact run_loadAt_mid w B o 61 (runL q) _ h hu rfl (run_infoL q)
theorem range_ofR {w : World} {B : Nat} {t : TypeId} {vs : List Value} (h : Blk w B t vs) : w.rangeAt B 0 vs := h.range 0 vs (fun j _ => by rw [Nat.zero_add])
theorem range_keptR {S : Nat → Prop} {w w' : World} {B o : Nat} {vs : List Value} (h : w.rangeAt B o vs) (k : Kp S w w') (hS : ¬ S B) : w'.rangeAt B o vs := fun j u hu => k.cell (h j u hu) hS
theorem run_there {w : World} {B : Nat} {t : TypeId} {p q : RunQ} (h : Blk w B t (runL p)) : w.there B 0 (runL q).toArray.size := h.there 0 3 (by simp)
/-- Is the second run behind the first one, with a gap? -/
def gapB (p q : RunQ) : Bool := !(decide (q.1 < p.1) || (decide (q.1 = p.1) && decide (q.2.1 < p.2.2 + 2)))
def rightC (c : List RunQ) : Bool := (List.range c.length).all fun i => goodR (runAt c i) && (decide (i = 0) || gapB (runAt c (i - 1)) (runAt c i))
theorem rightC_of {c : List RunQ} : rightC c = true ↔ ∀ i, i < c.length → goodR (runAt c i) = true ∧ (0 < i → gapB (runAt c (i - 1)) (runAt c i) = true) := by
  unfold rightC
  rw [List.all_eq_true]
  constructor
  · intro h i hi
    have := h i (List.mem_range.2 hi)
    rw [Bool.and_eq_true, Bool.or_eq_true, decide_eq_true_iff] at this
    exact ⟨this.1, fun h0 => this.2.resolve_left (by omega)⟩
  · intro h i hi
    have := h i (List.mem_range.1 hi)
    rw [Bool.and_eq_true, Bool.or_eq_true, decide_eq_true_iff]
    refine ⟨this.1, ?_⟩
    rcases Nat.eq_zero_or_pos i with h0 | h0
    · exact .inl h0
    · exact .inr (this.2 h0)
theorem rightC_not {c : List RunQ} (i : Nat) (hi : i < c.length) (h : goodR (runAt c i) = false ∨ (0 < i ∧ gapB (runAt c (i - 1)) (runAt c i) = false)) : rightC c = false := by
  cases e : rightC c with
  | false => rfl
  | true =>
    have := rightC_of.1 e i hi
    rcases h with h | ⟨h0, h⟩
    · rw [this.1] at h; cases h
    · rw [this.2 h0] at h; cases h
def RigR (w : World) (N : Nat) (c : List RunQ) (i : Value) (wr : World) : Prop := ∃ k : Nat, k ≤ c.length ∧ i = .int .i64 k ∧ Hid (∀ j, j < k → goodR (runAt c j) = true ∧ (0 < j → gapB (runAt c (j - 1)) (runAt c j) = true)) ∧ Hid (∃ p, Blk wr N 61 (runL p) ∧ (0 < k → p = runAt c (k - 1))) ∧ Hid (Kp Nb w wr)
set_option maxRecDepth 100000 in
set_option maxHeartbeats 4000000 in
theorem dright_any (v : Value) (c : List RunQ) (w : World) (hs : ClSl w v c) (hbig : c.length ≤ 1099511627776) : Calls Tryz.prog 9 #[v] w fun e w' => e = .returned (.bool (rightC c)) ∧ Kp Nb w w' := by
  obtain ⟨y, d, rfl⟩ := hs.shape
  obtain ⟨L, hL⟩ : ∃ L, c.length = L := ⟨_, rfl⟩
  obtain ⟨N, hN⟩ : ∃ N, w.heap.size = N := ⟨_, rfl⟩
  obtain ⟨W, hW⟩ : ∃ W, W = w.alloc (.cells (runL (0, 0, 0)).toArray 61) := ⟨_, rfl⟩
  have HB0 : Hid (Blk W N 61 (runL (0, 0, 0))) := hid (by rw [hW, ← hN]; exact Blk.new w _ _)
  have K0 : Hid (Kp Nb w W) := hid (by rw [hW]; exact (Kp.refl Nb w).alloc _)
  have HLE := hid hL
  have HNE := hid hN
  rw [hL] at hs hbig ⊢
  have HS := hid hs
  clear hL hs
  go_enter Tryz.func9, Tryz.ntmps9
  go_wp2_with fail
  rw [show w.alloc (.cells #[.int .i64 0, .int .i64 0, .int .i64 0] 61) = W from hW.symm]
  clear hW hN
  go_loopw [8] (RigR w N c) (fun i _ => L - (intOf i).toNat)
  case atStart => exact ⟨0, Nat.zero_le _, rfl, hid (fun j hj => absurd hj (Nat.not_lt_zero _)), hid ⟨_, HB0.out, fun h => absurd h (Nat.lt_irrefl _)⟩, K0⟩
  case round =>
    clear HB0 K0
    obtain ⟨k, hk, rfl, HJ, HP, HK⟩ := hrel
    rw [HLE.out] at hk
    by_cases hlt : k < L
    · obtain ⟨p, hp, hpk⟩ := HP.out
      have HBP := hid hp
      have HPK := hid hpk
      obtain ⟨blk, off, cap, e1, hc, hm, hcell⟩ := cl_shape (HS.out.kept HK.out) (by intro h; have := HLE.out; rw [h, List.length_nil] at this; omega)
      rw [HLE.out] at e1 hc hcell
      injection e1 with e1 _ e2
      subst e1 e2
      have HR := hid (hcell k hlt)
      have HOK := HS.out.1 k
      obtain ⟨q, hq⟩ : ∃ q, runAt c k = q := ⟨_, rfl⟩
      rw [hq] at HR HOK
      have HQ := hid hq
      obtain ⟨M, hM⟩ : ∃ M, wr.heap.size = M := ⟨_, rfl⟩
      obtain ⟨W2, hW2⟩ : ∃ W, W = (wr.alloc (.cells (runL (0, 0, 0)).toArray 61)).setCells M 0 (runL q) := ⟨_, rfl⟩
      have hz := Blk.new wr 61 (runL (0, 0, 0))
      rw [hM] at hz
      have kW : Kp Nb wr W2 := by rw [hW2]; exact Kp.setCells (fun h => absurd h (by omega)) _ 0 _ ((Kp.refl Nb wr).alloc _)
      have TH := hid (run_there (q := q) hz)
      have HZ : Hid (Blk W2 M 61 (runL q)) := hid (by rw [hW2]; exact row_set hz rfl)
      have HBP2 := hid (HBP.out.kept kW (fun h => h))
      have HK2 := hid (HK.out.trans kW (fun _ _ h => h))
      have HMN : Hid (N ≠ M) := hid (by have := HBP.out.lt; omega)
      unfold maxLen at hm
      clear hz kW hcell hp hpk hq
      obtain ⟨fs, hfs⟩ := under_run
      go_upto_region 5 with (first
        | (refine wpList_load_mid (by rfl) 61 (.tmp 11) (by rfl) blk (off + k * 3) (by rfl) (runL q) _ HR.out hfs rfl (run_infoL q) ?_)
        | (refine wpList_store_mid (by rfl) 61 (.tmp 5) (.tmp 12) (by rfl) M 0 (runL q).toArray (by rfl) (by rfl) TH.out (run_infoA q) (run_one q) ?_))
      rw [show (wr.alloc (.cells #[.int .i64 0, .int .i64 0, .int .i64 0] 61)).setCells M 0 (runL q) = W2 from hW2.symm]
      clear hW2 TH
      obtain ⟨qn, qf, qt⟩ := q
      obtain ⟨pn, pf, pt⟩ := p
      have c0 : W2.cell? ⟨M, 0, none⟩ = some (.int .i64 qn) := HZ.out.cell 0
      have c1 : W2.cell? ⟨M, 1, none⟩ = some (.int .i64 qf) := HZ.out.cell 1
      have c2 : W2.cell? ⟨M, 2, none⟩ = some (.int .i64 qt) := HZ.out.cell 2
      obtain ⟨gq, hgq⟩ : ∃ b, goodR (qn, qf, qt) = b := ⟨_, rfl⟩
      have HGQ := hid hgq
      clear hgq
      go_wp2_with fail
      refine (goodrun_any (qn, qf, qt) W2).mono ?_
      rintro r w5 ⟨rfl, k5⟩
      rw [HGQ.out]
      clear c0 c1 c2
      have HZ5 := hid (HZ.out.kept k5 (fun h => h))
      have HBP5 := hid (HBP2.out.kept k5 (fun h => h))
      have HK5 := hid (HK2.out.trans k5 (fun _ _ h => h))
      have c0 : w5.cell? ⟨M, 0, none⟩ = some (.int .i64 qn) := HZ5.out.cell 0
      have c1 : w5.cell? ⟨M, 1, none⟩ = some (.int .i64 qf) := HZ5.out.cell 1
      have c2 : w5.cell? ⟨M, 2, none⟩ = some (.int .i64 qt) := HZ5.out.cell 2
      have d0 : w5.cell? ⟨N, 0, none⟩ = some (.int .i64 pn) := HBP5.out.cell 0
      have d1 : w5.cell? ⟨N, 1, none⟩ = some (.int .i64 pf) := HBP5.out.cell 1
      have d2 : w5.cell? ⟨N, 2, none⟩ = some (.int .i64 pt) := HBP5.out.cell 2
      have HB6 : Hid (Blk (w5.setCells N 0 (runL (qn, qf, qt))) N 61 (runL (qn, qf, qt))) := hid (row_set HBP5.out rfl)
      have HK6 : Hid (Kp Nb w (w5.setCells N 0 (runL (qn, qf, qt)))) := hid (Kp.setCells (fun h => by have := HNE.out; omega) _ 0 _ HK5.out)
      clear k5 HZ HBP2 HK2
      cases gq with
      | false =>
        have HF : Hid (rightC c = false) := hid (rightC_not k (by rw [HLE.out]; exact hlt) (.inl (by rw [HQ.out]; exact HGQ.out)))
        go_wp2
        go_ret
        exact ⟨by rw [HF.out]; rfl, HK5.out⟩
      | true =>
        by_cases hk0 : k = 0
        · subst hk0
          have NXJ : Hid (∀ j, j < 0 + 1 → goodR (runAt c j) = true ∧ (0 < j → gapB (runAt c (j - 1)) (runAt c j) = true)) := hid (fun j hj => by
            obtain rfl : j = 0 := by omega
            exact ⟨by rw [HQ.out]; exact HGQ.out, fun h => absurd h (Nat.lt_irrefl _)⟩)
          go_upto_region 7 with fail
          go_wp2_with (first
            | (refine wpList_load_mid (by rfl) 61 (.tmp 5) (by rfl) M 0 (by rfl) (runL (qn, qf, qt)) _ (range_ofR HZ5.out) hfs rfl (run_infoL (qn, qf, qt)) ?_)
            | (refine wpList_store_mid (by rfl) 61 (.tmp 3) (.tmp 42) (by rfl) N 0 (runL (qn, qf, qt)).toArray (by rfl) (by rfl) (run_there (q := (qn, qf, qt)) HBP5.out) (run_infoA (qn, qf, qt)) (run_one (qn, qf, qt)) ?_))
          go_roundw
          case rel => exact ⟨0 + 1, by rw [HLE.out]; omega, by go_num, NXJ, hid ⟨(qn, qf, qt), HB6.out, fun _ => by rw [Nat.add_sub_cancel]; exact HQ.out.symm⟩, HK6⟩
          case measure => simp [intOf]; omega
        · have hk1 : 0 < k := by omega
          have hpp := HPK.out hk1
          have hpg := (HJ.out (k - 1) (by omega)).1
          rw [← hpp] at hpg
          have hpb := goodR_of.1 hpg
          dsimp only at hpb
          obtain ⟨gp, hgp⟩ : ∃ b, gapB (pn, pf, pt) (qn, qf, qt) = b := ⟨_, rfl⟩
          have hgu := hgp
          unfold gapB at hgu
          dsimp only at hgu
          have HF : Hid (gp = false → rightC c = false) := hid (fun h => rightC_not k (by rw [HLE.out]; exact hlt) (.inr ⟨hk1, by rw [HQ.out, ← hpp, hgp, h]⟩))
          have NXJ : Hid (gp = true → ∀ j, j < k + 1 → goodR (runAt c j) = true ∧ (0 < j → gapB (runAt c (j - 1)) (runAt c j) = true)) := hid (fun h j hj => by
            by_cases hj2 : j < k
            · exact HJ.out j hj2
            · obtain rfl : j = k := by omega
              exact ⟨by rw [HQ.out]; exact HGQ.out, fun _ => by rw [HQ.out, ← hpp, hgp, h]⟩)
          clear hpg hpp hgp
          by_cases h1 : qn < pn
          · have HF := hid (HF.out (by rw [← hgu]; simp [h1]))
            go_wp2
            go_ret
            exact ⟨by rw [HF.out]; rfl, HK5.out⟩
          · by_cases h2 : qn = pn
            · subst h2
              by_cases h3 : qf < pt + 2
              · have HF := hid (HF.out (by rw [← hgu]; simp [h3]))
                go_wp2
                go_ret
                exact ⟨by rw [HF.out]; rfl, HK5.out⟩
              · have NXJ := hid (NXJ.out (by rw [← hgu]; simp [h3]))
                go_upto_region 7 with fail
                go_wp2_with (first
                  | (refine wpList_load_mid (by rfl) 61 (.tmp 5) (by rfl) M 0 (by rfl) (runL (qn, qf, qt)) _ (range_ofR HZ5.out) hfs rfl (run_infoL (qn, qf, qt)) ?_)
                  | (refine wpList_store_mid (by rfl) 61 (.tmp 3) (.tmp 42) (by rfl) N 0 (runL (qn, qf, qt)).toArray (by rfl) (by rfl) (run_there (q := (qn, qf, qt)) HBP5.out) (run_infoA (qn, qf, qt)) (run_one (qn, qf, qt)) ?_))
                go_roundw
                case rel => exact ⟨k + 1, by rw [HLE.out]; omega, by go_num, NXJ, hid ⟨(qn, qf, qt), HB6.out, fun _ => by rw [Nat.add_sub_cancel]; exact HQ.out.symm⟩, HK6⟩
                case measure => simp [intOf]; omega
            · have NXJ := hid (NXJ.out (by rw [← hgu]; simp [h1, h2]))
              go_upto_region 7 with fail
              go_wp2_with (first
                | (refine wpList_load_mid (by rfl) 61 (.tmp 5) (by rfl) M 0 (by rfl) (runL (qn, qf, qt)) _ (range_ofR HZ5.out) hfs rfl (run_infoL (qn, qf, qt)) ?_)
                | (refine wpList_store_mid (by rfl) 61 (.tmp 3) (.tmp 42) (by rfl) N 0 (runL (qn, qf, qt)).toArray (by rfl) (by rfl) (run_there (q := (qn, qf, qt)) HBP5.out) (run_infoA (qn, qf, qt)) (run_one (qn, qf, qt)) ?_))
              go_roundw
              case rel => exact ⟨k + 1, by rw [HLE.out]; omega, by go_num, NXJ, hid ⟨(qn, qf, qt), HB6.out, fun _ => by rw [Nat.add_sub_cancel]; exact HQ.out.symm⟩, HK6⟩
              case measure => simp [intOf]; omega
    · obtain rfl : k = L := by omega
      have HT : Hid (rightC c = true) := hid (rightC_of.2 fun j hj => HJ.out j (by rw [HLE.out] at hj; exact hj))
      go_wp2
      go_ret
      exact ⟨by rw [HT.out]; rfl, HK.out⟩

end Go.Proofs.YtbbfibgijackhaaGreatDoor
