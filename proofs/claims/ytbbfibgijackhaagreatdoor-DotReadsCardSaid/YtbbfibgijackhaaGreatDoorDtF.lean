/-
  Layer 3: ahead, lay. Conditions: a list of runs that the call owns; at most 2^22 of them.
-/
import Derived.Test.YtbbfibgijackhaaGreatDoorDtE
import Derived.Test.YtbbfibgijackhaaGreatDoorVals2
namespace Go.Proofs.YtbbfibgijackhaaGreatDoor
open Go.RowKit

def aheadB (a b : RunQ) : Bool := decide (a.1 < b.1) || (decide (a.1 = b.1) && decide (a.2.1 < b.2.1))
set_option maxHeartbeats 1000000 in
theorem ahead_any (a b : RunQ) (w : World) : Calls Tryz.prog 43 #[runV a, runV b] w fun e w' => e = .returned (.bool (aheadB a b)) ∧ Kp Nb w w' := by
  obtain ⟨an, af, aT⟩ := a
  obtain ⟨bn, bf, bT⟩ := b
  have K := hid (((Kp.refl Nb w).alloc (.cells #[.int .i64 an, .int .i64 af, .int .i64 aT] 61)).alloc (.cells #[.int .i64 bn, .int .i64 bf, .int .i64 bT] 61))
  by_cases h1 : an < bn
  · have HG : Hid (aheadB (an, af, aT) (bn, bf, bT) = true) := hid (by unfold aheadB; simp [h1])
    go_enter Tryz.func43, Tryz.ntmps43
    go_wp2
    go_ret
    exact ⟨by rw [HG.out]; rfl, K.out⟩
  · by_cases h2 : an = bn
    · subst h2
      obtain ⟨x, hx⟩ : ∃ x, decide (af < bf) = x := ⟨_, rfl⟩
      have HG : Hid (aheadB (an, af, aT) (an, bf, bT) = x) := hid (by unfold aheadB; rw [← hx]; simp)
      go_enter Tryz.func43, Tryz.ntmps43
      go_wp2
      go_ret
      exact ⟨by rw [HG.out, ← hx]; rfl, K.out⟩
    · have HG : Hid (aheadB (an, af, aT) (bn, bf, bT) = false) := hid (by unfold aheadB; simp [h1, h2])
      go_enter Tryz.func43, Tryz.ntmps43
      go_wp2
      go_ret
      exact ⟨by rw [HG.out]; rfl, K.out⟩

theorem store_intD {w : World} {B i : Nat} {vs : List Value} {t : Nat} (h : Blk w B t vs) (x y : Int) (hv : vs[i]? = some (.int .i64 y)) : (Instr.storeAt 3 (.pointer (some ⟨B, i, none⟩)) (.int .i64 x)).run Tryz.prog w = .ok () (w.setCell ⟨B, i, none⟩ (.int .i64 x)) := by
  have hc := (h.cell i).trans hv
  have hf := h.frozen i
  go_simp
/-- An own row with its block. -/
theorem rowblk {w : World} {base e size n : Nat} {v : Value} {xs : List Value} (h : w.ownsRow base e size v n xs) (hn : 0 < n) : ∃ g cap vs, v = .slice (some ⟨g, 0, none⟩) n cap ∧ base ≤ g ∧ Blk w g e vs ∧ n ≤ cap ∧ cap ≤ maxLen ∧ vs.length = cap * size ∧ vs.take (n * size) = xs := by
  rcases h.2 with ⟨_, h0⟩ | ⟨g, cap, cur, rfl, hb, hg, hnc, hm, hs, ht⟩
  · omega
  · exact ⟨g, cap, cur.toList, rfl, hb, by unfold Blk; simpa using hg, hnc, hm, by simpa using hs, ht⟩
theorem own_put {w : World} {base e size n g cap : Nat} {vs xs : List Value} (hx : xs.length = n * size) (hb : base ≤ g) (hg : Blk w g e vs) (hnc : n ≤ cap) (hm : cap ≤ maxLen) (hs : vs.length = cap * size) (ht : vs.take (n * size) = xs) :
    w.ownsRow base e size (.slice (some ⟨g, 0, none⟩) n cap) n xs :=
  ⟨hx, .inr ⟨g, cap, vs.toArray, rfl, hb, hg, hnc, hm, by simpa using hs, by simpa using ht⟩⟩
def layR (p r : RunQ) : Option RunQ := if p.1 = r.1 ∧ r.2.1 ≤ p.2.2 + 1 then some (p.1, p.2.1, max p.2.2 r.2.2) else none
def layC (c : List RunQ) (r : RunQ) : List RunQ := match c.getLast? with
  | none => [r]
  | some p => match layR p r with
    | none => c ++ [r]
    | some m => c.dropLast ++ [m]
theorem layC_at {c : List RunQ} {k : Nat} (h : c.length = k + 1) (r : RunQ) : layC c r = match layR (runAt c k) r with
    | none => c ++ [r]
    | some m => c.take k ++ [m] := by
  have e : c.getLast? = some (runAt c k) := by
    rw [List.getLast?_eq_getElem?, h, Nat.add_sub_cancel]
    unfold runAt
    rw [List.getElem?_eq_getElem (by omega)]
    rfl
  unfold layC
  rw [e, List.dropLast_eq_take, h, Nat.add_sub_cancel]
theorem flat_len3 (c : List RunQ) : (flatR runL c).length = c.length * 3 := by
  unfold flatR
  induction c with
  | nil => rfl
  | cons q c ih => rw [List.flatMap_cons, List.length_append, ih, List.length_cons]; simp; omega
theorem flat_at3 (c : List RunQ) (k : Nat) (hk : k < c.length) (j : Nat) (hj : j < 3) : (flatR runL c)[k * 3 + j]? = (runL (runAt c k))[j]? := by
  have e : c = c.take k ++ (runAt c k :: c.drop (k + 1)) := by
    unfold runAt
    rw [List.getElem?_eq_getElem hk, Option.getD_some, ← List.drop_eq_getElem_cons hk, List.take_append_drop]
  have hl : (flatR runL (c.take k)).length = k * 3 := by rw [flat_len3, List.length_take, Nat.min_eq_left (by omega)]
  conv => lhs; rw [e]
  rw [flatR_append, List.getElem?_append_right (by rw [hl]; omega), hl, show k * 3 + j - k * 3 = j by omega]
  unfold flatR
  rw [List.flatMap_cons, List.getElem?_append_left (by simpa using hj)]
theorem flat_set3 (c : List RunQ) (k : Nat) (hk : c.length = k + 1) (m : RunQ) (hm : m.1 = (runAt c k).1 ∧ m.2.1 = (runAt c k).2.1) : (flatR runL c).set (k * 3 + 2) (.int .i64 m.2.2) = flatR runL (c.take k ++ [m]) := by
  have e : c = c.take k ++ [runAt c k] := by
    have := take_snocR c k (by omega)
    rwa [List.take_of_length_le (by omega)] at this
  have hl : (flatR runL (c.take k)).length = k * 3 := by rw [flat_len3, List.length_take, Nat.min_eq_left (by omega)]
  conv => lhs; rw [e]
  rw [flatR_append, flatR_append, List.set_append_right _ _ (by rw [hl]; omega), hl, show k * 3 + 2 - k * 3 = 2 by omega]
  congr 1
  unfold flatR
  obtain ⟨m1, m2, m3⟩ := m
  dsimp only at hm ⊢
  rw [hm.1, hm.2]
  rfl

set_option maxRecDepth 100000 in
set_option maxHeartbeats 4000000 in
theorem lay_any (B : Nat) (v : Value) (c : List RunQ) (r : RunQ) (w : World) (ho : w.ownsRow B 61 3 v c.length (flatR runL c)) (hB : B ≤ w.heap.size) (hc : ∀ q ∈ c, -9223372036854775808 ≤ q.2.2 ∧ q.2.2 ≤ 1099511627776) (hl : c.length ≤ 4194304) :
    Calls Tryz.prog 44 #[v, runV r] w fun e w' => ∃ v', e = .returned v' ∧ w'.ownsRow B 61 3 v' (layC c r).length (flatR runL (layC c r)) ∧ Kp (fun i => B ≤ i) w w' := by
  obtain ⟨rn, rf, rt⟩ := r
  obtain ⟨a0, cap, e0⟩ := own_shape ho
  subst e0
  obtain ⟨L, hL⟩ : ∃ L, c.length = L := ⟨_, rfl⟩
  obtain ⟨N, hN⟩ : ∃ N, w.heap.size = N := ⟨_, rfl⟩
  obtain ⟨W, hW⟩ : ∃ W, W = w.alloc (.cells (runL (rn, rf, rt)).toArray 61) := ⟨_, rfl⟩
  have HB0 : Hid (Blk W N 61 (runL (rn, rf, rt))) := hid (by rw [hW, ← hN]; exact Blk.new w _ _)
  have K0 : Kp Nb w W := by rw [hW]; exact (Kp.refl Nb w).alloc _
  have HO := hid (ownsRow_kpD ho K0)
  have KS : Hid (Kp (fun i => B ≤ i) w W) := hid (by rw [hW]; exact (Kp.refl _ w).alloc _)
  have HBN : Hid (B ≤ N ∧ w.heap.size = N ∧ N < W.heap.size) := hid ⟨by rw [← hN]; exact hB, hN, HB0.out.lt⟩
  have HGLT : Hid (∀ g, (Value.slice a0 c.length cap).ownBlock = some g → g < N) := hid (fun g hg => by obtain ⟨-, o, ho, -⟩ := row_cells ho hg; rw [← hN]; exact (Array.getElem?_eq_some_iff.1 ho).1)
  have HLE := hid hL
  rw [hL] at HO hl HGLT ⊢
  have HLB := hid hl
  have hLb : L ≤ 4194304 := hl
  clear ho hL hl K0
  have APP : Hid (∀ w2, Kp Nb W w2 → layC c (rn, rf, rt) = c ++ [(rn, rf, rt)] → ∀ v10 w10, w10.ownsRow B 61 3 v10 (L + [(rn, rf, rt)].length) (flatR runL c ++ flatR runL [(rn, rf, rt)]) →
      (w2.alloc (.cells #[.int .i64 rn, .int .i64 rf, .int .i64 rt] 61 (0, 0))).grownBy w10 (Value.slice a0 L cap).ownBlock →
      w10.ownsRow B 61 3 v10 (layC c (rn, rf, rt)).length (flatR runL (layC c (rn, rf, rt))) ∧ Kp (fun i => B ≤ i) w w10) := hid (fun w2 k2 e v10 w10 hown hgrow => by
    refine ⟨by rw [e, List.length_append, HLE.out, flatR_append]; exact hown, ?_⟩
    refine ((KS.out.trans k2 (fun _ _ h => h.elim)).trans ((Kp.refl Nb w2).alloc (.cells #[.int .i64 rn, .int .i64 rf, .int .i64 rt] 61 (0, 0))) (fun _ _ h => h.elim)).grown hgrow (fun g hg _ => (row_cells HO.out hg).1))
  have MK := hid (fun w2 => make_run1 w2 rn rf rt)
  have B2 : Hid (∀ w2, Kp Nb W w2 → L + [(rn, rf, rt)].length ≤ maxLen ∧ (L + [(rn, rf, rt)].length) * 24 ≤ 140737488355328 ∧ B ≤ (w2.alloc (.cells #[.int .i64 rn, .int .i64 rf, .int .i64 rt] 61 (0, 0))).heap.size) := hid (fun w2 k2 => by
    have h1 := k2.size
    have h2 := ((Kp.refl Nb w2).alloc (.cells #[.int .i64 rn, .int .i64 rf, .int .i64 rt] 61 (0, 0))).size
    have h3 := HBN.out
    have h4 := HLB.out
    refine ⟨?_, ?_, by omega⟩ <;> rw [List.length_singleton]
    · unfold maxLen; omega
    · omega)
  obtain ⟨i0, zz, hi, hz0, hz1, hz2, hz3⟩ := run_info3
  by_cases h0 : L = 0
  · have hc0 : c = [] := List.length_eq_zero_iff.1 (by rw [HLE.out]; exact h0)
    subst hc0
    have HLC : Hid (layC [] (rn, rf, rt) = [] ++ [(rn, rf, rt)]) := hid rfl
    subst h0
    clear hc
    go_enter Tryz.func44, Tryz.ntmps44
    go_upto_region 1 with fail
    rw [← hW]
    clear hW
    go_wp2_with fail
    go_quiet (fail)
    obtain ⟨w2, hw2⟩ : ∃ w, w = W.drewN nq := ⟨_, rfl⟩
    have K2 : Hid (Kp Nb W w2) := hid (by rw [hw2]; exact (Kp.refl Nb W).drewN _)
    rw [← hw2]
    clear hw2
    have HO2 := hid (ownsRow_kpD HO.out K2.out)
    have HN2 := hid (HB0.out.kept K2.out (fun h => h))
    have d0 : w2.cell? ⟨N, 0, none⟩ = some (.int .i64 rn) := HN2.out.cell 0
    have d1 : w2.cell? ⟨N, 1, none⟩ = some (.int .i64 rf) := HN2.out.cell 1
    have d2 : w2.cell? ⟨N, 2, none⟩ = some (.int .i64 rt) := HN2.out.cell 2
    go_wp2_with (first
      | (refine wpList_val (by rfl) _ _ (exec_buildSliceD rfl (qs := #[(0, .agg #[.int .i64 rn, .int .i64 rf, .int .i64 rt])]) (by simp [Act.eval, Act.put]) (MK.out _)) ?_)
      | (at_builtin; refine wpList_append_rows (f := runL) (z := (0, 0, 0)) (c := 3) rfl _ _ 23 rfl B 61 i0 zz 24 under_clock hi hz0 hz1 hz2 hz3 (by decide) _ _ _ rfl (ownsRow_kpD HO2.out ((Kp.refl Nb _).alloc _)) _ [(rn, rf, rt)] rfl (rows_oneR (Blk.new _ _ _)) (fun x hx => rfl) (fun x _ => run_one' x) (B2.out _ K2.out).1 (B2.out _ K2.out).2.1 (B2.out _ K2.out).2.2 ?_))
    intro v10 w10 hown hgrow
    have HX := hid (APP.out w2 K2.out HLC.out v10 w10 hown hgrow)
    obtain ⟨a10, c10, rfl⟩ := own_shape hown
    clear hown hgrow
    go_wp2
    go_ret
    exact ⟨_, rfl, HX.out.1, HX.out.2⟩
  · obtain ⟨k, hk⟩ : ∃ k, L = k + 1 := ⟨L - 1, by omega⟩
    have hat := layC_at (c := c) (k := k) (by rw [HLE.out]; exact hk) (rn, rf, rt)
    have hrk := hc (runAt c k) (runAt_mem (by rw [HLE.out]; omega))
    have hset := flat_set3 c k (by rw [HLE.out]; exact hk)
    have hf0 := flat_at3 c k (by rw [HLE.out]; omega) 0 (by decide)
    have hf1 := flat_at3 c k (by rw [HLE.out]; omega) 1 (by decide)
    have hf2 := flat_at3 c k (by rw [HLE.out]; omega) 2 (by decide)
    obtain ⟨⟨pn, pf, pt⟩, hp⟩ : ∃ p, runAt c k = p := ⟨_, rfl⟩
    rw [hp] at hat hrk hset hf0 hf1 hf2
    dsimp only at hrk hset
    obtain ⟨g, cap', vs, e0, hbg, hg, hnc, hcm, hvl, hvt⟩ := rowblk HO.out (by omega)
    injection e0 with e0 _ e1
    subst e0 e1
    have HGB := hid hg
    have hv0 : vs[k * 3 + 0]? = some (.int .i64 pn) := by
      rw [← List.getElem?_take_of_lt (show k * 3 + 0 < L * 3 by omega), hvt, hf0]; rfl
    have hv1 : vs[k * 3 + 1]? = some (.int .i64 pf) := by
      rw [← List.getElem?_take_of_lt (show k * 3 + 1 < L * 3 by omega), hvt, hf1]; rfl
    have hv2 : vs[k * 3 + 2]? = some (.int .i64 pt) := by
      rw [← List.getElem?_take_of_lt (show k * 3 + 2 < L * 3 by omega), hvt, hf2]; rfl
    have HGC := hid hv2
    have HSET := hid hset
    have HAT := hid hat
    have HROW := hid (show B ≤ g ∧ L ≤ cap ∧ cap ≤ maxLen ∧ vs.length = cap * 3 ∧ vs.take (L * 3) = flatR runL c from ⟨hbg, hnc, hcm, hvl, hvt⟩)
    have HGN : Hid (g ≠ N) := hid (fun e => by have := HGLT.out g rfl; omega)
    have c0 : W.cell? ⟨g, k * 3, none⟩ = some (.int .i64 pn) := (hg.cell (k * 3)).trans hv0
    have c2 : W.cell? ⟨g, k * 3 + 2, none⟩ = some (.int .i64 pt) := (hg.cell (k * 3 + 2)).trans hv2
    have d0 : W.cell? ⟨N, 0, none⟩ = some (.int .i64 rn) := HB0.out.cell 0
    have d1 : W.cell? ⟨N, 1, none⟩ = some (.int .i64 rf) := HB0.out.cell 1
    have d2 : W.cell? ⟨N, 2, none⟩ = some (.int .i64 rt) := HB0.out.cell 2
    have HKL : Hid ((k : Int) < (L : Int) ∧ 0 ≤ (k : Int)) := hid (by omega)
    clear hc hat hset hf0 hf1 hf2 hg hv0 hv1 hv2 hbg hnc hcm hvl hvt hp
    subst hk
    go_enter Tryz.func44, Tryz.ntmps44
    go_upto_region 1 with fail
    rw [← hW]
    clear hW hN
    by_cases h1 : pn = rn
    · subst h1
      by_cases h2 : rf ≤ pt + 1
      · obtain ⟨mx, hmx⟩ : ∃ m, max pt rt = m := ⟨_, rfl⟩
        have HMX := hid hmx
        have HLC : Hid (layC c (pn, rf, rt) = c.take k ++ [(pn, pf, mx)]) := hid (by rw [HAT.out]; unfold layR; rw [if_pos ⟨rfl, h2⟩, ← hmx])
        have HSE := hid (HSET.out (pn, pf, mx) ⟨rfl, rfl⟩)
        clear hmx
        go_wp2_with fail
        go_quiet (fail)
        obtain ⟨w2, hw2⟩ : ∃ w, w = W.drewN nq := ⟨_, rfl⟩
        have K2 : Hid (Kp Nb W w2) := hid (by rw [hw2]; exact (Kp.refl Nb W).drewN _)
        rw [← hw2]
        clear hw2 c0 c2 d0 d1 d2
        have HO2 := hid (ownsRow_kpD HO.out K2.out)
        have HN2 := hid (HB0.out.kept K2.out (fun h => h))
        have HG2 := hid (HGB.out.kept K2.out (fun h => h))
        have d0 : w2.cell? ⟨N, 0, none⟩ = some (.int .i64 pn) := HN2.out.cell 0
        have d1 : w2.cell? ⟨N, 1, none⟩ = some (.int .i64 rf) := HN2.out.cell 1
        have d2 : w2.cell? ⟨N, 2, none⟩ = some (.int .i64 rt) := HN2.out.cell 2
        clear d0 d1 d2
        go_wp2_with fail
        refine region_vals_lastT (n := 12) [none, none, none, none, none, none, none, none, none, none, none, none, none, none, none, none, none, none, none, none, none, none, none, none, none, none, none, none, none, none, none, none, some 0, some 1, some 2, some 3, some 4, some 5, some 6, some 7, some 8, some 9, some 10, some 11, none, none, none, none, none] [[(0, none)], [(5, none)], [(0, none)], [(5, none)], [(34, some 2), (35, some 3)], [(36, some 4)], [(37, some 5)], [(3, none)], [(39, some 7)], [(38, some 6), (40, some 8)], [(32, some 0), (33, some 1)], [(42, some 10)], [(43, some 11), (41, some 9)]] [some 32, some 33, some 34, some 35, some 36, some 37, some 38, some 39, some 40, some 41, some 42, some 43] [.slice (some ⟨g, 0, none⟩) (k + 1) cap, .int .i64 (k : Int), .slice (some ⟨g, 0, none⟩) (k + 1) cap, .int .i64 (k : Int), .pointer (some ⟨g, k * 3, none⟩), .pointer (some ⟨g, k * 3 + 2, none⟩), .int .i64 pt, .pointer (some ⟨N, 2, none⟩), .int .i64 rt, .int .i64 mx, .pointer (some ⟨g, k * 3, none⟩), .pointer (some ⟨g, k * 3 + 2, none⟩)] (fun w' => Hid (Kp Nb w2 w')) (by kernel_rfl) (by kernel_rfl) (by kernel_rfl) (by kernel_rfl) ({ dst := none, op := Op.store 3 (Operand.tmp 43) (Operand.tmp 41), type := 0, pos := "dot.go:89", after := #[{ on := 11, ground := Ground.data }, { on := 9, ground := Ground.data }, { on := 0, ground := Ground.phase }, { on := 1, ground := Ground.phase }, { on := 2, ground := Ground.phase }, { on := 3, ground := Ground.phase }, { on := 4, ground := Ground.phase }, { on := 5, ground := Ground.phase }, { on := 6, ground := Ground.phase }, { on := 7, ground := Ground.phase }, { on := 8, ground := Ground.phase }, { on := 9, ground := Ground.phase }], guard := none }) rfl rfl (by kernel_rfl) (by kernel_rfl) ?hS (?hstep : VFrom _ _ _ _ _ _ 0 12).start ?hend
        case hstep =>
          refine VFrom.cons (VStep.val _ rfl _ rfl (.slice (some ⟨g, 0, none⟩) (k + 1) cap) rfl trivial (fun ev wq hS he hr => ?_)) ?_
          · have r0 : ev (.tmp 0) = .slice (some ⟨g, 0, none⟩) (k + 1) cap := hr (0, none) (by simp); have hk := he.1; clear hr he
            go_simp
          refine VFrom.cons (VStep.val _ rfl _ rfl (.int .i64 (k : Int)) rfl trivial (fun ev wq hS he hr => ?_)) ?_
          · have r0 : ev (.tmp 5) = .int .i64 (k : Int) := hr (5, none) (by simp); have hk := he.1; clear hr he
            go_simp
          refine VFrom.cons (VStep.val _ rfl _ rfl (.slice (some ⟨g, 0, none⟩) (k + 1) cap) rfl trivial (fun ev wq hS he hr => ?_)) ?_
          · have r0 : ev (.tmp 0) = .slice (some ⟨g, 0, none⟩) (k + 1) cap := hr (0, none) (by simp); have hk := he.1; clear hr he
            go_simp
          refine VFrom.cons (VStep.val _ rfl _ rfl (.int .i64 (k : Int)) rfl trivial (fun ev wq hS he hr => ?_)) ?_
          · have r0 : ev (.tmp 5) = .int .i64 (k : Int) := hr (5, none) (by simp); have hk := he.1; clear hr he
            go_simp
          refine VFrom.cons (VStep.val _ rfl _ rfl (.pointer (some ⟨g, k * 3, none⟩)) rfl trivial (fun ev wq hS he hr => ?_)) ?_
          · have r0 : ev (.tmp 34) = .slice (some ⟨g, 0, none⟩) (k + 1) cap := hr (34, some 2) (by simp); have r1 : ev (.tmp 35) = .int .i64 (k : Int) := hr (35, some 3) (by simp); have hk := he.1; clear hr he
            have e1 := HKL.out; have e2 : ¬ ((k : Int) + 1 ≤ (k : Int)) := by omega
            go_simp
          refine VFrom.cons (VStep.val _ rfl _ rfl (.pointer (some ⟨g, k * 3 + 2, none⟩)) rfl trivial (fun ev wq hS he hr => ?_)) ?_
          · have r0 : ev (.tmp 36) = .pointer (some ⟨g, k * 3, none⟩) := hr (36, some 4) (by simp); have hk := he.1; clear hr he
            go_simp
          refine VFrom.cons (VStep.val _ rfl _ rfl (.int .i64 pt) rfl trivial (fun ev wq hS he hr => ?_)) ?_
          · have r0 : ev (.tmp 37) = .pointer (some ⟨g, k * 3 + 2, none⟩) := hr (37, some 5) (by simp); have hk := he.1; clear hr he
            have c0 := (HG2.out.kept hS.out (fun h => h)).cell (k * 3 + 2) |>.trans HGC.out
            go_simp
          refine VFrom.cons (VStep.val _ rfl _ rfl (.pointer (some ⟨N, 2, none⟩)) rfl trivial (fun ev wq hS he hr => ?_)) ?_
          · have r0 : ev (.tmp 3) = .pointer (some ⟨N, 0, none⟩) := hr (3, none) (by simp); have hk := he.1; clear hr he
            go_simp
          refine VFrom.cons (VStep.val _ rfl _ rfl (.int .i64 rt) rfl trivial (fun ev wq hS he hr => ?_)) ?_
          · have r0 : ev (.tmp 39) = .pointer (some ⟨N, 2, none⟩) := hr (39, some 7) (by simp); have hk := he.1; clear hr he
            have c0 := (HN2.out.kept hS.out (fun h => h)).cell 2
            go_simp
          refine VFrom.cons (VStep.val _ rfl _ rfl (.int .i64 mx) rfl trivial (fun ev wq hS he hr => ?_)) ?_
          · have r0 : ev (.tmp 38) = .int .i64 pt := hr (38, some 6) (by simp); have r1 : ev (.tmp 40) = .int .i64 rt := hr (40, some 8) (by simp); have hk := he.1; clear hr he
            have e1 := HMX.out
            go_simp
          refine VFrom.cons (VStep.val _ rfl _ rfl (.pointer (some ⟨g, k * 3, none⟩)) rfl trivial (fun ev wq hS he hr => ?_)) ?_
          · have r0 : ev (.tmp 32) = .slice (some ⟨g, 0, none⟩) (k + 1) cap := hr (32, some 0) (by simp); have r1 : ev (.tmp 33) = .int .i64 (k : Int) := hr (33, some 1) (by simp); have hk := he.1; clear hr he
            have e1 := HKL.out; have e2 : ¬ ((k : Int) + 1 ≤ (k : Int)) := by omega
            go_simp
          refine VFrom.cons (VStep.val _ rfl _ rfl (.pointer (some ⟨g, k * 3 + 2, none⟩)) rfl trivial (fun ev wq hS he hr => ?_)) ?_
          · have r0 : ev (.tmp 42) = .pointer (some ⟨g, k * 3, none⟩) := hr (42, some 10) (by simp); have hk := he.1; clear hr he
            go_simp
          exact VFrom.nil
        case hS => exact hid (Kp.refl Nb w2).drew
        case hend =>
          intro af wy haf kh
          have HG3 := HG2.out.kept kh.out (fun h => h)
          have HG4 := hid (HG3.set (k * 3 + 2) (.int .i64 mx))
          have HKY : Hid (Kp (fun i => B ≤ i) w (wy.setCell ⟨g, k * 3 + 2, none⟩ (.int .i64 mx))) := hid (((KS.out.trans K2.out (fun _ _ h => h.elim)).trans kh.out (fun _ _ h => h.elim)).setCell (p := ⟨g, k * 3 + 2, none⟩) (fun _ => HROW.out.1) _)
          have HOW : Hid ((wy.setCell ⟨g, k * 3 + 2, none⟩ (.int .i64 mx)).ownsRow B 61 3 (.slice (some ⟨g, 0, none⟩) (k + 1) cap) (layC c (pn, rf, rt)).length (flatR runL (layC c (pn, rf, rt)))) := hid (by
            have hlen : (layC c (pn, rf, rt)).length = k + 1 := by rw [HLC.out, List.length_append, List.length_take, HLE.out]; simp
            rw [hlen]
            obtain ⟨r1, r2, r3, r4, r5⟩ := HROW.out
            refine own_put (by rw [flat_len3, hlen]) r1 HG4.out r2 r3 (by rw [List.length_set]; exact r4) ?_
            rw [List.take_set, r5, HLC.out]
            exact HSE.out)
          refine wp_store_at 3 (.tmp 43) (.tmp 41) rfl (p := ⟨g, k * 3 + 2, none⟩) (v := .int .i64 mx) (by rw [haf.out]; kernel_rfl) (by rw [haf.out]; kernel_rfl) (store_intD HG3 mx pt HGC.out) ?_
          rw [haf.out]
          clear haf kh HG3
          simp only [putAll, List.zip_cons_cons, List.zip_nil_right, List.foldl_cons, List.foldl_nil, Act.put, List.setIfInBounds_toArray, List.set_cons_zero, List.set_cons_succ]
          go_wp2
          go_ret
          exact ⟨_, rfl, HOW.out, HKY.out⟩
      · have HLC : Hid (layC c (pn, rf, rt) = c ++ [(pn, rf, rt)]) := hid (by rw [HAT.out]; unfold layR; rw [if_neg (fun h => h2 h.2)])
        go_wp2_with fail
        go_quiet (fail)
        obtain ⟨w2, hw2⟩ : ∃ w, w = W.drewN nq := ⟨_, rfl⟩
        have K2 : Hid (Kp Nb W w2) := hid (by rw [hw2]; exact (Kp.refl Nb W).drewN _)
        rw [← hw2]
        clear hw2 c0 c2 d0 d1 d2
        have HO2 := hid (ownsRow_kpD HO.out K2.out)
        have HN2 := hid (HB0.out.kept K2.out (fun h => h))
        have HG2 := hid (HGB.out.kept K2.out (fun h => h))
        have d0 : w2.cell? ⟨N, 0, none⟩ = some (.int .i64 pn) := HN2.out.cell 0
        have d1 : w2.cell? ⟨N, 1, none⟩ = some (.int .i64 rf) := HN2.out.cell 1
        have d2 : w2.cell? ⟨N, 2, none⟩ = some (.int .i64 rt) := HN2.out.cell 2
        go_wp2_with (first
          | (refine wpList_val (by rfl) _ _ (exec_buildSliceD rfl (qs := #[(0, .agg #[.int .i64 pn, .int .i64 rf, .int .i64 rt])]) (by simp [Act.eval, Act.put]) (MK.out _)) ?_)
          | (at_builtin; refine wpList_append_rows (f := runL) (z := (0, 0, 0)) (c := 3) rfl _ _ 23 rfl B 61 i0 zz 24 under_clock hi hz0 hz1 hz2 hz3 (by decide) _ _ _ rfl (ownsRow_kpD HO2.out ((Kp.refl Nb _).alloc _)) _ [(pn, rf, rt)] rfl (rows_oneR (Blk.new _ _ _)) (fun x hx => rfl) (fun x _ => run_one' x) (B2.out _ K2.out).1 (B2.out _ K2.out).2.1 (B2.out _ K2.out).2.2 ?_))
        intro v10 w10 hown hgrow
        have HX := hid (APP.out w2 K2.out HLC.out v10 w10 hown hgrow)
        obtain ⟨a10, c10, rfl⟩ := own_shape hown
        clear hown hgrow
        go_wp2
        go_ret
        exact ⟨_, rfl, HX.out.1, HX.out.2⟩
    · have HLC : Hid (layC c (rn, rf, rt) = c ++ [(rn, rf, rt)]) := hid (by rw [HAT.out]; unfold layR; rw [if_neg (fun h => h1 h.1)])
      have h1d : decide (pn = rn) = false := decide_eq_false h1
      have h1e : (pn == rn) = false := by simpa using h1
      go_wp2_with fail
      go_quiet (fail)
      obtain ⟨w2, hw2⟩ : ∃ w, w = W.drewN nq := ⟨_, rfl⟩
      have K2 : Hid (Kp Nb W w2) := hid (by rw [hw2]; exact (Kp.refl Nb W).drewN _)
      rw [← hw2]
      clear hw2 c0 c2 d0 d1 d2
      have HO2 := hid (ownsRow_kpD HO.out K2.out)
      have HN2 := hid (HB0.out.kept K2.out (fun h => h))
      have HG2 := hid (HGB.out.kept K2.out (fun h => h))
      have d0 : w2.cell? ⟨N, 0, none⟩ = some (.int .i64 rn) := HN2.out.cell 0
      have d1 : w2.cell? ⟨N, 1, none⟩ = some (.int .i64 rf) := HN2.out.cell 1
      have d2 : w2.cell? ⟨N, 2, none⟩ = some (.int .i64 rt) := HN2.out.cell 2
      go_wp2_with (first
        | (refine wpList_val (by rfl) _ _ (exec_buildSliceD rfl (qs := #[(0, .agg #[.int .i64 rn, .int .i64 rf, .int .i64 rt])]) (by simp [Act.eval, Act.put]) (MK.out _)) ?_)
        | (at_builtin; refine wpList_append_rows (f := runL) (z := (0, 0, 0)) (c := 3) rfl _ _ 23 rfl B 61 i0 zz 24 under_clock hi hz0 hz1 hz2 hz3 (by decide) _ _ _ rfl (ownsRow_kpD HO2.out ((Kp.refl Nb _).alloc _)) _ [(rn, rf, rt)] rfl (rows_oneR (Blk.new _ _ _)) (fun x hx => rfl) (fun x _ => run_one' x) (B2.out _ K2.out).1 (B2.out _ K2.out).2.1 (B2.out _ K2.out).2.2 ?_))
      intro v10 w10 hown hgrow
      have HX := hid (APP.out w2 K2.out HLC.out v10 w10 hown hgrow)
      obtain ⟨a10, c10, rfl⟩ := own_shape hown
      clear hown hgrow
      go_wp2
      go_ret
      exact ⟨_, rfl, HX.out.1, HX.out.2⟩

end Go.Proofs.YtbbfibgijackhaaGreatDoor
