/-
  Of the texts DtI, DtP, DtM, DtN, DtO, DtS, OpenDt, DtAl, OpenDe what is used. No condition but what each says.
-/
import Derived.Test.YtogoophofgkboaaGreatDoorRd
import Derived.Test.YtogoophofgkboaaGreatDoorShelf
import Derived.Lib.SmallJoins
import Derived.Test.YtogoophofgkboaaGreatDoorRa
import Derived.Test.YtogoophofgkboaaGreatDoorRows
import Derived.Handed
import Derived.LaidMore
import Derived.Lay
import Derived.Stop.Joined
import Derived.Lib.LaidTab
namespace Go.Proofs.YtogoophofgkboaaGreatDoor
section
open Go.RowKit Go.Shelf Go.Sort Go.Lib
attribute [local go_sem] Oper.semAt_some
theorem eq_run (p q : RunQ) (w : World) : Sem.run Tryz.prog (Op.equalIn 10000 38 (runV p) (runV q)) w = .ok (decide (p = q)) w := by
  obtain ⟨a, b, c⟩ := p
  obtain ⟨a', b', c'⟩ := q
  have hd : decide (((a, b, c) : RunQ) = (a', b', c')) = (decide (a = a') && (decide (b = b') && decide (c = c'))) := by simp only [Prod.mk.injEq, Bool.decide_and]
  rw [hd]
  clear hd
  dsimp only [runV]
  by_cases h1 : a = a'
  · subst h1
    by_cases h2 : b = b'
    · subst h2
      by_cases h3 : c = c'
      · subst h3; go_simp
      · have g : (c == c') = false := beq_eq_false_iff_ne.2 h3
        rw [decide_eq_false h3]
        clear h3
        go_simp
    · have g : (b == b') = false := beq_eq_false_iff_ne.2 h2
      rw [decide_eq_false h2]
      clear h2
      go_simp
  · have g : (a == a') = false := beq_eq_false_iff_ne.2 h1
    rw [decide_eq_false h1]
    clear h1
    go_simp
theorem neqR : NeqAt Tryz.prog 38 (fun q : RunQ => .agg (runL q).toArray) (fun x y => decide (x = y)) := by
  constructor
  · intro x y w
    have h : Sem.run Tryz.prog (Op.equal 38 (.agg (runL x).toArray) (.agg (runL y).toArray)) w = .ok (decide (x = y)) w := eq_run x y w
    dsimp only
    show Sem.run Tryz.prog (do pure (Value.bool (!(← Op.equal 38 (.agg (runL x).toArray) (.agg (runL y).toArray))))) w = _
    simp only [Sem.run_bind, Sem.run_pure, Result.andThen_ok, h]
  · intro op a b x y w
    obtain ⟨xs, hxs⟩ : ∃ xs : Array Value, (runL x).toArray = xs := ⟨_, rfl⟩
    obtain ⟨ys, hys⟩ : ∃ ys : Array Value, (runL y).toArray = ys := ⟨_, rfl⟩
    dsimp only
    rw [hxs, hys]
    go_simp
theorem holds_runs {w : World} {g off : Nat} {c : List RunQ} (h : ∀ i, i < c.length → w.rangeAt g (off + i * 3) (runL (runAt c i))) : ∀ j, j < c.length → ∀ i v, (runL c[j]!)[i]? = some v → w.cell? ⟨g, off + j * 3 + i, none⟩ = some v := fun j hj i v hv => by
  refine h j hj i v ?_
  rw [← hv]
  have e : c[j]! = runAt c j := by unfold runAt; rw [getElem!_pos c j hj, List.getElem?_eq_getElem hj]; rfl
  rw [e]
set_option maxHeartbeats 1000000 in
theorem requal_any (va vb : Value) (xs ys : List RunQ) (w : World) (ha : ClSl w va xs) (hb : ClSl w vb ys) (hx : xs.length ≤ 100000) (hy : ys.length ≤ 100000) :
    Calls Tryz.prog 81 #[va, vb] w fun e w' => e = .returned (.bool (decide (xs = ys))) ∧ Kp Nb w w' := by
  by_cases hl : xs.length = ys.length
  · by_cases h0 : xs.length = 0
    · have e1 : xs = [] := List.length_eq_zero_iff.1 h0
      have e2 : ys = [] := List.length_eq_zero_iff.1 (by omega)
      subst e1 e2
      obtain ⟨pa, da, rfl⟩ := ha.shape
      obtain ⟨pb, db, rfl⟩ := hb.shape
      clear ha hb hx hy hl h0
      simp only [List.length_nil]
      go_enter Tryz.func81, Tryz.ntmps81
      go_wp2
      go_loopw [13] (fun i wr => i = .int .i64 0 ∧ wr = w) (fun _ _ => 0)
      case atStart => exact ⟨rfl, rfl⟩
      case round =>
        obtain ⟨rfl, rfl⟩ := hrel
        go_wp2
        go_ret
        exact ⟨by simp, Kp.refl _ _⟩
    · obtain ⟨g, o1, c1, rfl, hc1, _, hcell1⟩ := cl_shape ha (by intro e; rw [e] at h0; exact h0 rfl)
      obtain ⟨g2, o2, c2, rfl, hc2, _, hcell2⟩ := cl_shape hb (by intro e; rw [e] at hl; exact h0 hl)
      have h := AnyQ.slices_Equal (P := Tryz.prog) Tryz.equalRun 3 (fun w => Tryz.isAgg38 w) (fun w => Tryz.sizeOf38 w) runL (fun _ => rfl) (fun x y => decide (x = y)) neqR g o1 xs.length c1 g2 o2 ys.length c2 xs ys w
        (Nat.le_refl _) (Nat.le_refl _) (by omega) (by omega) (holds_runs hcell1) (holds_runs hcell2)
      refine Calls.mono h ?_
      rintro e w' ⟨rfl, q, rfl⟩
      refine ⟨?_, ⟨rfl, rfl, rfl, Nat.le_refl _, fun _ _ _ => rfl⟩⟩
      congr 2
      rw [List.take_length, List.take_length]
      have e : ∀ (a b : List RunQ), Lib.allEq (fun x y => decide (x = y)) a b = decide (a = b) := fun a => by
        induction a with
        | nil => intro b; cases b <;> simp [Lib.allEq]
        | cons x a ih => intro b; cases b with
          | nil => simp [Lib.allEq]
          | cons y b => simp [Lib.allEq, ih]
      rw [e]
  · have hne : decide (xs = ys) = false := decide_eq_false (fun e => hl (by rw [e]))
    rw [hne]
    obtain ⟨pa, da, rfl⟩ := ha.shape
    obtain ⟨pb, db, rfl⟩ := hb.shape
    obtain ⟨nA, hnA⟩ : ∃ n, xs.length = n := ⟨_, rfl⟩
    obtain ⟨nB, hnB⟩ : ∃ n, ys.length = n := ⟨_, rfl⟩
    rw [hnA, hnB] at hl ⊢
    have hl' : ¬ (nA : Int) = (nB : Int) := by omega
    clear ha hb hx hy hne hnA hnB hl
    go_enter Tryz.func81, Tryz.ntmps81
    go_wp2
    go_ret
    exact ⟨rfl, Kp.refl _ _⟩
set_option maxHeartbeats 1000000 in
theorem same_any (va vb : Value) (xs ys : List RunQ) (w : World) (ha : ClSl w va xs) (hb : ClSl w vb ys) (hx : xs.length ≤ 100000) (hy : ys.length ≤ 100000) :
    Calls Tryz.prog 42 #[va, vb] w fun e w' => e = .returned (.bool (decide (xs = ys))) ∧ Kp Nb w w' := by
  have CC := hid (requal_any va vb xs ys w ha hb hx hy)
  obtain ⟨b, hb'⟩ : ∃ b, decide (xs = ys) = b := ⟨_, rfl⟩
  rw [hb'] at CC ⊢
  have HS := ha.shape
  have HS2 := hb.shape
  clear ha hb hx hy hb'
  obtain ⟨pa, da, rfl⟩ := HS
  obtain ⟨pb, db, rfl⟩ := HS2
  go_enter Tryz.func42, Tryz.ntmps42
  go_wp2_with (go_at_call 81; refine CC.out.mono ?_; rintro r w1 ⟨rfl, k1⟩; have K1 := hid k1; clear k1)
  go_ret
  exact ⟨rfl, K1.out⟩
end
section
open Go.RowKit
/-- One run lies behind another one, and they don't touch. -/
def Gap (p q : RunQ) : Prop := p.1 < q.1 ∨ (p.1 = q.1 ∧ p.2.2 + 2 ≤ q.2.1)
theorem gapB_gap {p q : RunQ} : gapB p q = true ↔ Gap p q := by
  unfold gapB Gap
  simp only [Bool.not_eq_true', Bool.or_eq_false_iff, Bool.and_eq_false_iff, decide_eq_false_iff_not]
  omega
def Rt (c : List RunQ) : Prop := (∀ r ∈ c, goodR r = true) ∧ c.Pairwise Gap
theorem Rt.nil : Rt [] := ⟨by simp, .nil⟩
theorem gap_trans {p q r : RunQ} (hq : goodR q = true) (h1 : Gap p q) (h2 : Gap q r) : Gap p r := by
  have := goodR_of.1 hq
  unfold Gap at *
  omega
theorem rightC_rt {c : List RunQ} : rightC c = true ↔ Rt c := by
  rw [rightC_of]
  have hat : ∀ i (hi : i < c.length), runAt c i = c[i] := fun i hi => by unfold runAt; rw [List.getElem?_eq_getElem hi]; rfl
  constructor
  · intro h
    refine ⟨fun r hr => ?_, ?_⟩
    · obtain ⟨i, hi, rfl⟩ := List.mem_iff_getElem.1 hr
      rw [← hat i hi]; exact (h i hi).1
    · rw [List.pairwise_iff_getElem]
      have key : ∀ (d i : Nat), i + d + 1 < c.length → Gap (runAt c i) (runAt c (i + d + 1)) := by
        intro d
        induction d with
        | zero => intro i hi; exact gapB_gap.1 ((h (i + 1) hi).2 (by omega))
        | succ d ih =>
          intro i hi
          have h1 := ih i (by omega)
          have h2 := gapB_gap.1 ((h (i + (d + 1) + 1) hi).2 (by omega))
          rw [show i + (d + 1) + 1 - 1 = i + d + 1 by omega] at h2
          exact gap_trans (h (i + d + 1) (by omega)).1 h1 h2
      intro i j hi hj hij
      have := key (j - i - 1) i (by omega)
      rw [show i + (j - i - 1) + 1 = j by omega, hat i hi, hat j hj] at this
      exact this
  · rintro ⟨h1, h2⟩ i hi
    refine ⟨?_, fun h0 => gapB_gap.2 ?_⟩
    · rw [hat i hi]; exact h1 _ (List.getElem_mem hi)
    · rw [List.pairwise_iff_getElem] at h2
      rw [hat i hi, hat (i - 1) (by omega)]
      exact h2 (i - 1) i (by omega) hi (by omega)
end
section
open Go.RowKit Go.Shelf Go.Sort Go.Lib
attribute [local go_sem] Oper.semAt_some
abbrev bs (l : List UInt8) : ByteArray := ⟨l.toArray⟩
/-- The library's table of powers lies in memory. -/
def Tab (w : World) : Prop := Lib.TabIs Tryz.prog w "internal/strconv.uint64pow10" .u64 Lib.pow10Tab
theorem Tab.keptS {S : Nat → Prop} {w w' : World} (h : Tab w) (k : Kp S w w') (hS : ∀ g, g < w.heap.size → Tryz.prog.globalNamed "internal/strconv.uint64pow10" = some g → ¬ S g) : Tab w' := by
  unfold Tab Lib.TabIs World.var? at h ⊢
  cases hg : Tryz.prog.globalNamed "internal/strconv.uint64pow10" with
  | none => rw [hg] at h; cases h
  | some g =>
    rw [hg, Option.bind_some] at h
    rw [Option.bind_some]
    cases ho : w.heap[g]? with
    | none => rw [ho] at h; cases h
    | some o =>
      have hlt : g < w.heap.size := (Array.getElem?_eq_some_iff.1 ho).1
      rw [k.block g hlt (hS g hlt hg)]
      exact h
theorem Tab.kept {w w' : World} (h : Tab w) (k : Kp Nb w w') : Tab w' := h.keptS k (fun _ _ _ h => h)
theorem kp_grow (w : World) (n : Nat) (os : Array Obj) : Kp Nb w (grow (w.drewN n) os) := by
  have k := (Kp.refl Nb w).drewN n
  refine k.trans ⟨rfl, rfl, rfl, ?_, fun i hi _ => ?_⟩ (fun _ _ h => h)
  · show _ ≤ ((w.drewN n).heap ++ os).size
    rw [Array.size_append]; omega
  · show ((w.drewN n).heap ++ os)[i]? = _
    rw [Array.getElem?_append_left hi]
theorem itoa_any (n : Int) (h : I64 n) (w : World) (ht : Tab w) : Calls Tryz.prog 114 #[.int .i64 n] w fun e w' => e = .returned (.string (bs (Lib.itoa n))) ∧ Kp Nb w w' := by
  refine Calls.mono (Tryz.strconv_Itoa n (by unfold I64 at h; omega) (by unfold I64 at h; omega) w ht) ?_
  rintro e w' ⟨rfl, k, os, rfl⟩
  exact ⟨rfl, kp_grow w k os⟩
theorem add_bs (w : World) (a b : List UInt8) (ha : a.length ≤ 8388608) (hb : b.length ≤ 8388608) : (Op.stringOp .add (bs a) (bs b)).run Tryz.prog w = .ok (.string (bs (a ++ b))) w :=
  run_string_add_lists w a b (by omega) (by omega)
theorem dec_len : ∀ (k u : Nat), u < 10 ^ (k + 1) → (Lib.decDigits u).length ≤ k + 1
  | 0, u, h => by
    unfold Lib.decDigits
    rw [dif_pos (by omega)]
    simp
  | k + 1, u, h => by
    unfold Lib.decDigits
    split
    · simp
    · have h1 := dec_len k (u / 10) (by rw [Nat.div_lt_iff_lt_mul (by decide)]; rw [Nat.pow_succ 10 (k + 1)] at h; exact h)
      rw [List.length_append, List.length_singleton]
      omega
theorem itoa_len (n : Int) (h : I64 n) : (Lib.itoa n).length ≤ 25 := by
  have h1 : n.natAbs < 10 ^ (19 + 1) := by unfold I64 at h; simp; omega
  have h2 := dec_len 19 n.natAbs h1
  have h3 := dec_len 19 n.toNat (by omega)
  have h4 := dec_len 19 (-n).toNat (by omega)
  unfold Lib.itoa
  split <;> simp <;> omega
/-- A run's text. -/
def textR (q : RunQ) : List UInt8 := Lib.itoa q.1 ++ [58] ++ Lib.itoa q.2.1 ++ (if q.2.1 < q.2.2 then [45] ++ Lib.itoa q.2.2 else [])
set_option maxRecDepth 100000 in
set_option maxHeartbeats 2000000 in
theorem runtext_any (q : RunQ) (w : World) (hq : RunOk q) (ht : Tab w) : Calls Tryz.prog 101 #[runV q] w fun e w' => e = .returned (.string (bs (textR q))) ∧ Kp Nb w w' := by
  obtain ⟨qn, qf, qt⟩ := q
  obtain ⟨N, hN⟩ : ∃ N, w.heap.size = N := ⟨_, rfl⟩
  obtain ⟨W, hW⟩ : ∃ W, W = w.alloc (.cells #[.int .i64 qn, .int .i64 qf, .int .i64 qt] 38) := ⟨_, rfl⟩
  have HB0 : Hid (Blk W N 38 [.int .i64 qn, .int .i64 qf, .int .i64 qt]) := hid (by rw [hW, ← hN]; exact Blk.new w _ _)
  have K0 : Hid (Kp Nb w W) := hid (by rw [hW]; exact (Kp.refl Nb w).alloc _)
  have HT := hid (ht.kept K0.out)
  obtain ⟨sn, hsn⟩ : ∃ t, bs (Lib.itoa qn) = t := ⟨_, rfl⟩
  obtain ⟨sf, hsf⟩ : ∃ t, bs (Lib.itoa qf) = t := ⟨_, rfl⟩
  obtain ⟨st', hst⟩ : ∃ t, bs (Lib.itoa qt) = t := ⟨_, rfl⟩
  obtain ⟨s1, hs1⟩ : ∃ t, bs (Lib.itoa qn ++ [58]) = t := ⟨_, rfl⟩
  obtain ⟨s2, hs2⟩ : ∃ t, bs (Lib.itoa qn ++ [58] ++ Lib.itoa qf) = t := ⟨_, rfl⟩
  obtain ⟨s3, hs3⟩ : ∃ t, bs ([45] ++ Lib.itoa qt) = t := ⟨_, rfl⟩
  obtain ⟨s4, hs4⟩ : ∃ t, bs (Lib.itoa qn ++ [58] ++ Lib.itoa qf ++ ([45] ++ Lib.itoa qt)) = t := ⟨_, rfl⟩
  have L1 := itoa_len qn hq.1
  have L2 := itoa_len qf hq.2.1
  have L3 := itoa_len qt hq.2.2
  have A1 : ∀ w : World, (Op.stringOp .add sn ⟨#[58]⟩).run Tryz.prog w = .ok (.string s1) w := fun w => by rw [← hsn, ← hs1]; exact add_bs w _ [58] (by omega) (by decide)
  have A2 : ∀ w : World, (Op.stringOp .add s1 sf).run Tryz.prog w = .ok (.string s2) w := fun w => by rw [← hs1, ← hsf, ← hs2]; exact add_bs w _ _ (by rw [List.length_append]; simp only [List.length_singleton]; omega) (by omega)
  have A3 : ∀ w : World, (Op.stringOp .add ⟨#[45]⟩ st').run Tryz.prog w = .ok (.string s3) w := fun w => by rw [← hst, ← hs3]; exact add_bs w [45] _ (by decide) (by omega)
  have A4 : ∀ w : World, (Op.stringOp .add s2 s3).run Tryz.prog w = .ok (.string s4) w := fun w => by rw [← hs2, ← hs3, ← hs4]; exact add_bs w _ _ (by simp only [List.length_append, List.length_singleton]; omega) (by simp only [List.length_append, List.length_singleton]; omega)
  have C1 : Hid (∀ wx, Tab wx → Calls Tryz.prog 114 #[.int .i64 qn] wx fun e w' => e = .returned (.string sn) ∧ Kp Nb wx w') := hid (fun wx h => by rw [← hsn]; exact itoa_any qn hq.1 wx h)
  have C2 : Hid (∀ wx, Tab wx → Calls Tryz.prog 114 #[.int .i64 qf] wx fun e w' => e = .returned (.string sf) ∧ Kp Nb wx w') := hid (fun wx h => by rw [← hsf]; exact itoa_any qf hq.2.1 wx h)
  have C3 : Hid (∀ wx, Tab wx → Calls Tryz.prog 114 #[.int .i64 qt] wx fun e w' => e = .returned (.string st') ∧ Kp Nb wx w') := hid (fun wx h => by rw [← hst]; exact itoa_any qt hq.2.2 wx h)
  have HR : Hid (bs (textR (qn, qf, qt)) = if qf < qt then s4 else s2) := hid (by
    unfold textR; dsimp only; rw [← hs4, ← hs2]
    split
    · rfl
    · rw [List.append_nil])
  obtain ⟨R, hR⟩ : ∃ R, bs (textR (qn, qf, qt)) = R := ⟨_, rfl⟩
  rw [hR] at HR ⊢
  clear ht hq hsn hsf hst hs1 hs2 hs3 hs4 hR L1 L2 L3
  go_enter Tryz.func101, Tryz.ntmps101
  go_upto_region 1 with fail
  rw [← hW]
  clear hW hN
  have c0 : W.cell? ⟨N, 0, none⟩ = some (.int .i64 qn) := HB0.out.cell 0
  have c1 : W.cell? ⟨N, 1, none⟩ = some (.int .i64 qf) := HB0.out.cell 1
  have kh := hid (Kp.refl Nb W)
  go_region_held3 (fun w' => Hid (Kp Nb W w') ∧ w'.cell? ⟨N, 0, none⟩ = some (.int .i64 qn) ∧ w'.cell? ⟨N, 1, none⟩ = some (.int .i64 qf))
    (first | exact ⟨hid (kh.out.drew), (HB0.out.kept (kh.out.drew) (fun h => h)).cell 0, (HB0.out.kept (kh.out.drew) (fun h => h)).cell 1⟩ | exact ⟨hid kh.out, (HB0.out.kept kh.out (fun h => h)).cell 0, (HB0.out.kept kh.out (fun h => h)).cell 1⟩)
    (first
      | (go_at_call 114; refine (C1.out _ (HT.out.kept (by first | exact Kp.drew kh.out | exact kh.out))).mono ?_; rintro e wy ⟨rfl, kk'⟩; have kh := hid (Kp.trans (by first | exact Kp.drew kh.out | exact kh.out) kk' (fun _ _ h => h)); clear kk')
      | (go_at_call 114; refine (C2.out _ (HT.out.kept (by first | exact Kp.drew kh.out | exact kh.out))).mono ?_; rintro e wy ⟨rfl, kk'⟩; have kh := hid (Kp.trans (by first | exact Kp.drew kh.out | exact kh.out) kk' (fun _ _ h => h)); clear kk'))
  have HB1 := hid (HB0.out.kept kh.out (fun h => h))
  have d1 : wy.cell? ⟨N, 1, none⟩ = some (.int .i64 qf) := HB1.out.cell 1
  have d2 : wy.cell? ⟨N, 2, none⟩ = some (.int .i64 qt) := HB1.out.cell 2
  clear c0 c1
  by_cases hlt : qf < qt
  · have hR := HR.out
    rw [if_pos hlt] at hR
    have HR2 := hid hR
    have hg : qt > qf := hlt
    clear hR
    go_wp2_with fail
    refine (C3.out _ (HT.out.kept kh.out)).mono ?_
    rintro r w5 ⟨rfl, k5⟩
    have K5 := hid (K0.out.trans (kh.out.trans k5 (fun _ _ h => h)) (fun _ _ h => h))
    clear k5
    go_wp2
    go_ret
    exact ⟨by rw [HR2.out]; rfl, K5.out⟩
  · have hR := HR.out
    rw [if_neg hlt] at hR
    have HR2 := hid hR
    have hg : ¬ qt > qf := hlt
    clear hR
    go_wp2
    go_ret
    exact ⟨by rw [HR2.out]; rfl, K0.out.trans kh.out (fun _ _ h => h)⟩
end
section
open Go.RowKit
theorem str_zc : ∃ i z, Tryz.prog.info? 9 = some i ∧ i.zero = some z ∧ i.size = 1 ∧ i.bytes = 16 ∧ z.cells = #[.string ⟨#[]⟩] := by
  have h : ((Tryz.prog.info? 9).map fun i => (i.zero.map fun z => z.cells, i.size, i.bytes)) = some (some #[.string ⟨#[]⟩], 1, 16) := by kernel_rfl
  obtain ⟨i, hi, h2⟩ := Option.map_eq_some_iff.1 h
  simp only [Prod.mk.injEq] at h2
  obtain ⟨z, hz, hz2⟩ := Option.map_eq_some_iff.1 h2.1
  exact ⟨i, z, hi, hz, h2.2.1, h2.2.2, hz2⟩
theorem made_strs (n : Nat) : (madeCells #[Value.string ⟨#[]⟩] (n * 1)).toList = List.replicate n (Value.string ⟨#[]⟩) := by
  apply List.ext_getElem?
  intro j
  rcases Nat.lt_or_ge j n with h | h
  · rw [List.getElem?_replicate, if_pos h, Array.getElem?_toList]
    unfold madeCells
    rw [Array.getElem?_map, Array.getElem?_range, if_pos (by omega), Option.map_some]
    simp [Nat.mod_one]
  · rw [List.getElem?_eq_none (by rw [Array.length_toList, size_madeCells]; omega), List.getElem?_eq_none (by rw [List.length_replicate]; exact h)]
theorem make_strs (w : World) (n : Nat) (hn : n ≤ 100000) : (Instr.makeSlice 103 (.int .i64 (n : Int)) (.int .i64 (n : Int))).run Tryz.prog w = .ok (.slice (some ⟨w.heap.size, 0, none⟩) n n) (w.alloc (.cells (List.replicate n (Value.string ⟨#[]⟩)).toArray 9 (0, 0))) := by
  obtain ⟨i, z, h1, h2, h3, h4, h5⟩ := str_zc
  have h := run_make (P := Tryz.prog) w _ _ i z Tryz.underlying103 h1 h2 .i64 .i64 n n (by omega) (Int.le_refl _) (by rw [h4]; omega) (by omega)
  rw [Int.toNat_natCast, h3, h5, ← Array.toArray_toList (xs := madeCells _ _), made_strs] at h
  exact h
theorem exec_mksliceD {P : Program} {ev : Operand → Value} {o : Oper} {T : TypeId} {x y : Operand} {v v2 r : Value} {w w' : World} (ho : o.op = .makeSlice T x y) (hx : ev x = v) (hy : ev y = v2) (hl : (Instr.makeSlice T v v2).run P w = .ok r w') : (execOp ev o).run P w = .ok (.value r) w' := by
  unfold execOp
  simp only [ho, hx, hy, Sem.run_bind, Sem.run_pure, Result.andThen_ok, hl]
def txV (q : RunQ) : Value := .string (bs (textR q))
def stL (c : List RunQ) (k : Nat) : List Value := (c.take k).map txV ++ List.replicate (c.length - k) (.string ⟨#[]⟩)
theorem set_midL {α : Type} (A B : List α) (x v : α) : (A ++ x :: B).set A.length v = A ++ v :: B := by
  induction A with
  | nil => rfl
  | cons a A ih => simp [ih]
theorem stL_mid (c : List RunQ) (k : Nat) (hk : k < c.length) : stL c k = (c.take k).map txV ++ Value.string ⟨#[]⟩ :: List.replicate (c.length - (k + 1)) (.string ⟨#[]⟩) := by
  unfold stL
  rw [show c.length - k = (c.length - (k + 1)) + 1 by omega, List.replicate_succ]
theorem stL_len (c : List RunQ) (k : Nat) (hk : k < c.length) : ((c.take k).map txV).length = k := by
  rw [List.length_map, List.length_take]; omega
theorem stL_get (c : List RunQ) (k : Nat) (hk : k < c.length) : (stL c k)[k]? = some (.string ⟨#[]⟩) := by
  rw [stL_mid c k hk, List.getElem?_append_right (by rw [stL_len c k hk]; exact Nat.le_refl _), stL_len c k hk, Nat.sub_self]
  rfl
theorem stL_set (c : List RunQ) (k : Nat) (hk : k < c.length) : (stL c k).set k (txV (runAt c k)) = stL c (k + 1) := by
  have h := set_midL ((c.take k).map txV) (List.replicate (c.length - (k + 1)) (Value.string ⟨#[]⟩)) (.string ⟨#[]⟩) (txV (runAt c k))
  rw [stL_len c k hk] at h
  rw [stL_mid c k hk, h]
  unfold stL
  rw [take_snocR c k hk, List.map_append, List.append_assoc]
  rfl
theorem textR_len (q : RunQ) (h : RunOk q) : (textR q).length ≤ 77 := by
  have h1 := itoa_len q.1 h.1
  have h2 := itoa_len q.2.1 h.2.1
  have h3 := itoa_len q.2.2 h.2.2
  unfold textR
  simp only [List.length_append, List.length_singleton]
  split
  · simp only [List.length_append, List.length_singleton]; omega
  · simp only [List.length_nil]; omega
theorem tail_len (sep : List UInt8) : ∀ (xs : List (List UInt8)), (∀ x ∈ xs, x.length ≤ 77) → (Lib.joinTail sep xs).length ≤ xs.length * (sep.length + 77)
  | [], _ => by simp [Lib.joinTail]
  | x :: xs, h => by
    have ih := tail_len sep xs (fun y hy => h y (by simp [hy]))
    have h1 := h x (by simp)
    unfold Lib.joinTail at ih ⊢
    rw [List.map_cons, List.flatten_cons, List.length_append, List.length_append, List.length_cons, Nat.succ_mul]
    omega
theorem join_len (sep : List UInt8) (xs : List (List UInt8)) (h : ∀ x ∈ xs, x.length ≤ 77) : (Lib.join xs sep).length ≤ xs.length * (sep.length + 77) := by
  cases xs with
  | nil => simp [Lib.join_nil]
  | cons x xs =>
    have h1 := h x (by simp)
    have h2 := tail_len sep xs (fun y hy => h y (by simp [hy]))
    rw [Lib.join_cons, List.length_append, List.length_cons, Nat.succ_mul]
    omega
/-- A clock's text. -/
def textC (c : List RunQ) : List UInt8 := if rightC c then (if c.length = 0 then [45] else Lib.join (c.map textR) [32]) else []
theorem kp_below {w w' : World} (h : Below w.heap.size w w') : Kp Nb w w' := ⟨h.os, h.tape, h.output, h.size, fun k hk _ => h.block k hk⟩
def TxR (W : World) (N : Nat) (c : List RunQ) (i : Value) (wr : World) : Prop := ∃ k : Nat, k ≤ c.length ∧ i = .int .i64 k ∧ Hid (Blk wr N 9 (stL c k)) ∧ Hid (Kp (Jb N) W wr)
set_option maxRecDepth 100000 in
set_option maxHeartbeats 4000000 in
theorem dtext_any (v : Value) (c : List RunQ) (w : World) (hs : ClSl w v c) (hbig : c.length ≤ 100000) (ht : Tab w) : Calls Tryz.prog 78 #[v] w fun e w' => e = .returned (.string (bs (textC c))) ∧ Kp Nb w w' := by
  have CR := hid (dright_any v c w hs (by omega))
  have HSA := hid hs
  have HTB := hid ht
  obtain ⟨y, dc, rfl⟩ := hs.shape
  obtain ⟨L, hL⟩ : ∃ L, c.length = L := ⟨_, rfl⟩
  have HLE := hid hL
  rw [hL] at CR HSA hbig ⊢
  have HBG := hid hbig
  obtain ⟨b, hb⟩ : ∃ b, rightC c = b := ⟨_, rfl⟩
  have HRC := hid hb
  rw [hb] at CR
  obtain ⟨R, hR⟩ : ∃ R, bs (textC c) = R := ⟨_, rfl⟩
  have HR0 := hid hR
  rw [hR]
  clear hs ht hL hb hR hbig
  cases b with
  | false =>
    have HE : Hid (R = ⟨#[]⟩) := hid (by rw [← HR0.out]; unfold textC; rw [HRC.out]; rfl)
    go_enter Tryz.func78, Tryz.ntmps78
    go_wp2_with (go_at_call 45; refine CR.out.mono ?_; rintro r w1 ⟨rfl, k1⟩; have K1 := hid k1; clear k1)
    go_ret
    exact ⟨by rw [HE.out]; rfl, K1.out⟩
  | true =>
    by_cases h0 : L = 0
    · subst h0
      have HE : Hid (R = bs [45]) := hid (by rw [← HR0.out]; unfold textC; rw [HRC.out, HLE.out]; rfl)
      go_enter Tryz.func78, Tryz.ntmps78
      go_wp2_with (go_at_call 45; refine CR.out.mono ?_; rintro r w1 ⟨rfl, k1⟩; have K1 := hid k1; clear k1)
      go_ret
      exact ⟨by rw [HE.out]; rfl, K1.out⟩
    · have HE : Hid (R = bs (Lib.join (c.map textR) [32])) := hid (by rw [← HR0.out]; unfold textC; rw [HRC.out, HLE.out, if_neg h0]; rfl)
      have HOKS : Hid (∀ q ∈ c, RunOk q) := hid (HSA.out.ok)
      have hq : ¬ (L : Int) = 0 := by omega
      have HL0 := hid h0
      clear h0 HR0
      go_enter Tryz.func78, Tryz.ntmps78
      go_upto_region 5 with (go_at_call 45; refine CR.out.mono ?_; rintro r w1 ⟨rfl, k1⟩; have K1 := hid k1; clear k1)
      obtain ⟨N, hN⟩ : ∃ N, w1.heap.size = N := ⟨_, rfl⟩
      have MK := make_strs w1 L HBG.out
      rw [hN] at MK
      obtain ⟨W, hW⟩ : ∃ W, w1.alloc (.cells (List.replicate L (Value.string ⟨#[]⟩)).toArray 9 (0, 0)) = W := ⟨_, rfl⟩
      rw [hW] at MK
      have HC : Hid (Blk W N 9 (stL c 0)) := hid (by
        have h := Blk.new w1 9 (List.replicate L (Value.string ⟨#[]⟩))
        rw [← hW, ← hN]
        have e : stL c 0 = List.replicate L (Value.string ⟨#[]⟩) := by unfold stL; rw [HLE.out]; rfl
        rw [e]
        exact h)
      have KW1 : Hid (Kp Nb w W) := hid (by rw [← hW]; exact K1.out.alloc _)
      have LN : Hid (w.heap.size ≤ N) := hid (by rw [← hN]; exact K1.out.size)
      have S0 : Hid (Kp (Jb N) W W) := hid (Kp.refl _ _)
      clear hN hW hq
      go_wp2_with (refine wpList_val (by rfl) _ _ (exec_mksliceD rfl rfl rfl MK) ?_)
      go_loopw [17] (TxR W N c) (fun i _ => L - (intOf i).toNat)
      case atStart => exact ⟨0, Nat.zero_le _, rfl, HC, S0⟩
      case round =>
        clear HC S0 MK
        obtain ⟨k, hk, rfl, HO, KO⟩ := hrel
        rw [HLE.out] at hk
        have HKW : Hid (Kp Nb w wr) := hid (KW1.out.trans KO.out (fun i hi h => by have h' : i = N := h; have := LN.out; omega))
        by_cases hlt : k < L
        · have HLT := hid hlt
          obtain ⟨blk, off, cap, e1, hc, hm, hcell⟩ := cl_shape (HSA.out.kept HKW.out) (by intro h; have := HLE.out; rw [h, List.length_nil] at this; omega)
          rw [HLE.out] at e1 hc hcell
          injection e1 with e1 _ e2
          subst e1 e2
          have HR := hid (hcell k hlt)
          obtain ⟨⟨qn, qf, qt⟩, hq⟩ : ∃ q, runAt c k = q := ⟨_, rfl⟩
          have HOK := HSA.out.1 k
          rw [hq] at HR HOK
          have HQ := hid hq
          obtain ⟨M, hM⟩ : ∃ M, wr.heap.size = M := ⟨_, rfl⟩
          obtain ⟨W2, hW2⟩ : ∃ W, W = (wr.alloc (.cells (runL (0, 0, 0)).toArray 38)).setCells M 0 (runL (qn, qf, qt)) := ⟨_, rfl⟩
          have hz := Blk.new wr 38 (runL (0, 0, 0))
          rw [hM] at hz
          have KW : Hid (Kp Nb wr W2) := hid (by rw [hW2]; exact Kp.setCells (fun h => absurd h (by omega)) _ 0 _ ((Kp.refl Nb wr).alloc _))
          have HMW : Hid (wr.heap.size = M) := hid hM
          have TH := hid (run_there (q := (qn, qf, qt)) hz)
          have HZ : Hid (Blk W2 M 38 (runL (qn, qf, qt))) := hid (by rw [hW2]; exact row_set hz rfl)
          have HK2 := hid (HKW.out.trans KW.out (fun _ _ h => h))
          unfold maxLen at hm
          obtain ⟨fs, hfs⟩ := under_run
          clear hz hcell hq
          go_upto_region 9 with (first
            | (refine wpList_load_mid (by rfl) 38 (.tmp 20) (by rfl) blk (off + k * 3) (by rfl) (runL (qn, qf, qt)) _ HR.out hfs rfl (run_infoL (qn, qf, qt)) ?_)
            | (refine wpList_store_mid (by rfl) 38 (.tmp 5) (.tmp 21) (by rfl) M 0 (runL (qn, qf, qt)).toArray (by rfl) (by rfl) TH.out (run_infoA (qn, qf, qt)) (run_one (qn, qf, qt)) ?_))
          rw [show (wr.alloc (.cells #[.int .i64 0, .int .i64 0, .int .i64 0] 38)).setCells M 0 (runL (qn, qf, qt)) = W2 from hW2.symm]
          clear hW2 TH hM
          have c0 : W2.cell? ⟨M, 0, none⟩ = some (.int .i64 qn) := HZ.out.cell 0
          have c1 : W2.cell? ⟨M, 1, none⟩ = some (.int .i64 qf) := HZ.out.cell 1
          have c2 : W2.cell? ⟨M, 2, none⟩ = some (.int .i64 qt) := HZ.out.cell 2
          have HT2 := hid (HTB.out.kept HK2.out)
          have O2 := hid (HO.out.kept KW.out (fun h => h))
          have KO2 : Hid (Kp (Jb N) W W2) := hid (KO.out.trans KW.out (fun _ _ h => h.elim))
          have RZ := hid (range_ofR HZ.out)
          clear c0 c1 c2 HO KO
          go_wp2_with (refine wpList_load_mid (by rfl) 38 (.tmp 5) (by rfl) M 0 (by rfl) (runL (qn, qf, qt)) _ RZ.out hfs rfl (run_infoL (qn, qf, qt)) ?_)
          refine (runtext_any (qn, qf, qt) W2 HOK HT2.out).mono ?_
          rintro r w6 ⟨rfl, k6⟩
          have O6 := hid (O2.out.kept k6 (fun h => h))
          have KO6 : Hid (Kp (Jb N) W w6) := hid (KO2.out.trans k6 (fun _ _ h => h.elim))
          clear k6
          have fz := O6.out.frozen k
          have ck : w6.cell? ⟨N, k, none⟩ = some (.string ⟨#[]⟩) := by rw [O6.out.cell k]; exact stL_get c k (by rw [HLE.out]; exact hlt)
          obtain ⟨tv, htv⟩ : ∃ s, bs (textR (qn, qf, qt)) = s := ⟨_, rfl⟩
          have HO7 : Hid (Blk (w6.setCell ⟨N, k, none⟩ (.string tv)) N 9 (stL c (k + 1))) := hid (by
            have := O6.out.set k (.string tv)
            rw [← stL_set c k (by rw [HLE.out]; exact hlt), HQ.out]
            unfold txV
            rw [htv]
            exact this)
          have KO7 : Hid (Kp (Jb N) W (w6.setCell ⟨N, k, none⟩ (.string tv))) := hid (KO6.out.set k _)
          rw [htv]
          clear htv
          go_wp2
          go_roundw
          case rel => exact ⟨k + 1, by rw [HLE.out]; exact HLT.out, by go_num, HO7, KO7⟩
          case measure => have := HLT.out; simp [intOf]; omega
        · obtain rfl : k = L := by omega
          have HJ : Hid (Calls Tryz.prog 102 #[.slice (some ⟨N, 0, none⟩) k k, .string ⟨#[32]⟩] wr fun e w' => e = .returned (.string R) ∧ Kp Nb wr w') := hid (by
            have hl : (c.map fun q => bs (textR q)).length = k := by rw [List.length_map, HLE.out]
            have e1 : (c.map fun q => bs (textR q)).map (·.data.toList) = c.map textR := by rw [List.map_map]; rfl
            have h := Tryz.strings_Join N 0 k (c.map fun q => bs (textR q)) ⟨#[32]⟩ wr (fun j x hx => by
              rw [Nat.zero_add, HO.out.cell j]
              have e : stL c k = c.map txV := by unfold stL; rw [HLE.out, Nat.sub_self, ← HLE.out, List.take_length, List.replicate_zero, List.append_nil]
              rw [e]
              rw [List.getElem?_map] at hx ⊢
              cases hc : c[j]? with
              | none => rw [hc] at hx; cases hx
              | some q => rw [hc] at hx; injection hx with hx; rw [← hx]; rfl)
              HO.out.lt (by rw [hl]; have := HBG.out; omega) (by rw [hl]; exact Nat.le_refl _) (by
                rw [e1]
                have := join_len [32] (c.map textR) (fun x hx => by
                  obtain ⟨q, hq, rfl⟩ := List.mem_map.1 hx
                  exact textR_len q (HOKS.out q hq))
                rw [List.length_map, HLE.out] at this
                have h2 := HBG.out
                simp only [List.length_singleton] at this
                show (Lib.join (c.map textR) [32]).length ≤ _
                omega)
            rw [hl, e1] at h
            refine h.mono ?_
            rintro e w' ⟨rfl, hb⟩
            exact ⟨by rw [HE.out], kp_below hb⟩)
          go_wp2_with fail
          refine HJ.out.mono ?_
          rintro r w8 ⟨rfl, k8⟩
          have K8 := hid (HKW.out.trans k8 (fun _ _ h => h))
          clear k8
          go_wp2
          go_ret
          exact ⟨rfl, K8.out⟩
end
section
open Go.RowKit
abbrev IsDig (b : UInt8) : Prop := 48 ≤ b.toNat ∧ b.toNat ≤ 57
theorem dig_of (u : Nat) (h : u < 10) : (UInt8.ofNat (48 + u)).toNat = 48 + u := by
  rw [UInt8.toNat_ofNat']
  omega
theorem dec_digs (u : Nat) : ∀ b ∈ Lib.decDigits u, IsDig b := by
  induction u using Nat.strongRecOn with
  | _ u ih =>
    intro b hb
    unfold Lib.decDigits at hb
    split at hb
    · rename_i h
      rw [List.mem_singleton.1 hb]
      unfold IsDig
      rw [dig_of u h]; omega
    · rename_i h
      rcases List.mem_append.1 hb with hb | hb
      · exact ih (u / 10) (by omega) b hb
      · rw [List.mem_singleton.1 hb]
        unfold IsDig
        rw [dig_of (u % 10) (Nat.mod_lt _ (by decide))]
        have := Nat.mod_lt u (show 0 < 10 by decide)
        omega
theorem dec_ne (u : Nat) : Lib.decDigits u ≠ [] := by
  unfold Lib.decDigits
  split <;> simp
theorem decFrom_app (a b : List UInt8) : ∀ acc, Lib.decFrom acc (a ++ b) = (Lib.decFrom acc a).bind fun n => Lib.decFrom n b := by
  induction a with
  | nil => intro acc; rfl
  | cons x a ih =>
    intro acc
    rw [List.cons_append]
    simp only [Lib.decFrom]
    cases Lib.digitVal x with
    | none => rfl
    | some d => exact ih _
theorem digitVal_of (u : Nat) (h : u < 10) : Lib.digitVal (UInt8.ofNat (48 + u)) = some u := by
  unfold Lib.digitVal
  rw [dig_of u h, if_pos (by omega)]
  congr 1
  omega
theorem decFrom_dec (u : Nat) : Lib.decFrom 0 (Lib.decDigits u) = some u := by
  induction u using Nat.strongRecOn with
  | _ u ih =>
    unfold Lib.decDigits
    split
    · rename_i h
      unfold Lib.decFrom
      rw [digitVal_of u h]
      dsimp only
      unfold Lib.decFrom
      rw [Nat.zero_mul, Nat.zero_add]
    · rename_i h
      rw [decFrom_app, ih (u / 10) (by omega), Option.bind_some]
      unfold Lib.decFrom
      rw [digitVal_of (u % 10) (Nat.mod_lt _ (by decide))]
      dsimp only
      unfold Lib.decFrom
      congr 1
      omega
theorem itoa_pos (n : Int) (h : 0 ≤ n) : Lib.itoa n = Lib.decDigits n.toNat := by unfold Lib.itoa; rw [if_neg (by omega)]
theorem atoi_itoa (n : Int) (h : 0 ≤ n) : Lib.atoi (Lib.itoa n) = some n := by
  rw [itoa_pos n h]
  have h1 := decFrom_dec n.toNat
  have h2 := dec_digs n.toNat
  have h3 := dec_ne n.toNat
  revert h1 h2 h3
  cases hd : Lib.decDigits n.toNat with
  | nil => intro _ _ h; exact (h rfl).elim
  | cons b r =>
    intro h1 h2 _
    have hb := h2 b (by simp)
    have e1 : (b == 45) = false := by
      rw [beq_eq_false_iff_ne]; intro e; rw [e] at hb; revert hb; decide
    have e2 : (b == 43) = false := by
      rw [beq_eq_false_iff_ne]; intro e; rw [e] at hb; revert hb; decide
    have e3 : Lib.decNat (b :: r) = some n.toNat := by unfold Lib.decNat; exact h1
    simp only [Lib.atoi, e1, e2, e3, Bool.false_eq_true, if_false, Option.map_some]
    congr 1
    omega
theorem itoa_digs (n : Int) (h : 0 ≤ n) : ∀ b ∈ Lib.itoa n, IsDig b := by rw [itoa_pos n h]; exact dec_digs _
theorem itoa_short (n : Int) (h : 0 ≤ n) (h1 : n ≤ 1099511627776) : (Lib.itoa n).length ≤ 13 := by
  rw [itoa_pos n h]
  exact dec_len 12 n.toNat (by simp; omega)
theorem itoa_ne (n : Int) (h : 0 ≤ n) : Lib.itoa n ≠ [] := by rw [itoa_pos n h]; exact dec_ne _
theorem not_dig {c : UInt8} (h : ¬ IsDig c) {l : List UInt8} (hl : ∀ b ∈ l, IsDig b) : c ∉ l := fun hm => h (hl c hm)
theorem indexByte_hit (c : UInt8) (b : List UInt8) : ∀ a : List UInt8, c ∉ a → Lib.indexByte (a ++ c :: b) c = (a.length : Int)
  | [], _ => by unfold Lib.indexByte; simp
  | x :: a, h => by
    have ih := indexByte_hit c b a (fun hm => h (by simp [hm]))
    have hx : (x == c) = false := by rw [beq_eq_false_iff_ne]; intro e; exact h (by simp [e])
    rw [List.cons_append]
    unfold Lib.indexByte
    rw [hx, ih]
    have h2 : ((a.length : Int) == -1) = false := by rw [beq_eq_false_iff_ne]; omega
    rw [h2, List.length_cons]
    simp
theorem indexByte_miss (c : UInt8) : ∀ a : List UInt8, c ∉ a → Lib.indexByte a c = -1
  | [], _ => rfl
  | x :: a, h => by
    have ih := indexByte_miss c a (fun hm => h (by simp [hm]))
    have hx : (x == c) = false := by rw [beq_eq_false_iff_ne]; intro e; exact h (by simp [e])
    unfold Lib.indexByte
    rw [hx, ih]
    rfl
theorem cut_hit (a b : List UInt8) (c : UInt8) (h : c ∉ a) : Lib.cut (a ++ [c] ++ b) [c] = (a, b, true) := by
  have e : Lib.index (a ++ [c] ++ b) [c] = (a.length : Int) := by
    rw [Lib.index_one, List.append_assoc]
    exact indexByte_hit c b a h
  unfold Lib.cut
  rw [e, if_pos (by omega), Int.toNat_natCast]
  have e1 : (a ++ [c] ++ b).take a.length = a := by rw [List.append_assoc, List.take_left']; rfl
  have e2 : (a ++ [c] ++ b).drop (a.length + [c].length) = b := by rw [List.drop_left']; rw [List.length_append]
  rw [e1, e2]
theorem cut_miss (a : List UInt8) (c : UInt8) (h : c ∉ a) : Lib.cut a [c] = (a, [], false) := by
  have e : Lib.index a [c] = -1 := by rw [Lib.index_one]; exact indexByte_miss c a h
  unfold Lib.cut
  rw [e, if_neg (by decide)]
/-- A good run's text, cut. -/
def restR (q : RunQ) : List UInt8 := Lib.itoa q.2.1 ++ (if q.2.1 < q.2.2 then [45] ++ Lib.itoa q.2.2 else [])
theorem textR_cut {q : RunQ} (h : goodR q = true) : Lib.cut (textR q) [58] = (Lib.itoa q.1, restR q, true) := by
  have g := goodR_of.1 h
  have e : textR q = Lib.itoa q.1 ++ [58] ++ restR q := by unfold textR restR; simp only [List.append_assoc]
  rw [e]
  exact cut_hit _ _ _ (not_dig (by unfold IsDig; decide) (itoa_digs q.1 (by omega)))
theorem restR_cut {q : RunQ} (h : goodR q = true) : Lib.cut (restR q) [45] = if q.2.1 < q.2.2 then (Lib.itoa q.2.1, Lib.itoa q.2.2, true) else (Lib.itoa q.2.1, [], false) := by
  have g := goodR_of.1 h
  have hn : (45 : UInt8) ∉ Lib.itoa q.2.1 := not_dig (by unfold IsDig; decide) (itoa_digs q.2.1 (by omega))
  unfold restR
  by_cases h1 : q.2.1 < q.2.2
  · rw [if_pos h1, if_pos h1, ← List.append_assoc]
    exact cut_hit _ _ _ hn
  · rw [if_neg h1, if_neg h1, List.append_nil]
    exact cut_miss _ _ hn
end
section
open Go.RowKit
/-- The library's word MaxLen lies in memory. -/
def Mx (w : World) : Prop := ∃ m, w.cell? ⟨0, 0, none⟩ = some (.int .i64 m)
theorem Mx.keptS {S : Nat → Prop} {w w' : World} (h : Mx w) (k : Kp S w w') (hS : ¬ S 0) : Mx w' := by
  obtain ⟨m, hm⟩ := h
  exact ⟨m, k.cell hm hS⟩
theorem Mx.kept {w w' : World} (h : Mx w) (k : Kp Nb w w') : Mx w' := h.keptS k (fun h => h)
theorem cut_any (s sep a b : List UInt8) (t : Bool) (w : World) (hm : Mx w) (hs : s.length < 4294967281) (h : Lib.cut s sep = (a, b, t)) :
    Calls Tryz.prog 73 #[.string (bs s), .string (bs sep)] w fun e w' => e = .returned (.tuple #[.string (bs a), .string (bs b), .bool t]) ∧ Kp Nb w w' := by
  obtain ⟨m, hm⟩ := hm
  refine Calls.mono (Tryz.strings_Cut (bs s) (bs sep) m w (by show s.toArray.size < _; rw [List.size_toArray]; exact hs) hm) ?_
  rintro e w' ⟨rfl, n, rfl⟩
  have e1 : (bs s).data.toList = s := rfl
  have e2 : (bs sep).data.toList = sep := rfl
  rw [e1, e2, h]
  exact ⟨rfl, (Kp.refl Nb w).drewN n⟩
theorem atoi_any (s : List UInt8) (n : Int) (w : World) (hl : s.length ≤ 18) (h : Lib.atoi s = some n) :
    Calls Tryz.prog 128 #[.string (bs s)] w fun e w' => e = .returned (.tuple #[.int .i64 n, .nilIface]) ∧ Kp Nb w w' := by
  refine Calls.mono (Tryz.strconv_Atoi (bs s) n (by show s.toArray.size ≤ _; rw [List.size_toArray]; exact hl) h w) ?_
  rintro e w' ⟨rfl, t, rfl⟩
  exact ⟨rfl, kp_below (Go.Joins.below_bytesWorld _ w _ t (Nat.le_refl _))⟩
theorem idx3_0 (a b c : ByteArray) (w : World) : (Instr.index 158 (.agg #[.string a, .string b, .string c]) (.int .i64 0)).run Tryz.prog w = .ok (.string a) w := by kernel_rfl
theorem idx3_1 (a b c : ByteArray) (w : World) : (Instr.index 158 (.agg #[.string a, .string b, .string c]) (.int .i64 1)).run Tryz.prog w = .ok (.string b) w := by kernel_rfl
theorem idx3_2 (a b c : ByteArray) (w : World) : (Instr.index 158 (.agg #[.string a, .string b, .string c]) (.int .i64 2)).run Tryz.prog w = .ok (.string c) w := by kernel_rfl
/-- The two results of a function: a variable's cells and a slot. -/
theorem results_ctD {P : Program} {w : World} {fn : Func} {s t : Tmp} {T : TypeId} (h : fn.results = #[.cell s T, .tmp t]) (tmps : Array Value) (B : Nat) (ht : tmps.getD s undef = .pointer (some ⟨B, 0, none⟩)) (v u : Value) (hu : tmps.getD t undef = u) (hl : (loadVar T ⟨B, 0, none⟩).run P w = .ok v w) :
    (results fn tmps).run P w = .ok (.tuple #[v, u]) w := by
  simp only [Array.getD_eq_getD_getElem?] at ht hu
  simp [results, h, ht, hl, hu, asAddr]
def pvL (q : RunQ) : Nat → List Value
  | 0 => [.int .i64 0, .int .i64 0, .int .i64 0]
  | 1 => [.int .i64 q.1, .int .i64 0, .int .i64 0]
  | 2 => [.int .i64 q.1, .int .i64 q.2.1, .int .i64 0]
  | _ => [.int .i64 q.1, .int .i64 q.2.1, .int .i64 q.2.2]
def PrR (w : World) (N M : Nat) (q : RunQ) (i : Value) (wr : World) : Prop := ∃ k : Nat, k ≤ 3 ∧ i = .int .i64 k ∧ Hid (Blk wr M 157 (pvL q k)) ∧ Hid (Blk wr N 38 (runL (0, 0, 0))) ∧ Hid (Kp Nb w wr)
set_option maxRecDepth 100000 in
set_option maxHeartbeats 4000000 in
theorem parserun_any (q : RunQ) (w : World) (hq : goodR q = true) (hm : Mx w) : Calls Tryz.prog 113 #[.string (bs (textR q))] w fun e w' => e = .returned (.tuple #[runV q, .bool true]) ∧ Kp Nb w w' := by
  have g := goodR_of.1 hq
  have HMX := hid hm
  have ok : RunOk q := by unfold RunOk I64; omega
  obtain ⟨S, hS⟩ : ∃ S, bs (textR q) = S := ⟨_, rfl⟩
  obtain ⟨sr, hsr⟩ : ∃ s, bs (restR q) = s := ⟨_, rfl⟩
  obtain ⟨sn, hsn⟩ : ∃ s, bs (Lib.itoa q.1) = s := ⟨_, rfl⟩
  obtain ⟨sf, hsf⟩ : ∃ s, bs (Lib.itoa q.2.1) = s := ⟨_, rfl⟩
  obtain ⟨st', hst⟩ : ∃ s, bs (Lib.itoa q.2.2) = s := ⟨_, rfl⟩
  have htl := textR_len q ok
  have C1 : Hid (∀ wx, Mx wx → Calls Tryz.prog 73 #[.string S, .string ⟨#[58]⟩] wx fun e w' => e = .returned (.tuple #[.string sn, .string sr, .bool true]) ∧ Kp Nb wx w') := hid (fun wx h => by
    rw [← hS, ← hsn, ← hsr]; exact cut_any _ [58] _ _ _ wx h (by omega) (textR_cut hq))
  have hrl : (restR q).length ≤ 77 := by
    have : (textR q).length = (Lib.itoa q.1 ++ [58] ++ restR q).length := by unfold textR restR; simp only [List.append_assoc]
    rw [List.length_append] at this
    omega
  have C2 : Hid (∀ wx, Mx wx → Calls Tryz.prog 73 #[.string sr, .string ⟨#[45]⟩] wx fun e w' => e = .returned (if q.2.1 < q.2.2 then .tuple #[.string sf, .string st', .bool true] else .tuple #[.string sf, .string ⟨#[]⟩, .bool false]) ∧ Kp Nb wx w') := hid (fun wx h => by
    rw [← hsr, ← hsf, ← hst]
    have hc := restR_cut hq
    by_cases h1 : q.2.1 < q.2.2
    · rw [if_pos h1] at hc ⊢; exact cut_any _ [45] _ _ _ wx h (by omega) hc
    · rw [if_neg h1] at hc ⊢; exact cut_any _ [45] _ _ _ wx h (by omega) hc)
  have A1 : Hid (∀ wx, Calls Tryz.prog 128 #[.string sn] wx fun e w' => e = .returned (.tuple #[.int .i64 q.1, .nilIface]) ∧ Kp Nb wx w') := hid (fun wx => by rw [← hsn]; exact atoi_any _ _ wx (by have := itoa_short q.1 (by omega) (by omega); omega) (atoi_itoa _ (by omega)))
  have A2 : Hid (∀ wx, Calls Tryz.prog 128 #[.string sf] wx fun e w' => e = .returned (.tuple #[.int .i64 q.2.1, .nilIface]) ∧ Kp Nb wx w') := hid (fun wx => by rw [← hsf]; exact atoi_any _ _ wx (by have := itoa_short q.2.1 (by omega) (by omega); omega) (atoi_itoa _ (by omega)))
  have A3 : Hid (∀ wx, Calls Tryz.prog 128 #[.string st'] wx fun e w' => e = .returned (.tuple #[.int .i64 q.2.2, .nilIface]) ∧ Kp Nb wx w') := hid (fun wx => by rw [← hst]; exact atoi_any _ _ wx (by have := itoa_short q.2.2 (by omega) (by omega); omega) (atoi_itoa _ (by omega)))
  have HEQ : Hid (¬ q.2.1 < q.2.2 → q.2.2 = q.2.1 ∧ sf = st') := hid (fun h => by
    have e : q.2.2 = q.2.1 := by omega
    refine ⟨e, ?_⟩
    rw [← hsf, ← hst, e])
  rw [hS]
  clear hm g ok hS hsr hsn hsf hst htl hrl hq
  obtain ⟨qn, qf, qt⟩ := q
  dsimp only at C2 A1 A2 A3 HEQ
  obtain ⟨N, hN⟩ : ∃ N, w.heap.size = N := ⟨_, rfl⟩
  obtain ⟨W, hW⟩ : ∃ W, W = w.alloc (.cells #[.int .i64 0, .int .i64 0, .int .i64 0] 38) := ⟨_, rfl⟩
  have HB0 : Hid (Blk W N 38 (runL (0, 0, 0))) := hid (by rw [hW, ← hN]; exact Blk.new w _ _)
  have K0 : Hid (Kp Nb w W) := hid (by rw [hW]; exact (Kp.refl Nb w).alloc _)
  have HM0 := hid (HMX.out.kept K0.out)
  have HNW : Hid (w.heap.size = N) := hid hN
  go_enter Tryz.func113, Tryz.ntmps113
  go_upto_region 1 with fail
  rw [← hW]
  clear hW hN
  go_wp2_with fail
  refine (C1.out W HM0.out).mono ?_
  rintro r w1 ⟨rfl, k1⟩
  have B1 := hid (HB0.out.kept k1 (fun h => h))
  have K1 := hid (K0.out.trans k1 (fun _ _ h => h))
  have M1 := hid (HM0.out.kept k1)
  clear k1
  go_wp2_with fail
  refine (C2.out w1 M1.out).mono ?_
  rintro r w2 ⟨rfl, k2⟩
  have B2 := hid (B1.out.kept k2 (fun h => h))
  have K2 := hid (K1.out.trans k2 (fun _ _ h => h))
  clear k2
  obtain ⟨M, hM⟩ : ∃ M, w2.heap.size = M := ⟨_, rfl⟩
  obtain ⟨W3, hW3⟩ : ∃ W, W = w2.alloc (.cells #[.int .i64 0, .int .i64 0, .int .i64 0] 157) := ⟨_, rfl⟩
  have HZ3 : Hid (Blk W3 M 157 (pvL (qn, qf, qt) 0)) := hid (by rw [hW3, ← hM]; exact Blk.new w2 _ _)
  have HB3 : Hid (Blk W3 N 38 (runL (0, 0, 0))) := hid (by rw [hW3]; exact B2.out.alloc _)
  have K3 : Hid (Kp Nb w W3) := hid (by rw [hW3]; exact K2.out.alloc _)
  have HMN : Hid (N ≠ M ∧ w.heap.size ≤ N ∧ w.heap.size ≤ M) := hid (by have := B2.out.lt; have := K2.out.size; have := HNW.out; omega)
  by_cases hlt : qf < qt
  · rw [if_pos hlt]
    go_upto_region 6 with fail
    rw [← hW3]
    clear hW3 hM
    go_wp2
    go_loopw [34] (PrR w N M (qn, qf, qt)) (fun i _ => 3 - (intOf i).toNat)
    case atStart => exact ⟨0, by omega, rfl, HZ3, HB3, K3⟩
    case round =>
      obtain ⟨k, hk, rfl, HZ, HN, HK⟩ := hrel
      obtain rfl | rfl | rfl | rfl : k = 0 ∨ k = 1 ∨ k = 2 ∨ k = 3 := by omega
      · have ix := idx3_0 sn sf st'
        go_wp2_with fail
        refine (A1.out wr).mono ?_
        rintro r w5 ⟨rfl, k5⟩
        have HZ5 := hid (HZ.out.kept k5 (fun h => h))
        have HN5 := hid (HN.out.kept k5 (fun h => h))
        have HK5 := hid (HK.out.trans k5 (fun _ _ h => h))
        clear k5
        have fz := HZ5.out.frozen 0
        have ck : w5.cell? ⟨M, 0, none⟩ = some (.int .i64 0) := HZ5.out.cell 0
        have HZ6 : Hid (Blk (w5.setCell ⟨M, 0, none⟩ (.int .i64 qn)) M 157 (pvL (qn, qf, qt) (0 + 1))) := hid (HZ5.out.set 0 _)
        have HN6 : Hid (Blk (w5.setCell ⟨M, 0, none⟩ (.int .i64 qn)) N 38 (runL (0, 0, 0))) := hid (HN5.out.kept (S := Jb M) ((Kp.refl (Jb M) w5).set 0 _) (fun h => HMN.out.1 h))
        have HK6 : Hid (Kp Nb w (w5.setCell ⟨M, 0, none⟩ (.int .i64 qn))) := hid (HK5.out.setCell (p := ⟨M, 0, none⟩) (fun h => by have := HMN.out; dsimp only at h; omega) _)
        go_wp2
        go_roundw
        case rel => exact ⟨0 + 1, by omega, by go_num, HZ6, HN6, HK6⟩
        case measure => simp [intOf]
      · have ix := idx3_1 sn sf st'
        go_wp2_with fail
        refine (A2.out wr).mono ?_
        rintro r w5 ⟨rfl, k5⟩
        have HZ5 := hid (HZ.out.kept k5 (fun h => h))
        have HN5 := hid (HN.out.kept k5 (fun h => h))
        have HK5 := hid (HK.out.trans k5 (fun _ _ h => h))
        clear k5
        have fz := HZ5.out.frozen 1
        have ck : w5.cell? ⟨M, 1, none⟩ = some (.int .i64 0) := HZ5.out.cell 1
        have HZ6 : Hid (Blk (w5.setCell ⟨M, 1, none⟩ (.int .i64 qf)) M 157 (pvL (qn, qf, qt) (1 + 1))) := hid (HZ5.out.set 1 _)
        have HN6 : Hid (Blk (w5.setCell ⟨M, 1, none⟩ (.int .i64 qf)) N 38 (runL (0, 0, 0))) := hid (HN5.out.kept (S := Jb M) ((Kp.refl (Jb M) w5).set 1 _) (fun h => HMN.out.1 h))
        have HK6 : Hid (Kp Nb w (w5.setCell ⟨M, 1, none⟩ (.int .i64 qf))) := hid (HK5.out.setCell (p := ⟨M, 1, none⟩) (fun h => by have := HMN.out; dsimp only at h; omega) _)
        go_wp2
        go_roundw
        case rel => exact ⟨1 + 1, by omega, by go_num, HZ6, HN6, HK6⟩
        case measure => simp [intOf]
      · have ix := idx3_2 sn sf st'
        go_wp2_with fail
        refine (A3.out wr).mono ?_
        rintro r w5 ⟨rfl, k5⟩
        have HZ5 := hid (HZ.out.kept k5 (fun h => h))
        have HN5 := hid (HN.out.kept k5 (fun h => h))
        have HK5 := hid (HK.out.trans k5 (fun _ _ h => h))
        clear k5
        have fz := HZ5.out.frozen 2
        have ck : w5.cell? ⟨M, 2, none⟩ = some (.int .i64 0) := HZ5.out.cell 2
        have HZ6 : Hid (Blk (w5.setCell ⟨M, 2, none⟩ (.int .i64 qt)) M 157 (pvL (qn, qf, qt) (2 + 1))) := hid (HZ5.out.set 2 _)
        have HN6 : Hid (Blk (w5.setCell ⟨M, 2, none⟩ (.int .i64 qt)) N 38 (runL (0, 0, 0))) := hid (HN5.out.kept (S := Jb M) ((Kp.refl (Jb M) w5).set 2 _) (fun h => HMN.out.1 h))
        have HK6 : Hid (Kp Nb w (w5.setCell ⟨M, 2, none⟩ (.int .i64 qt))) := hid (HK5.out.setCell (p := ⟨M, 2, none⟩) (fun h => by have := HMN.out; dsimp only at h; omega) _)
        go_wp2
        go_roundw
        case rel => exact ⟨2 + 1, by omega, by go_num, HZ6, HN6, HK6⟩
        case measure => simp [intOf]
      · have c0 : wr.cell? ⟨M, 0, none⟩ = some (.int .i64 qn) := HZ.out.cell 0
        have c1 : wr.cell? ⟨M, 1, none⟩ = some (.int .i64 qf) := HZ.out.cell 1
        have c2 : wr.cell? ⟨M, 2, none⟩ = some (.int .i64 qt) := HZ.out.cell 2
        have TH := hid (run_there (q := (qn, qf, qt)) HN.out)
        have HW := hid (row_set (vs := runL (0, 0, 0)) (cs := runL (qn, qf, qt)) HN.out rfl)
        have HKW : Hid (Kp Nb w (wr.setCells N 0 (runL (qn, qf, qt)))) := hid (Kp.setCells (fun h => absurd h (by have := HMN.out; omega)) _ 0 _ HK.out)
        obtain ⟨fs, hfs⟩ := under_run
        go_wp2_with (first
          | (refine wpList_store_mid (by rfl) 38 (.tmp 2) (.tmp 56) (by rfl) N 0 (runL (qn, qf, qt)).toArray (by rfl) (by rfl) TH.out (run_infoA (qn, qf, qt)) (run_one (qn, qf, qt)) ?_))
        refine bodyPost_ret (results_ctD rfl _ N (by rfl) (runV (qn, qf, qt)) (.bool true) (by rfl) (row_loadVar Tryz.underlying38 rfl (run_infoL (qn, qf, qt)) HW.out 0 (fun j _ => by rw [Nat.zero_add]))) rfl ⟨rfl, HKW.out⟩
  · rw [if_neg hlt]
    obtain ⟨e1, e2⟩ := HEQ.out (by omega)
    have e1 : qf = qt := e1.symm
    subst e1 e2
    go_upto_region 6 with fail
    rw [← hW3]
    clear hW3 hM
    go_wp2
    go_loopw [34] (PrR w N M (qn, qf, qf)) (fun i _ => 3 - (intOf i).toNat)
    case atStart => exact ⟨0, by omega, rfl, HZ3, HB3, K3⟩
    case round =>
      obtain ⟨k, hk, rfl, HZ, HN, HK⟩ := hrel
      obtain rfl | rfl | rfl | rfl : k = 0 ∨ k = 1 ∨ k = 2 ∨ k = 3 := by omega
      · have ix := idx3_0 sn sf sf
        go_wp2_with fail
        refine (A1.out wr).mono ?_
        rintro r w5 ⟨rfl, k5⟩
        have HZ5 := hid (HZ.out.kept k5 (fun h => h))
        have HN5 := hid (HN.out.kept k5 (fun h => h))
        have HK5 := hid (HK.out.trans k5 (fun _ _ h => h))
        clear k5
        have fz := HZ5.out.frozen 0
        have ck : w5.cell? ⟨M, 0, none⟩ = some (.int .i64 0) := HZ5.out.cell 0
        have HZ6 : Hid (Blk (w5.setCell ⟨M, 0, none⟩ (.int .i64 qn)) M 157 (pvL (qn, qf, qf) (0 + 1))) := hid (HZ5.out.set 0 _)
        have HN6 : Hid (Blk (w5.setCell ⟨M, 0, none⟩ (.int .i64 qn)) N 38 (runL (0, 0, 0))) := hid (HN5.out.kept (S := Jb M) ((Kp.refl (Jb M) w5).set 0 _) (fun h => HMN.out.1 h))
        have HK6 : Hid (Kp Nb w (w5.setCell ⟨M, 0, none⟩ (.int .i64 qn))) := hid (HK5.out.setCell (p := ⟨M, 0, none⟩) (fun h => by have := HMN.out; dsimp only at h; omega) _)
        go_wp2
        go_roundw
        case rel => exact ⟨0 + 1, by omega, by go_num, HZ6, HN6, HK6⟩
        case measure => simp [intOf]
      · have ix := idx3_1 sn sf sf
        go_wp2_with fail
        refine (A2.out wr).mono ?_
        rintro r w5 ⟨rfl, k5⟩
        have HZ5 := hid (HZ.out.kept k5 (fun h => h))
        have HN5 := hid (HN.out.kept k5 (fun h => h))
        have HK5 := hid (HK.out.trans k5 (fun _ _ h => h))
        clear k5
        have fz := HZ5.out.frozen 1
        have ck : w5.cell? ⟨M, 1, none⟩ = some (.int .i64 0) := HZ5.out.cell 1
        have HZ6 : Hid (Blk (w5.setCell ⟨M, 1, none⟩ (.int .i64 qf)) M 157 (pvL (qn, qf, qf) (1 + 1))) := hid (HZ5.out.set 1 _)
        have HN6 : Hid (Blk (w5.setCell ⟨M, 1, none⟩ (.int .i64 qf)) N 38 (runL (0, 0, 0))) := hid (HN5.out.kept (S := Jb M) ((Kp.refl (Jb M) w5).set 1 _) (fun h => HMN.out.1 h))
        have HK6 : Hid (Kp Nb w (w5.setCell ⟨M, 1, none⟩ (.int .i64 qf))) := hid (HK5.out.setCell (p := ⟨M, 1, none⟩) (fun h => by have := HMN.out; dsimp only at h; omega) _)
        go_wp2
        go_roundw
        case rel => exact ⟨1 + 1, by omega, by go_num, HZ6, HN6, HK6⟩
        case measure => simp [intOf]
      · have ix := idx3_2 sn sf sf
        go_wp2_with fail
        refine (A3.out wr).mono ?_
        rintro r w5 ⟨rfl, k5⟩
        have HZ5 := hid (HZ.out.kept k5 (fun h => h))
        have HN5 := hid (HN.out.kept k5 (fun h => h))
        have HK5 := hid (HK.out.trans k5 (fun _ _ h => h))
        clear k5
        have fz := HZ5.out.frozen 2
        have ck : w5.cell? ⟨M, 2, none⟩ = some (.int .i64 0) := HZ5.out.cell 2
        have HZ6 : Hid (Blk (w5.setCell ⟨M, 2, none⟩ (.int .i64 qf)) M 157 (pvL (qn, qf, qf) (2 + 1))) := hid (HZ5.out.set 2 _)
        have HN6 : Hid (Blk (w5.setCell ⟨M, 2, none⟩ (.int .i64 qf)) N 38 (runL (0, 0, 0))) := hid (HN5.out.kept (S := Jb M) ((Kp.refl (Jb M) w5).set 2 _) (fun h => HMN.out.1 h))
        have HK6 : Hid (Kp Nb w (w5.setCell ⟨M, 2, none⟩ (.int .i64 qf))) := hid (HK5.out.setCell (p := ⟨M, 2, none⟩) (fun h => by have := HMN.out; dsimp only at h; omega) _)
        go_wp2
        go_roundw
        case rel => exact ⟨2 + 1, by omega, by go_num, HZ6, HN6, HK6⟩
        case measure => simp [intOf]
      · have c0 : wr.cell? ⟨M, 0, none⟩ = some (.int .i64 qn) := HZ.out.cell 0
        have c1 : wr.cell? ⟨M, 1, none⟩ = some (.int .i64 qf) := HZ.out.cell 1
        have c2 : wr.cell? ⟨M, 2, none⟩ = some (.int .i64 qf) := HZ.out.cell 2
        have TH := hid (run_there (q := (qn, qf, qf)) HN.out)
        have HW := hid (row_set (vs := runL (0, 0, 0)) (cs := runL (qn, qf, qf)) HN.out rfl)
        have HKW : Hid (Kp Nb w (wr.setCells N 0 (runL (qn, qf, qf)))) := hid (Kp.setCells (fun h => absurd h (by have := HMN.out; omega)) _ 0 _ HK.out)
        obtain ⟨fs, hfs⟩ := under_run
        go_wp2_with (first
          | (refine wpList_store_mid (by rfl) 38 (.tmp 2) (.tmp 56) (by rfl) N 0 (runL (qn, qf, qf)).toArray (by rfl) (by rfl) TH.out (run_infoA (qn, qf, qf)) (run_one (qn, qf, qf)) ?_))
        refine bodyPost_ret (results_ctD rfl _ N (by rfl) (runV (qn, qf, qf)) (.bool true) (by rfl) (row_loadVar Tryz.underlying38 rfl (run_infoL (qn, qf, qf)) HW.out 0 (fun j _ => by rw [Nat.zero_add]))) rfl ⟨rfl, HKW.out⟩
end
section
open Go.ChangeShapes Go.WideShapes Go.ChangeAt Go.RowKit
theorem cells_int : Tryz.prog.cellsOf 3 = 1 := by kernel_rfl
theorem cells_run : Tryz.prog.cellsOf 38 = 3 := by kernel_rfl
theorem cells_clock : Tryz.prog.cellsOf 25 = 1 := by kernel_rfl
theorem wf_i64 {z : Int} (h : (Lit.int .i64 z).wf = true) : I64 z := by
  simp [Lit.wf] at h
  have hmin : IntKind.i64.min = -9223372036854775808 := by decide
  rw [hmin] at h
  have := h.2
  exact ⟨h.1, by omega⟩
theorem one_at {cs : List Value} {n : Nat} (i : Nat) (hl : cs.length = n) (hi : i < n) : ∃ y, cs[i]? = some y ∧ (cs.drop i).take 1 = [y] := by
  have hi' : i < cs.length := by omega
  exact ⟨cs[i], List.getElem?_eq_getElem hi', by rw [List.drop_eq_getElem_cons hi', List.take_succ_cons, List.take_zero]⟩
theorem three_at {cs : List Value} {a b c : Value} (hl : cs.length = 3) (h0 : cs[0]? = some a) (h1 : cs[1]? = some b) (h2 : cs[2]? = some c) : cs = [a, b, c] := by
  match cs, hl with
  | [x, y, z], _ =>
    have ea : x = a := by simpa using h0
    have eb : y = b := by simpa using h1
    have ec : z = c := by simpa using h2
    rw [ea, eb, ec]
section
variable {H : Type} {enc : TypeId × Value → H} {W : World}
theorem open_runcs {fuel : Nat} {cs : List Value} {x : DataW H × List MemPlace} (h : DataW.trod enc Tryz.prog W 0 (fun _ => true) true fuel 38 cs = some x) : ∃ q : RunQ, RunOk q ∧ cs = runL q := by
  obtain ⟨xs, k, _, _, hl, hxl, hfs⟩ := DataW.trod_struct Tryz.underlying38 h
  rw [cells_run] at hl
  match xs, hxl with
  | [y0, y1, y2], _ =>
    have g0 : DataW.trod enc Tryz.prog W 0 (fun _ => true) true k 3 ((cs.drop 0).take (Tryz.prog.cellsOf 3)) = some y0 := hfs 0 _ rfl
    have g1 : DataW.trod enc Tryz.prog W 0 (fun _ => true) true k 3 ((cs.drop 1).take (Tryz.prog.cellsOf 3)) = some y1 := hfs 1 _ rfl
    have g2 : DataW.trod enc Tryz.prog W 0 (fun _ => true) true k 3 ((cs.drop 2).take (Tryz.prog.cellsOf 3)) = some y2 := hfs 2 _ rfl
    rw [cells_int] at g0 g1 g2
    obtain ⟨c0, h0, e0⟩ := one_at 0 hl (by omega)
    obtain ⟨c1, h1, e1⟩ := one_at 1 hl (by omega)
    obtain ⟨c2, h2, e2⟩ := one_at 2 hl (by omega)
    rw [e0] at g0
    rw [e1] at g1
    rw [e2] at g2
    obtain ⟨z0, hz0, _, hw0⟩ := DataW.trod_int Tryz.underlying3 g0
    obtain ⟨z1, hz1, _, hw1⟩ := DataW.trod_int Tryz.underlying3 g1
    obtain ⟨z2, hz2, _, hw2⟩ := DataW.trod_int Tryz.underlying3 g2
    simp only [List.cons.injEq, and_true] at hz0 hz1 hz2
    subst hz0 hz1 hz2
    exact ⟨(z0, z1, z2), ⟨wf_i64 hw0, wf_i64 hw1, wf_i64 hw2⟩, three_at hl h0 h1 h2⟩
theorem cl_rows {v : Value} {c : List RunQ} (ho : ∀ q ∈ c, RunOk q) (h : RowsSl runL (0, 0, 0) 3 W v c) : ClSl W v c := ⟨runAt_ok ho, h⟩
end
/-- What the rows list. -/
abbrev dtLaid : List (String × DataW Unit) := [("math/bits.deBruijn32tab", Rows.laid_math_bits_deBruijn32tab), ("math/bits.deBruijn64tab", Rows.laid_math_bits_deBruijn64tab), ("internal/strconv.uint64pow10", Rows.laid_internal_strconv_uint64pow10), ("unicode/utf8.acceptRanges", Rows.laid_unicode_utf8_acceptRanges), ("strconv.ErrRange", Rows.laid_strconv_ErrRange), ("strconv.ErrSyntax", Rows.laid_strconv_ErrSyntax), ("unicode/utf8.first", Rows.laid_unicode_utf8_first)]
theorem pow10_data : (Rows.laid_internal_strconv_uint64pow10 : DataW Unit) = Lib.tabData .u64 Lib.pow10Tab := by
  unfold Rows.laid_internal_strconv_uint64pow10 Lib.tabData
  rfl
theorem gPow : ∃ g, Tryz.prog.globalNamed "internal/strconv.uint64pow10" = some g ∧ (Tryz.prog.globals[g]?).map (·.type) = some 187 := ⟨_, rfl, by kernel_rfl⟩
theorem cells_pow : Tryz.prog.cellsOf 187 = 20 := by kernel_rfl
theorem cells_u64 : Tryz.prog.cellsOf 87 = 1 := by kernel_rfl
set_option maxRecDepth 100000 in
theorem tab_of_laid {W : World} (h : laidMetH Tryz.prog dtLaid W) : Tab W := by
  rw [MakeChecks.laidMetH_plain _ _ _ (by kernel_rfl)] at h
  obtain ⟨ps, ⟨g0, t0, cs0, f0, p0, q0, hg0, ht0, hv0, hd0, ⟨g1, t1, cs1, f1, p1, q1, hg1, ht1, hv1, hd1, ⟨g2, t2, cs2, f2, p2, q2, hg2, ht2, hv2, hd2, _, _⟩, _⟩, _⟩, _, _⟩ := h
  obtain ⟨g, hg, ht⟩ := gPow
  obtain rfl := Option.some.inj (hg.symm.trans hg2)
  obtain rfl := Option.some.inj (ht.symm.trans ht2)
  rw [pow10_data] at hd2
  have e := Lib.cells_of_tab Tryz.underlying187 Tryz.underlying87 cells_u64 cells_pow hd2
  unfold Tab Lib.TabIs
  rw [hv2, ← e]
theorem mx_of_shape {W : World} (h : W.ShapedOpen Tryz.prog) : Mx W := Tryz.laysM143.s1_3 W h
/-- The start's own heap meets the condition. -/
theorem laid_met (os : Os) (args : Array Value) : laidMetH Tryz.prog dtLaid ((World.laidAll Tryz.prog os dtLaid).forCall (fun _ _ => 0) ⟨#[], args, []⟩).memory := by
  rw [MakeChecks.laidMetH_plain _ _ _ (by kernel_rfl)]
  exact laidMet_laidAll _ (by kernel_rfl) (by kernel_rfl)
/-- A row's claim out of a contract that is handed the listed tables and the world's shape. -/
theorem handed_dt {H : Type} {enc : TypeId × Value → H} {C : Checked} {l : List (String × DataW Unit)} {os : Os} {f : FuncId} {fn : Func} {s : ChangeSpec} (own : ownKnob C.prog.godebug = none) (started : os.Started) (noInit : C.prog.inits.idxOf? f = none) (hfn : C.prog.funcs[f]? = some fn)
    (witness : ∃ (w : World) (tape : Tape) (i : Input), w.os = os ∧ (w.forCall tape i).Shaped C.prog ∧ i.vars = [] ∧ Input.okWide C.prog (w.forCall tape i) .any w.heap.size f i ∧
      ((s.pre enc C.prog fn [] false (w.forCall tape i).memory i.args ∧ laidMetH C.prog l (w.forCall tape i).memory) ∧ sizedMet enc C.prog fn (OpenSpec.ofChange s) false (w.forCall tape i).memory i.args) ∧
        Assume.holds {} C.prog (lone (Frame.enter C.prog f i.args .normal) [] (w.forCall tape i)))
    (contract : ∀ (W : World) (base : Nat) (args : Array Value) (ds gs : List (DataW H)) (before : List MemPlace),
      (∀ (j : Nat) t v, fn.params[j]? = some t → args[j]? = some v → Value.okWide C.prog W .any base t v) →
      DataW.Whole enc C.prog fn.params.toList s.vars false W args.toList ds gs before →
      laidMetH C.prog l W → W.ShapedOpen C.prog →
      Calls C.prog f args W fun e W' => ∃ v, e = .returned v ∧ s.post enc C.prog fn false true false false W args v W') :
    ReturnsInHanded {} C os f .any (fun w args => (s.pre enc C.prog fn [] false w args ∧ laidMetH C.prog l w) ∧ sizedMet enc C.prog fn (OpenSpec.ofChange s) false w args) (s.post enc C.prog fn false true false false) := by
  refine returnsInHanded_of_calls own started noInit witness ?_
  intro w tape i _ hsh _ hok hpre _
  obtain ⟨_, _, _, fn', hfn', _, _, _, _, hval⟩ := hok
  obtain rfl : fn' = fn := Option.some.inj (hfn'.symm.trans hfn)
  obtain ⟨⟨⟨ds, gs, before, hw, _⟩, hl⟩, _⟩ := hpre
  have hw' : DataW.Whole enc C.prog fn'.params.toList s.vars false (w.forCall tape i) i.args.toList ds gs before := DataW.Whole.of_heap (w' := w.forCall tape i) (by rfl) hw
  have hl' : laidMetH C.prog l (w.forCall tape i) := laidMetH.of_heap (w' := w.forCall tape i) (by rfl) hl
  refine (contract (w.forCall tape i) w.heap.size i.args ds gs before hval hw' hl' hsh).mono fun e W' ⟨v, he, hp⟩ => ?_
  subst he
  exact ChangeSpec.post_blind hp
end
section
open Go.RowKit
abbrev DotQ := Int × Int
def dotL (q : DotQ) : List Value := [.int .i64 q.1, .int .i64 q.2]
def DotOk (q : DotQ) : Prop := I64 q.1 ∧ I64 q.2
end
section
open Go.ChangeShapes Go.WideShapes Go.ChangeAt Go.RowKit
theorem cells_dot : Tryz.prog.cellsOf 23 = 2 := by kernel_rfl
theorem two_at {cs : List Value} {a b : Value} (hl : cs.length = 2) (h0 : cs[0]? = some a) (h1 : cs[1]? = some b) : cs = [a, b] := by
  match cs, hl with
  | [x, y], _ =>
    have ea : x = a := by simpa using h0
    have eb : y = b := by simpa using h1
    rw [ea, eb]
section
variable {H : Type} {enc : TypeId × Value → H} {W : World}
theorem open_dotcs {fuel : Nat} {cs : List Value} {x : DataW H × List MemPlace} (hl : cs.length = 2) (h : DataW.trod enc Tryz.prog W 0 (fun _ => true) true fuel 23 cs = some x) : ∃ q : DotQ, DotOk q ∧ cs = dotL q := by
  obtain ⟨xs, k, _, _, _, hxl, hfs⟩ := DataW.trod_struct Tryz.underlying23 h
  match xs, hxl with
  | [y0, y1], _ =>
    have g0 : DataW.trod enc Tryz.prog W 0 (fun _ => true) true k 3 ((cs.drop 0).take (Tryz.prog.cellsOf 3)) = some y0 := hfs 0 _ rfl
    have g1 : DataW.trod enc Tryz.prog W 0 (fun _ => true) true k 3 ((cs.drop 1).take (Tryz.prog.cellsOf 3)) = some y1 := hfs 1 _ rfl
    rw [cells_int] at g0 g1
    obtain ⟨c0, h0, e0⟩ := one_at 0 hl (by omega)
    obtain ⟨c1, h1, e1⟩ := one_at 1 hl (by omega)
    rw [e0] at g0
    rw [e1] at g1
    obtain ⟨z0, hz0, _, hw0⟩ := DataW.trod_int Tryz.underlying3 g0
    obtain ⟨z1, hz1, _, hw1⟩ := DataW.trod_int Tryz.underlying3 g1
    simp only [List.cons.injEq, and_true] at hz0 hz1
    subst hz0 hz1
    exact ⟨(z0, z1), ⟨wf_i64 hw0, wf_i64 hw1⟩, two_at hl h0 h1⟩
theorem open_dotcs' {fuel : Nat} {cs : List Value} {x : DataW H × List MemPlace} (h : DataW.trod enc Tryz.prog W 0 (fun _ => true) true fuel 23 cs = some x) : ∃ q : DotQ, DotOk q ∧ cs = dotL q := by
  obtain ⟨xs, k, _, _, hl, hxl, hfs⟩ := DataW.trod_struct Tryz.underlying23 h
  rw [cells_dot] at hl
  exact open_dotcs hl h
end
end

end Go.Proofs.YtogoophofgkboaaGreatDoor
