/-
  Layer 3: the reference's Right. Conditions: at most 1,000 runs.
  Layer 3: the reference's add, plainly: one more run among those of a right clock; a join made of it. No condition but that clocks are right.
  Layer 3: the reference's add. Conditions: good runs, at most 1,000 of them.
  Layer 3: the reference's Good, Top, Count. Conditions: at most 1,000 runs.
  Layer 3: the reference's With, Join. Conditions: at most 400 runs.
  Layer 3: the reference's Of. Conditions: at most 1,000 runs.
  Layer 3: the reference's Has. Conditions: at most 1,000 runs.
  Layer 3: the reference's Below, Compare. Conditions: at most 1,000 runs.
  Layer 3: the reference's Compare. Conditions: at most 1,000 runs.
  Layer 3: the reference's Same. Conditions: at most 1,000 runs.
-/
import Derived.Test.YtbbfibgijackhaaGreatDoorDtB
import Derived.Test.YtbbfibgijackhaaGreatDoorDtD
import Derived.Test.YtbbfibgijackhaaGreatDoorPkJ
import Derived.Test.YtbbfibgijackhaaGreatDoorDtC
import Derived.Test.YtbbfibgijackhaaGreatDoorDtE
namespace Go.Proofs.YtbbfibgijackhaaGreatDoor
open Go.RowKit

theorem rightC_bad {c : List RunQ} {k : Nat} (hk : k < c.length) (h : goodR (runAt c k) = false ∨ (0 < k ∧ gapB (runAt c (k - 1)) (runAt c k) = false)) : rightC c = false := by
  rw [Bool.eq_false_iff]
  intro hr
  have := rightC_of.1 hr k hk
  rcases h with h | ⟨h0, h⟩
  · rw [h] at this; cases this.1
  · have h2 := this.2 h0
    rw [h] at h2
    cases h2
def RrR (w : World) (c : List RunQ) (i : Value) (wr : World) : Prop := ∃ k : Nat, k ≤ c.length ∧ i = .int .i64 k ∧ Hid (∀ j, j < k → goodR (runAt c j) = true ∧ (0 < j → gapB (runAt c (j - 1)) (runAt c j) = true)) ∧ Hid (Kp Nb w wr)
set_option maxRecDepth 100000 in
set_option maxHeartbeats 8000000 in
theorem rright_any (v : Value) (c : List RunQ) (w : World) (hs : ClSl w v c) (hl : c.length ≤ 1000) :
    Calls Tryz.prog 10 #[v] w fun e w' => e = .returned (.bool (rightC c)) ∧ Kp Nb w w' := by
  obtain ⟨pv, dv, rfl⟩ := hs.shape
  obtain ⟨L, hL⟩ : ∃ L, c.length = L := ⟨_, rfl⟩
  have HLE := hid hL
  rw [hL] at hs hl ⊢
  have HS := hid hs
  have hLb := hl
  obtain ⟨R, hR⟩ : ∃ b, rightC c = b := ⟨_, rfl⟩
  have HRR := hid hR
  rw [hR]
  clear hs hL hl hR
  go_enter Tryz.func10, Tryz.ntmps10
  go_wp2_with fail
  go_loopw [7] (RrR w c) (fun i _ => L - (intOf i).toNat)
  case atStart => exact ⟨0, Nat.zero_le _, rfl, hid (fun j hj => by omega), hid (Kp.refl _ _)⟩
  case round =>
    obtain ⟨k, hk, rfl, HJ, HK⟩ := hrel
    rw [HLE.out] at hk
    by_cases hlt : k < L
    · obtain ⟨blk, off, cap, e1, hc, hm, hcell⟩ := cl_shape (HS.out.kept HK.out) (by intro h; have := HLE.out; rw [h, List.length_nil] at this; omega)
      rw [HLE.out] at e1 hc hcell
      injection e1 with e1 _ e2
      subst e1 e2
      have HR := hid (hcell k hlt)
      obtain ⟨⟨qn, qf, qt⟩, hq⟩ : ∃ q, runAt c k = q := ⟨_, rfl⟩
      have HOK := HS.out.1 k
      rw [hq] at HR HOK
      have HQ := hid hq
      obtain ⟨M, hM⟩ : ∃ M, wr.heap.size = M := ⟨_, rfl⟩
      obtain ⟨W2, hW2⟩ : ∃ W, W = (wr.alloc (.cells (runL (0, 0, 0)).toArray 61)).setCells M 0 (runL (qn, qf, qt)) := ⟨_, rfl⟩
      have hz := Blk.new wr 61 (runL (0, 0, 0))
      rw [hM] at hz
      have KW : Hid (Kp Nb wr W2) := hid (by rw [hW2]; exact Kp.setCells (fun h => absurd h (by omega)) _ 0 _ ((Kp.refl Nb wr).alloc _))
      have HMW : Hid (wr.heap.size = M) := hid hM
      have TH := hid (run_there (q := (qn, qf, qt)) hz)
      have HZ : Hid (Blk W2 M 61 (runL (qn, qf, qt))) := hid (by rw [hW2]; exact row_set hz rfl)
      have HK2 := hid (HK.out.trans KW.out (fun _ _ h => h))
      unfold maxLen at hm
      obtain ⟨fs, hfs⟩ := under_run
      clear hz hcell hq
      go_upto_region 4 with (first
        | (refine wpList_load_mid (by rfl) 61 (.tmp 10) (by rfl) blk (off + k * 3) (by rfl) (runL (qn, qf, qt)) _ HR.out hfs rfl (run_infoL (qn, qf, qt)) ?_)
        | (refine wpList_store_mid (by rfl) 61 (.tmp 4) (.tmp 11) (by rfl) M 0 (runL (qn, qf, qt)).toArray (by rfl) (by rfl) TH.out (run_infoA (qn, qf, qt)) (run_one (qn, qf, qt)) ?_))
      rw [show (wr.alloc (.cells #[.int .i64 0, .int .i64 0, .int .i64 0] 61)).setCells M 0 (runL (qn, qf, qt)) = W2 from hW2.symm]
      clear hW2 TH hM
      have c0 : W2.cell? ⟨M, 0, none⟩ = some (.int .i64 qn) := HZ.out.cell 0
      have c1 : W2.cell? ⟨M, 1, none⟩ = some (.int .i64 qf) := HZ.out.cell 1
      have c2 : W2.cell? ⟨M, 2, none⟩ = some (.int .i64 qt) := HZ.out.cell 2
      have HC : Hid (k < c.length) := hid (by rw [HLE.out]; exact hlt)
      have HSK := hid (HS.out.kept HK2.out)
      have HBAD : Hid (goodR (qn, qf, qt) = false → R = false) := hid (fun h => by rw [← HRR.out]; exact rightC_bad HC.out (.inl (by rw [HQ.out]; exact h)))
      clear HK KW HMW HR
      by_cases g0 : qn < 0
      · have HF : R = false := HBAD.out (by unfold goodR; exact decide_eq_false (by dsimp only; omega))
        subst HF
        go_wp2
        go_ret
        exact ⟨rfl, HK2.out⟩
      by_cases g1 : 7 < qn
      · have HF : R = false := HBAD.out (by unfold goodR; exact decide_eq_false (by dsimp only; omega))
        subst HF
        go_wp2
        go_ret
        exact ⟨rfl, HK2.out⟩
      by_cases g2 : qf < 1
      · have HF : R = false := HBAD.out (by unfold goodR; exact decide_eq_false (by dsimp only; omega))
        subst HF
        go_wp2
        go_ret
        exact ⟨rfl, HK2.out⟩
      by_cases g3 : qt < qf
      · have HF : R = false := HBAD.out (by unfold goodR; exact decide_eq_false (by dsimp only; omega))
        subst HF
        go_wp2
        go_ret
        exact ⟨rfl, HK2.out⟩
      by_cases g4 : 1099511627776 < qt
      · have HF : R = false := HBAD.out (by unfold goodR; exact decide_eq_false (by dsimp only; omega))
        subst HF
        go_wp2
        go_ret
        exact ⟨rfl, HK2.out⟩
      have HGD : Hid (goodR (qn, qf, qt) = true) := hid (goodR_of.2 (by dsimp only; omega))
      by_cases hk0 : k = 0
      · subst hk0
        have HJN : Hid (∀ j, j < 0 + 1 → goodR (runAt c j) = true ∧ (0 < j → gapB (runAt c (j - 1)) (runAt c j) = true)) := hid (fun j hj => by
          obtain rfl : j = 0 := by omega
          exact ⟨by rw [HQ.out]; exact HGD.out, fun h => by omega⟩)
        go_wp2_with fail
        go_quiet (fail)
        have HK2 := hid (HK2.out.drewN nq)
        go_wp2
        go_roundw
        case rel => exact ⟨0 + 1, by rw [HLE.out]; omega, by go_num, HJN, HK2⟩
        case measure => simp [intOf]; omega
      · obtain ⟨q, rfl⟩ : ∃ q, k = q + 1 := ⟨k - 1, by omega⟩
        obtain ⟨⟨pn, pf, pt⟩, hp⟩ : ∃ x, runAt c q = x := ⟨_, rfl⟩
        have HP := hid hp
        have hgp := (HJ.out q (by omega)).1
        rw [hp] at hgp
        have gp := goodR_of.1 hgp
        dsimp only at gp
        obtain ⟨blk2, off2, cap2, e3, hc3, hm3, hcell2⟩ := cl_shape HSK.out (by intro h; have := HLE.out; rw [h, List.length_nil] at this; omega)
        rw [HLE.out] at e3 hc3 hcell2
        injection e3 with e3 _ e4
        injection e3 with e3
        injection e3 with e3 e5
        subst e3 e4 e5
        have hrp := hcell2 q (by omega)
        rw [hp] at hrp
        have e0 : W2.cell? ⟨blk, off + q * 3 + 0, none⟩ = some (.int .i64 pn) := hrp 0 _ rfl
        have e2 : W2.cell? ⟨blk, off + q * 3 + 2, none⟩ = some (.int .i64 pt) := hrp 2 _ rfl
        rw [Nat.add_zero] at e0
        have w1 : IntKind.i64.wrap ((q : Int) + 1 - 1) = (q : Int) := by rw [show (q : Int) + 1 - 1 = (q : Int) by omega]; exact IntWalk.i64_in _ (by omega)
        have hqL : q < L := by omega
        have w3 : IntKind.i64.wrap (q : Int) = (q : Int) := IntWalk.i64_in _ (by omega)
        have w2 : IntKind.i64.wrap (pt + 2) = pt + 2 := IntWalk.i64_in _ (by omega)
        have HGP : Hid (∀ b, gapB (pn, pf, pt) (qn, qf, qt) = b → gapB (runAt c (q + 1 - 1)) (runAt c (q + 1)) = b) := hid (fun b h => by rw [HQ.out, Nat.add_sub_cancel, HP.out]; exact h)
        have HBG : Hid (gapB (pn, pf, pt) (qn, qf, qt) = false → R = false) := hid (fun h => by rw [← HRR.out]; exact rightC_bad HC.out (.inr ⟨by omega, HGP.out _ h⟩))
        have HJN : Hid (gapB (pn, pf, pt) (qn, qf, qt) = true → ∀ j, j < q + 1 + 1 → goodR (runAt c j) = true ∧ (0 < j → gapB (runAt c (j - 1)) (runAt c j) = true)) := hid (fun h j hj => by
          rcases Nat.lt_or_ge j (q + 1) with h2 | h2
          · exact HJ.out j h2
          · obtain rfl : j = q + 1 := by omega
            exact ⟨by rw [HQ.out]; exact HGD.out, fun _ => HGP.out _ h⟩)
        clear hp hgp hrp hcell2 hm3 hc3 HGP HBAD
        by_cases h1 : qn < pn
        · have HF : R = false := HBG.out (by unfold gapB; simp [h1])
          subst HF
          go_wp2_with fail
          go_quiet (fail)
          have HK2 := hid (HK2.out.drewN nq)
          go_wp2
          go_ret
          exact ⟨rfl, HK2.out⟩
        · by_cases h2 : pn = qn
          · subst h2
            by_cases h3 : qf < pt + 2
            · have HF : R = false := HBG.out (by unfold gapB; simp [h3])
              subst HF
              go_wp2_with fail
              go_quiet (fail)
              have HK2 := hid (HK2.out.drewN nq)
              go_wp2
              go_ret
              exact ⟨rfl, HK2.out⟩
            · have HX := hid (HJN.out (by unfold gapB; simp [h3]))
              go_wp2_with fail
              go_quiet (fail)
              have HK2 := hid (HK2.out.drewN nq)
              go_wp2
              go_roundw
              case rel => exact ⟨q + 1 + 1, by rw [HLE.out]; omega, by go_num, HX, HK2⟩
              case measure => simp [intOf]; omega
          · have h4 : (pn == qn) = false := beq_eq_false_iff_ne.2 h2
            have h5 : decide (qn < pn) = false := decide_eq_false h1
            have HX := hid (HJN.out (by unfold gapB; simp [h1]; omega))
            clear h1
            go_wp2_with fail
            go_quiet (fail)
            have HK2 := hid (HK2.out.drewN nq)
            go_wp2
            go_roundw
            case rel => exact ⟨q + 1 + 1, by rw [HLE.out]; omega, by go_num, HX, HK2⟩
            case measure => simp [intOf]; omega
    · obtain rfl : k = L := by omega
      have HF : R = true := by rw [← HRR.out]; exact rightC_of.2 (fun i hi => HJ.out i (by rw [← HLE.out]; exact hi))
      subst HF
      go_wp2
      go_ret
      exact ⟨rfl, HK.out⟩

end Go.Proofs.YtbbfibgijackhaaGreatDoor

namespace Go.Proofs.YtbbfibgijackhaaGreatDoor
open Go.RowKit

/-- Do two runs touch? -/
def tchB (x r : RunQ) : Bool := decide (x.1 = r.1 ∧ x.2.1 ≤ r.2.2 + 1 ∧ r.2.1 ≤ x.2.2 + 1)
def mrgR (x r : RunQ) : RunQ := (r.1, min x.2.1 r.2.1, max x.2.2 r.2.2)
def aftB (x r : RunQ) : Bool := decide (r.1 < x.1 ∨ (x.1 = r.1 ∧ r.2.2 < x.2.1))
abbrev AddS := List RunQ × Bool × RunQ
def addS (s : AddS) (x : RunQ) : AddS :=
  if tchB x s.2.2 then (s.1, s.2.1, mrgR x s.2.2) else if !s.2.1 && aftB x s.2.2 then (s.1 ++ [s.2.2] ++ [x], true, s.2.2) else (s.1 ++ [x], s.2.1, s.2.2)
def addF (s : AddS) : List RunQ := if s.2.1 then s.1 else s.1 ++ [s.2.2]
def addC (c : List RunQ) (r : RunQ) : List RunQ := addF (c.foldl addS ([], false, r))
def AddI (p rest : List RunQ) (r0 : RunQ) (s : AddS) : Prop :=
  goodR s.2.2 = true ∧ (∀ q ∈ s.1, ∀ x ∈ rest, Gap q x) ∧ (s.2.1 = true → ∀ x ∈ rest, Gap s.2.2 x) ∧ Rt (addF s) ∧ ∀ n d, InC (addF s) n d ↔ InC p n d ∨ In1 r0 n d
theorem mrg_in {x r : RunQ} (h : tchB x r = true) (hx : goodR x = true) (hr : goodR r = true) : goodR (mrgR x r) = true ∧ ∀ n d, In1 (mrgR x r) n d ↔ In1 x n d ∨ In1 r n d := by
  have h := of_decide_eq_true h
  have g1 := goodR_of.1 hx
  have g2 := goodR_of.1 hr
  refine ⟨goodR_of.2 ?_, fun n d => ?_⟩
  · unfold mrgR
    dsimp only
    omega
  · unfold mrgR In1
    dsimp only
    omega
theorem rt_snoc {l : List RunQ} {x : RunQ} (hl : Rt l) (gx : goodR x = true) (hg : ∀ q ∈ l, Gap q x) : Rt (l ++ [x]) := by
  refine ⟨fun q hq => ?_, List.pairwise_append.2 ⟨hl.2, by simp, fun q hq y hy => ?_⟩⟩
  · rcases List.mem_append.1 hq with hq | hq
    · exact hl.1 q hq
    · rw [List.mem_singleton.1 hq]; exact gx
  · rw [List.mem_singleton.1 hy]; exact hg q hq
theorem gap_snoc {l rest : List RunQ} {x : RunQ} (h : ∀ q ∈ l, ∀ y ∈ rest, Gap q y) (hx : ∀ y ∈ rest, Gap x y) : ∀ q ∈ l ++ [x], ∀ y ∈ rest, Gap q y := fun q hq y hy => by
  rcases List.mem_append.1 hq with hq | hq
  · exact h q hq y hy
  · rw [List.mem_singleton.1 hq]; exact hx y hy
theorem rt_one {r : RunQ} (h : goodR r = true) : Rt [r] := ⟨fun q hq => by rw [List.mem_singleton.1 hq]; exact h, by simp⟩
theorem addS_spec {p rest : List RunQ} {x r0 : RunQ} {s : AddS} (hi : AddI p (x :: rest) r0 s) (hc : Rt (x :: rest)) : AddI (p ++ [x]) rest r0 (addS s x) := by
  obtain ⟨out, done, r⟩ := s
  obtain ⟨hg, ho, hd, hrt, hin⟩ := hi
  obtain ⟨gx, gxr, hcr⟩ := rt_cons.1 hc
  dsimp only at hg ho hd
  have g1 := goodR_of.1 gx
  have g2 := goodR_of.1 hg
  have ho' : ∀ q ∈ out, ∀ y ∈ rest, Gap q y := fun q hq y hy => ho q hq y (by simp [hy])
  have hgx : ∀ q ∈ out, Gap q x := fun q hq => ho q hq x (by simp)
  unfold addS
  dsimp only
  cases done with
  | true =>
    have hgr := hd rfl x (by simp)
    have ht : tchB x r = false := by
      unfold tchB
      unfold Gap at hgr
      exact decide_eq_false (by omega)
    rw [ht, if_neg (by decide), if_neg (by simp)]
    have e0 : addF (out, true, r) = out := rfl
    have e1 : addF (out ++ [x], true, r) = out ++ [x] := rfl
    rw [e0] at hrt hin
    refine ⟨hg, gap_snoc ho' gxr, fun _ y hy => hd rfl y (by simp [hy]), by rw [e1]; exact rt_snoc hrt gx hgx, fun n d => ?_⟩
    have := hin n d
    rw [e1, inC_append, inC_one, inC_append, inC_one, this, or_assoc, or_assoc, or_comm (a := In1 r0 n d)]
  | false =>
    have e0 : addF (out, false, r) = out ++ [r] := rfl
    rw [e0] at hrt hin
    have hro : Rt out := ⟨fun q hq => hrt.1 q (by simp [hq]), (List.pairwise_append.1 hrt.2).1⟩
    have hgo : ∀ q ∈ out, Gap q r := fun q hq => (List.pairwise_append.1 hrt.2).2.2 q hq r (by simp)
    by_cases ht : tchB x r = true
    · rw [if_pos ht]
      obtain ⟨m1, m2⟩ := mrg_in ht gx hg
      have e1 : addF (out, false, mrgR x r) = out ++ [mrgR x r] := rfl
      refine ⟨m1, ho', (fun h => Bool.noConfusion h), ?_, fun n d => ?_⟩
      · rw [e1]
        refine rt_snoc hro m1 fun q hq => ?_
        have h1 := hgo q hq
        have h2 := hgx q hq
        have h3 := of_decide_eq_true ht
        unfold Gap at h1 h2 ⊢
        unfold mrgR
        dsimp only
        omega
      · have := hin n d
        rw [inC_append, inC_one] at this
        rw [e1, inC_append, inC_one, m2, inC_append, inC_one]
        constructor
        · rintro (h | h | h)
          · exact (this.1 (.inl h)).elim (fun h => .inl (.inl h)) .inr
          · exact .inl (.inr h)
          · exact (this.1 (.inr h)).elim (fun h => .inl (.inl h)) .inr
        · rintro ((h | h) | h)
          · exact (this.2 (.inl h)).elim .inl (fun h => .inr (.inr h))
          · exact .inr (.inl h)
          · exact (this.2 (.inr h)).elim .inl (fun h => .inr (.inr h))
    · have ht' : tchB x r = false := Bool.eq_false_iff.2 ht
      have hnt : ¬ (x.1 = r.1 ∧ x.2.1 ≤ r.2.2 + 1 ∧ r.2.1 ≤ x.2.2 + 1) := fun h => ht (decide_eq_true h)
      rw [ht', if_neg (by decide)]
      by_cases ha : aftB x r = true
      · rw [ha, if_pos (by rfl)]
        have h3 := of_decide_eq_true ha
        have hrx : Gap r x := by unfold Gap; omega
        have e1 : addF (out ++ [r] ++ [x], true, r) = out ++ [r] ++ [x] := rfl
        have hry : ∀ y ∈ rest, Gap r y := fun y hy => gap_trans gx hrx (gxr y hy)
        refine ⟨hg, gap_snoc (gap_snoc ho' hry) gxr, fun _ => hry, ?_, fun n d => ?_⟩
        · rw [e1]
          refine rt_snoc hrt gx fun q hq => ?_
          rcases List.mem_append.1 hq with hq | hq
          · exact hgx q hq
          · rw [List.mem_singleton.1 hq]; exact hrx
        · have := hin n d
          rw [e1, inC_append (out ++ [r]), inC_one, this, inC_append, inC_one, or_assoc, or_assoc, or_comm (a := In1 r0 n d)]
      · have ha' : aftB x r = false := Bool.eq_false_iff.2 ha
        rw [ha', if_neg (by simp)]
        have h3 : ¬ (r.1 < x.1 ∨ (x.1 = r.1 ∧ r.2.2 < x.2.1)) := fun h => ha (decide_eq_true h)
        have hxr : Gap x r := by unfold Gap; omega
        have e1 : addF (out ++ [x], false, r) = out ++ [x] ++ [r] := rfl
        refine ⟨hg, gap_snoc ho' gxr, (fun h => Bool.noConfusion h), ?_, fun n d => ?_⟩
        · rw [e1]
          refine rt_snoc (rt_snoc hro gx hgx) hg fun q hq => ?_
          rcases List.mem_append.1 hq with hq | hq
          · exact hgo q hq
          · rw [List.mem_singleton.1 hq]; exact hxr
        · have := hin n d
          rw [inC_append, inC_one] at this
          rw [e1, inC_append, inC_append, inC_one, inC_one, inC_append, inC_one]
          constructor
          · rintro ((h | h) | h)
            · exact (this.1 (.inl h)).elim (fun h => .inl (.inl h)) .inr
            · exact .inl (.inr h)
            · exact (this.1 (.inr h)).elim (fun h => .inl (.inl h)) .inr
          · rintro ((h | h) | h)
            · exact (this.2 (.inl h)).elim (fun h => .inl (.inl h)) .inr
            · exact .inl (.inr h)
            · exact (this.2 (.inr h)).elim (fun h => .inl (.inl h)) .inr
theorem addS_all : ∀ (rest p : List RunQ) (r0 : RunQ) (s : AddS), AddI p rest r0 s → Rt rest → AddI (p ++ rest) [] r0 (rest.foldl addS s)
  | [], p, r0, s, h, _ => by rw [List.append_nil]; exact h
  | x :: rest, p, r0, s, h, hc => by
    have h2 := addS_all rest (p ++ [x]) r0 (addS s x) (addS_spec h hc) (rt_cons.1 hc).2.2
    rw [List.append_assoc] at h2
    exact h2
theorem addC_spec {c : List RunQ} {r : RunQ} (hc : Rt c) (hr : goodR r = true) : Rt (addC c r) ∧ ∀ n d, InC (addC c r) n d ↔ InC c n d ∨ In1 r n d := by
  have e0 : addF (([], false, r) : AddS) = [r] := rfl
  have h0 : AddI [] c r ([], false, r) := ⟨hr, by simp, (fun h => Bool.noConfusion h), by rw [e0]; exact rt_one hr, fun n d => by rw [e0, inC_one]; exact ⟨.inr, fun h => h.elim (fun h => (inC_nil n d h).elim) id⟩⟩
  have h := addS_all c [] r ([], false, r) h0 hc
  rw [List.nil_append] at h
  exact ⟨h.2.2.2.1, h.2.2.2.2⟩
/-- A join, made run by run. -/
def addsC (a b : List RunQ) : List RunQ := b.foldl addC a
theorem addsC_spec : ∀ (b a : List RunQ), Rt a → (∀ r ∈ b, goodR r = true) → Rt (addsC a b) ∧ ∀ n d, InC (addsC a b) n d ↔ InC a n d ∨ InC b n d
  | [], a, ha, _ => ⟨ha, fun n d => ⟨.inl, fun h => h.elim id (fun h => (inC_nil n d h).elim)⟩⟩
  | r :: b, a, ha, hb => by
    obtain ⟨h1, h2⟩ := addC_spec ha (hb r (by simp))
    obtain ⟨h3, h4⟩ := addsC_spec b (addC a r) h1 fun q hq => hb q (by simp [hq])
    refine ⟨h3, fun n d => ?_⟩
    show InC (addsC (addC a r) b) n d ↔ _
    rw [h4, h2, inC_cons, or_assoc]
theorem adds_join {a b : List RunQ} (ha : Rt a) (hb : Rt b) : addsC a b = joinC a b := by
  obtain ⟨h1, h2⟩ := addsC_spec b a ha hb.1
  exact rt_ext _ _ h1 (join_rt ha hb) fun n d => by rw [h2, join_in ha hb]
theorem add_join {a : List RunQ} {r : RunQ} (ha : Rt a) (hr : goodR r = true) : addC a r = joinC a [r] := by
  have hb : Rt [r] := rt_one hr
  exact adds_join ha hb
theorem addC_len (c : List RunQ) (r : RunQ) : (addC c r).length ≤ c.length + 1 := by
  have h : ∀ (rest : List RunQ) (s : AddS), (addF (rest.foldl addS s)).length ≤ (addF s).length + rest.length := fun rest => by
    induction rest with
    | nil => intro s; simp
    | cons x rest ih =>
      intro s
      have h1 := ih (addS s x)
      have h2 : (addF (addS s x)).length ≤ (addF s).length + 1 := by
        obtain ⟨out, done, r⟩ := s
        unfold addS
        split
        · unfold addF
          dsimp only
          split <;> simp
        · split
          · next h3 =>
            have h4 : done = false := by
              rw [Bool.and_eq_true] at h3
              simpa using h3.1
            subst h4
            simp [addF]
          · unfold addF
            dsimp only
            split <;> simp
      rw [List.foldl_cons, List.length_cons]
      omega
  have := h c ([], false, r)
  have e0 : (addF (([], false, r) : AddS)).length = 1 := rfl
  unfold addC
  omega

end Go.Proofs.YtbbfibgijackhaaGreatDoor

namespace Go.Proofs.YtbbfibgijackhaaGreatDoor
open Go.RowKit

theorem ownsRow_kpA {w w' : World} {base e size k B : Nat} {v : Value} {xs : List Value} (h : w.ownsRow base e size v k xs) (hk : Kp (Jb B) w w') (hB : B < base) : w'.ownsRow base e size v k xs :=
  ownsRow_same h (fun g hg => by obtain ⟨h1, o, ho, -⟩ := row_cells h hg; exact hk.heap (Array.getElem?_eq_some_iff.1 ho).1 (fun h => by have h' : g = B := h; omega))
theorem mrg_good {x r : RunQ} (hx : goodR x = true) (hr : goodR r = true) : goodR (mrgR x r) = true := by
  have g1 := goodR_of.1 hx
  have g2 := goodR_of.1 hr
  refine goodR_of.2 ?_
  unfold mrgR
  dsimp only
  omega
theorem Blk.set1 {w : World} {B : Nat} {a b c x : Int} (h : Blk w B 61 (runL (a, b, c))) : Blk (w.setCell ⟨B, 1, none⟩ (.int .i64 x)) B 61 (runL (a, x, c)) := h.set 1 (.int .i64 x)
theorem Blk.set2 {w : World} {B : Nat} {a b c x : Int} (h : Blk w B 61 (runL (a, b, c))) : Blk (w.setCell ⟨B, 2, none⟩ (.int .i64 x)) B 61 (runL (a, b, x)) := h.set 2 (.int .i64 x)
def AddG (s : AddS) : Prop := (∀ q ∈ s.1, goodR q = true) ∧ goodR s.2.2 = true
theorem good_ok {q : RunQ} (h : goodR q = true) : RunOk q := by
  have g := goodR_of.1 h
  unfold RunOk I64
  omega
def AdR (w : World) (N : Nat) (c : List RunQ) (r0 : RunQ) (i u t : Value) (wr : World) : Prop := ∃ (k : Nat) (s : AddS), k ≤ c.length ∧ i = .int .i64 k ∧ t = .bool s.2.1 ∧ Hid (s = (c.take k).foldl addS ([], false, r0)) ∧ Hid (s.1.length ≤ k + 1 ∧ (s.2.1 = false → s.1.length ≤ k)) ∧ Hid (AddG s) ∧
  Hid (wr.ownsRow (N + 1) 61 3 u s.1.length (flatR runL s.1)) ∧ Hid (Blk wr N 61 (runL s.2.2)) ∧ Hid (Kp Nb w wr)
set_option maxRecDepth 100000 in
set_option maxHeartbeats 16000000 in
theorem add_any (v : Value) (c : List RunQ) (r0 : RunQ) (w : World) (hs : ClSl w v c) (hg : ∀ q ∈ c, goodR q = true) (hr : goodR r0 = true) (hl : c.length ≤ 1000) :
    Calls Tryz.prog 42 #[v, runV r0] w fun e w' => ∃ v', e = .returned v' ∧ ClSl w' v' (addC c r0) ∧ OwnV w v' w' ∧ Kp Nb w w' := by
  obtain ⟨pv, dv, rfl⟩ := hs.shape
  obtain ⟨L, hL⟩ : ∃ L, c.length = L := ⟨_, rfl⟩
  have HLE := hid hL
  obtain ⟨N, hN⟩ : ∃ N, w.heap.size = N := ⟨_, rfl⟩
  obtain ⟨zn, zf, zt⟩ := r0
  obtain ⟨W, hW⟩ : ∃ W, W = w.alloc (.cells #[.int .i64 zn, .int .i64 zf, .int .i64 zt] 61) := ⟨_, rfl⟩
  have HB0 : Hid (Blk W N 61 (runL (zn, zf, zt))) := hid (by rw [hW, ← hN]; exact Blk.new w _ (runL (zn, zf, zt)))
  have K0 : Hid (Kp Nb w W) := hid (by rw [hW]; exact (Kp.refl Nb w).alloc _)
  have HNE := hid hN
  rw [hL] at hs hl ⊢
  have HS := hid hs
  have HG := hid hg
  have HR0 := hid hr
  have hLb := hl
  obtain ⟨R, hR⟩ : ∃ R, addC c (zn, zf, zt) = R := ⟨_, rfl⟩
  have HRE := hid hR
  rw [hR]
  clear hs hL hg hr hl hR
  go_enter Tryz.func42, Tryz.ntmps42
  go_upto_region 1 with fail
  rw [← hW]
  try simp only [hN]
  clear hW hN
  go_wp2_with fail
  go_loopw [11, 5, 6] (AdR w N c (zn, zf, zt)) (fun i _ _ _ => L - (intOf i).toNat)
  case atStart => exact ⟨0, ([], false, (zn, zf, zt)), Nat.zero_le _, rfl, rfl, hid rfl, hid ⟨Nat.zero_le _, fun _ => Nat.zero_le _⟩, hid ⟨by simp, HR0.out⟩, hid (World.ownsRow_nil _ _ _ _), HB0, K0⟩
  case round =>
    obtain ⟨k, ⟨out, done, rn, rf, rt⟩, hk, rfl, rfl, HSE, HLN, HGD, HO, HBN, HK⟩ := hrel
    dsimp only at HSE HLN HGD HO HBN
    rw [HLE.out] at hk
    obtain ⟨a5, c5, rfl⟩ := own_shape HO.out
    by_cases hlt : k < L
    · obtain ⟨blk, off, cap, e1, hc, hm, hcell⟩ := cl_shape (HS.out.kept HK.out) (by intro h; have := HLE.out; rw [h, List.length_nil] at this; omega)
      rw [HLE.out] at e1 hc hcell
      injection e1 with e1 _ e2
      subst e1 e2
      have HR := hid (hcell k hlt)
      obtain ⟨⟨qn, qf, qt⟩, hq⟩ : ∃ q, runAt c k = q := ⟨_, rfl⟩
      have HOK := HS.out.1 k
      rw [hq] at HR HOK
      have HQ := hid hq
      obtain ⟨M, hM⟩ : ∃ M, wr.heap.size = M := ⟨_, rfl⟩
      obtain ⟨W2, hW2⟩ : ∃ W, W = (wr.alloc (.cells (runL (0, 0, 0)).toArray 61)).setCells M 0 (runL (qn, qf, qt)) := ⟨_, rfl⟩
      have hz := Blk.new wr 61 (runL (0, 0, 0))
      rw [hM] at hz
      have KW : Hid (Kp Nb wr W2) := hid (by rw [hW2]; exact Kp.setCells (fun h => absurd h (by omega)) _ 0 _ ((Kp.refl Nb wr).alloc _))
      have HMW : Hid (wr.heap.size = M) := hid hM
      have TH := hid (run_there (q := (qn, qf, qt)) hz)
      have HZ : Hid (Blk W2 M 61 (runL (qn, qf, qt))) := hid (by rw [hW2]; exact row_set hz rfl)
      have HK2 := hid (HK.out.trans KW.out (fun _ _ h => h))
      unfold maxLen at hm
      obtain ⟨fs, hfs⟩ := under_run
      clear hz hcell hq
      go_upto_region 6 with (first
        | (refine wpList_load_mid (by rfl) 61 (.tmp 13) (by rfl) blk (off + k * 3) (by rfl) (runL (qn, qf, qt)) _ HR.out hfs rfl (run_infoL (qn, qf, qt)) ?_)
        | (refine wpList_store_mid (by rfl) 61 (.tmp 8) (.tmp 14) (by rfl) M 0 (runL (qn, qf, qt)).toArray (by rfl) (by rfl) TH.out (run_infoA (qn, qf, qt)) (run_one (qn, qf, qt)) ?_))
      rw [show (wr.alloc (.cells #[.int .i64 0, .int .i64 0, .int .i64 0] 61)).setCells M 0 (runL (qn, qf, qt)) = W2 from hW2.symm]
      clear hW2 TH hM
      have c0 : W2.cell? ⟨M, 0, none⟩ = some (.int .i64 qn) := HZ.out.cell 0
      have c1 : W2.cell? ⟨M, 1, none⟩ = some (.int .i64 qf) := HZ.out.cell 1
      have c2 : W2.cell? ⟨M, 2, none⟩ = some (.int .i64 qt) := HZ.out.cell 2
      have HC : Hid (k < c.length) := hid (by rw [HLE.out]; exact hlt)
      have HX := hid (HG.out _ (runAt_mem HC.out))
      rw [HQ.out] at HX
      have gx := goodR_of.1 HX.out
      have gr := goodR_of.1 HGD.out.2
      dsimp only at gx gr
      have HO2 := hid (ownsRow_kpD HO.out KW.out)
      have HBN2 := hid (HBN.out.kept KW.out (fun h => h))
      have HMN : Hid (N + 1 ≤ M ∧ w.heap.size = N) := hid (by have := HBN.out.lt; have := HMW.out; have := HNE.out; omega)
      have HSN : Hid ((c.take (k + 1)).foldl addS ([], false, (zn, zf, zt)) = addS (out, done, (rn, rf, rt)) (qn, qf, qt)) := hid (by
        rw [take_snocR c k HC.out, List.foldl_append, List.foldl_cons, List.foldl_nil, ← HSE.out, HQ.out])
      have w1 : IntKind.i64.wrap (rt + 1) = rt + 1 := IntWalk.i64_in _ (by omega)
      have w2 : IntKind.i64.wrap (qt + 1) = qt + 1 := IntWalk.i64_in _ (by omega)
      have e0 : W2.cell? ⟨N, 0, none⟩ = some (.int .i64 rn) := HBN2.out.cell 0
      have e1 : W2.cell? ⟨N, 1, none⟩ = some (.int .i64 rf) := HBN2.out.cell 1
      have e2 : W2.cell? ⟨N, 2, none⟩ = some (.int .i64 rt) := HBN2.out.cell 2
      have f1 : W2.frozen? ⟨N, 1, none⟩ = false := HBN2.out.frozen 1
      have f2 : W2.frozen? ⟨N, 2, none⟩ = false := HBN2.out.frozen 2
      obtain ⟨i0, zz, hi, hz0, hz1, hz2, hz3⟩ := run_info3
      have HMX := HMW
      have HOW := HO
      clear HK HR HSE KW HMW HO HBN
      have RM := hid (range_ofR HZ.out)
      have RN := hid (range_ofR HBN2.out)
      have HMS : Hid (wr.heap.size ≤ M) := hid (by have := HMX.out; omega)
      by_cases h1 : qn = rn
      · subst h1
        by_cases h2 : qf ≤ rt + 1
        · by_cases h3 : rf ≤ qt + 1
          · by_cases h4 : qf < rf
            · by_cases h5 : qt > rt
              · skip
                have HST : Hid (addS (out, done, (qn, rf, rt)) (qn, qf, qt) = (out, done, (qn, qf, qt))) := hid (by
                  unfold addS
                  rw [if_pos (by unfold tchB; simp; omega)]
                  unfold mrgR
                  dsimp only
                  rw [show min qf rf = qf by omega, show max qt rt = qt by omega])
                obtain ⟨W7, hW7⟩ : ∃ X, X = ((W2.setCell ⟨N, 1, none⟩ (.int .i64 qf)).setCell ⟨N, 2, none⟩ (.int .i64 qt)) := ⟨_, rfl⟩
                have k7 : Kp (Jb N) W2 W7 := by rw [hW7]; exact Kp.set (Kp.set (Kp.refl _ _) 1 _) 2 _
                have HN7 : Hid (Blk W7 N 61 (runL (qn, qf, qt))) := hid (by rw [hW7]; exact (HBN2.out.set1).set2)
                have HO7 : Hid (W7.ownsRow (N + 1) 61 3 (.slice a5 out.length c5) out.length (flatR runL out)) := hid (ownsRow_kpA HO2.out k7 (Nat.lt_succ_self N))
                have K7 : Hid (Kp Nb w W7) := hid (HK2.out.trans k7 (fun i hi hs => by have hs : i = N := hs; have := HMN.out; omega))
                clear k7
                go_wp2
                rw [← hW7]
                go_roundw
                case rel => exact ⟨k + 1, (out, done, (qn, qf, qt)), by rw [HLE.out]; omega, by go_num, rfl, hid (by rw [HSN.out, HST.out]), hid (by have := HLN.out; exact ⟨by dsimp only; omega, fun h => by have := this.2 (by first | exact h | trivial); dsimp only; omega⟩), hid ⟨HGD.out.1, by have h := mrg_good HX.out HGD.out.2; unfold mrgR at h; dsimp only at h; rwa [show min qf rf = qf by omega, show max qt rt = qt by omega] at h⟩, HO7, HN7, K7⟩
                case measure => simp [intOf]; omega
              · skip
                have HST : Hid (addS (out, done, (qn, rf, rt)) (qn, qf, qt) = (out, done, (qn, qf, rt))) := hid (by
                  unfold addS
                  rw [if_pos (by unfold tchB; simp; omega)]
                  unfold mrgR
                  dsimp only
                  rw [show min qf rf = qf by omega, show max qt rt = rt by omega])
                obtain ⟨W7, hW7⟩ : ∃ X, X = (W2.setCell ⟨N, 1, none⟩ (.int .i64 qf)) := ⟨_, rfl⟩
                have k7 : Kp (Jb N) W2 W7 := by rw [hW7]; exact Kp.set (Kp.refl _ _) 1 _
                have HN7 : Hid (Blk W7 N 61 (runL (qn, qf, rt))) := hid (by rw [hW7]; exact HBN2.out.set1)
                have HO7 : Hid (W7.ownsRow (N + 1) 61 3 (.slice a5 out.length c5) out.length (flatR runL out)) := hid (ownsRow_kpA HO2.out k7 (Nat.lt_succ_self N))
                have K7 : Hid (Kp Nb w W7) := hid (HK2.out.trans k7 (fun i hi hs => by have hs : i = N := hs; have := HMN.out; omega))
                clear k7
                go_wp2
                rw [← hW7]
                go_roundw
                case rel => exact ⟨k + 1, (out, done, (qn, qf, rt)), by rw [HLE.out]; omega, by go_num, rfl, hid (by rw [HSN.out, HST.out]), hid (by have := HLN.out; exact ⟨by dsimp only; omega, fun h => by have := this.2 (by first | exact h | trivial); dsimp only; omega⟩), hid ⟨HGD.out.1, by have h := mrg_good HX.out HGD.out.2; unfold mrgR at h; dsimp only at h; rwa [show min qf rf = qf by omega, show max qt rt = rt by omega] at h⟩, HO7, HN7, K7⟩
                case measure => simp [intOf]; omega
            · by_cases h5 : qt > rt
              · skip
                have HST : Hid (addS (out, done, (qn, rf, rt)) (qn, qf, qt) = (out, done, (qn, rf, qt))) := hid (by
                  unfold addS
                  rw [if_pos (by unfold tchB; simp; omega)]
                  unfold mrgR
                  dsimp only
                  rw [show min qf rf = rf by omega, show max qt rt = qt by omega])
                obtain ⟨W7, hW7⟩ : ∃ X, X = (W2.setCell ⟨N, 2, none⟩ (.int .i64 qt)) := ⟨_, rfl⟩
                have k7 : Kp (Jb N) W2 W7 := by rw [hW7]; exact Kp.set (Kp.refl _ _) 2 _
                have HN7 : Hid (Blk W7 N 61 (runL (qn, rf, qt))) := hid (by rw [hW7]; exact HBN2.out.set2)
                have HO7 : Hid (W7.ownsRow (N + 1) 61 3 (.slice a5 out.length c5) out.length (flatR runL out)) := hid (ownsRow_kpA HO2.out k7 (Nat.lt_succ_self N))
                have K7 : Hid (Kp Nb w W7) := hid (HK2.out.trans k7 (fun i hi hs => by have hs : i = N := hs; have := HMN.out; omega))
                clear k7
                go_wp2
                rw [← hW7]
                go_roundw
                case rel => exact ⟨k + 1, (out, done, (qn, rf, qt)), by rw [HLE.out]; omega, by go_num, rfl, hid (by rw [HSN.out, HST.out]), hid (by have := HLN.out; exact ⟨by dsimp only; omega, fun h => by have := this.2 (by first | exact h | trivial); dsimp only; omega⟩), hid ⟨HGD.out.1, by have h := mrg_good HX.out HGD.out.2; unfold mrgR at h; dsimp only at h; rwa [show min qf rf = rf by omega, show max qt rt = qt by omega] at h⟩, HO7, HN7, K7⟩
                case measure => simp [intOf]; omega
              · skip
                have HST : Hid (addS (out, done, (qn, rf, rt)) (qn, qf, qt) = (out, done, (qn, rf, rt))) := hid (by
                  unfold addS
                  rw [if_pos (by unfold tchB; simp; omega)]
                  unfold mrgR
                  dsimp only
                  rw [show min qf rf = rf by omega, show max qt rt = rt by omega])
                obtain ⟨W7, hW7⟩ : ∃ X, X = W2 := ⟨_, rfl⟩
                have k7 : Kp (Jb N) W2 W7 := by rw [hW7]; exact Kp.refl _ _
                have HN7 : Hid (Blk W7 N 61 (runL (qn, rf, rt))) := hid (by rw [hW7]; exact HBN2.out)
                have HO7 : Hid (W7.ownsRow (N + 1) 61 3 (.slice a5 out.length c5) out.length (flatR runL out)) := hid (ownsRow_kpA HO2.out k7 (Nat.lt_succ_self N))
                have K7 : Hid (Kp Nb w W7) := hid (HK2.out.trans k7 (fun i hi hs => by have hs : i = N := hs; have := HMN.out; omega))
                clear k7
                go_wp2
                rw [← hW7]
                go_roundw
                case rel => exact ⟨k + 1, (out, done, (qn, rf, rt)), by rw [HLE.out]; omega, by go_num, rfl, hid (by rw [HSN.out, HST.out]), hid (by have := HLN.out; exact ⟨by dsimp only; omega, fun h => by have := this.2 (by first | exact h | trivial); dsimp only; omega⟩), hid ⟨HGD.out.1, by have h := mrg_good HX.out HGD.out.2; unfold mrgR at h; dsimp only at h; rwa [show min qf rf = rf by omega, show max qt rt = rt by omega] at h⟩, HO7, HN7, K7⟩
                case measure => simp [intOf]; omega
          · cases done with
            | true =>
              have HST : Hid (addS (out, true, (qn, rf, rt)) (qn, qf, qt) = (out ++ [(qn, qf, qt)], true, (qn, rf, rt))) := hid (by unfold addS; rw [if_neg (by unfold tchB; simp; omega), if_neg (by unfold aftB; simp)])
              have MK9 := hid (make_run1 W2 qn qf qt)
              have B9 : Hid (out.length + [(qn, qf, qt)].length ≤ maxLen ∧ (out.length + [(qn, qf, qt)].length) * 24 ≤ 140737488355328 ∧ N + 1 ≤ (W2.alloc (.cells #[.int .i64 qn, .int .i64 qf, .int .i64 qt] 61 (0, 0))).heap.size) := hid (by
                have h2 := ((Kp.refl Nb W2).alloc (.cells #[.int .i64 qn, .int .i64 qf, .int .i64 qt] 61 (0, 0))).size
                have h3 := HLN.out.1
                have h5 := HBN2.out.lt
                refine ⟨?_, ?_, by omega⟩ <;> rw [List.length_singleton]
                · unfold maxLen; omega
                · omega)
              go_upto_region 14 with fail
              go_wp2_with (first
                | (refine wpList_load_mid (by rfl) 61 (.tmp 8) (by rfl) M 0 (by rfl) (runL (qn, qf, qt)) _ RM.out hfs rfl (run_infoL (qn, qf, qt)) ?_)
                | (refine wpList_val (by rfl) _ _ (exec_buildSliceD rfl (qs := #[(0, .agg #[.int .i64 qn, .int .i64 qf, .int .i64 qt])]) (by simp [Act.eval, Act.put]) MK9.out) ?_)
                | (at_builtin; refine wpList_append_rows (f := runL) (z := (0, 0, 0)) (c := 3) rfl _ _ 23 rfl (N + 1) 61 i0 zz 24 under_clock hi hz0 hz1 hz2 hz3 (by decide) _ _ _ rfl (ownsRow_kpD HO2.out ((Kp.refl Nb _).alloc _)) _ [(qn, qf, qt)] rfl (rows_oneR (Blk.new _ _ _)) (fun x hx => rfl) (fun x _ => run_one' x) B9.out.1 B9.out.2.1 B9.out.2.2 ?_))
              intro v9 w9 hown hgrow
              have K9 : Hid (Kp Nb w w9) := hid ((HK2.out.trans ((Kp.refl Nb W2).alloc (.cells #[.int .i64 qn, .int .i64 qf, .int .i64 qt] 61 (0, 0))) (fun _ _ h => h)).grown hgrow (fun g hg h => by have := (row_cells HO2.out hg).1; have := HMN.out; omega))
              have HN9 : Hid (Blk w9 N 61 (runL (qn, rf, rt))) := hid ((hgrow.block N (HBN2.out.alloc _).lt (fun h => by have := (row_cells HO2.out h.symm).1; omega)).trans (HBN2.out.alloc _))
              have HO9 : Hid (w9.ownsRow (N + 1) 61 3 v9 (out.length + 1) (flatR runL (out ++ [(qn, qf, qt)]))) := hid (by rw [flatR_append]; exact hown)
              obtain ⟨a9, c9, rfl⟩ := own_shape HO9.out
              clear hown hgrow
              clear c0 c1 c2 e0 e1 e2 f1 f2
              go_wp2
              go_roundw
              case rel => exact ⟨k + 1, (out ++ [(qn, qf, qt)], true, (qn, rf, rt)), by rw [HLE.out]; omega, by go_num, rfl, hid (by rw [HSN.out, HST.out]), hid (by rw [List.length_append, List.length_singleton]; have := HLN.out; exact ⟨by omega, fun h => by have := this.2 (by first | exact h | trivial); omega⟩), hid ⟨fun q hq => (List.mem_append.1 hq).elim (HGD.out.1 q) (fun h => by rw [List.mem_singleton.1 h]; exact HX.out), HGD.out.2⟩, hid (by have h := HO9.out; simp only [List.length_append, List.length_singleton]; exact h), HN9, K9⟩
              case measure => simp [intOf]; omega
            | false =>
              have HST : Hid (addS (out, false, (qn, rf, rt)) (qn, qf, qt) = (out ++ [(qn, qf, qt)], false, (qn, rf, rt))) := hid (by unfold addS; rw [if_neg (by unfold tchB; simp; omega), if_neg (by unfold aftB; simp; omega)])
              have MK9 := hid (make_run1 W2 qn qf qt)
              have B9 : Hid (out.length + [(qn, qf, qt)].length ≤ maxLen ∧ (out.length + [(qn, qf, qt)].length) * 24 ≤ 140737488355328 ∧ N + 1 ≤ (W2.alloc (.cells #[.int .i64 qn, .int .i64 qf, .int .i64 qt] 61 (0, 0))).heap.size) := hid (by
                have h2 := ((Kp.refl Nb W2).alloc (.cells #[.int .i64 qn, .int .i64 qf, .int .i64 qt] 61 (0, 0))).size
                have h3 := HLN.out.1
                have h5 := HBN2.out.lt
                refine ⟨?_, ?_, by omega⟩ <;> rw [List.length_singleton]
                · unfold maxLen; omega
                · omega)
              go_upto_region 14 with fail
              go_wp2_with (first
                | (refine wpList_load_mid (by rfl) 61 (.tmp 8) (by rfl) M 0 (by rfl) (runL (qn, qf, qt)) _ RM.out hfs rfl (run_infoL (qn, qf, qt)) ?_)
                | (refine wpList_val (by rfl) _ _ (exec_buildSliceD rfl (qs := #[(0, .agg #[.int .i64 qn, .int .i64 qf, .int .i64 qt])]) (by simp [Act.eval, Act.put]) MK9.out) ?_)
                | (at_builtin; refine wpList_append_rows (f := runL) (z := (0, 0, 0)) (c := 3) rfl _ _ 23 rfl (N + 1) 61 i0 zz 24 under_clock hi hz0 hz1 hz2 hz3 (by decide) _ _ _ rfl (ownsRow_kpD HO2.out ((Kp.refl Nb _).alloc _)) _ [(qn, qf, qt)] rfl (rows_oneR (Blk.new _ _ _)) (fun x hx => rfl) (fun x _ => run_one' x) B9.out.1 B9.out.2.1 B9.out.2.2 ?_))
              intro v9 w9 hown hgrow
              have K9 : Hid (Kp Nb w w9) := hid ((HK2.out.trans ((Kp.refl Nb W2).alloc (.cells #[.int .i64 qn, .int .i64 qf, .int .i64 qt] 61 (0, 0))) (fun _ _ h => h)).grown hgrow (fun g hg h => by have := (row_cells HO2.out hg).1; have := HMN.out; omega))
              have HN9 : Hid (Blk w9 N 61 (runL (qn, rf, rt))) := hid ((hgrow.block N (HBN2.out.alloc _).lt (fun h => by have := (row_cells HO2.out h.symm).1; omega)).trans (HBN2.out.alloc _))
              have HO9 : Hid (w9.ownsRow (N + 1) 61 3 v9 (out.length + 1) (flatR runL (out ++ [(qn, qf, qt)]))) := hid (by rw [flatR_append]; exact hown)
              obtain ⟨a9, c9, rfl⟩ := own_shape HO9.out
              clear hown hgrow
              clear c0 c1 c2 e0 e1 e2 f1 f2
              go_wp2
              go_roundw
              case rel => exact ⟨k + 1, (out ++ [(qn, qf, qt)], false, (qn, rf, rt)), by rw [HLE.out]; omega, by go_num, rfl, hid (by rw [HSN.out, HST.out]), hid (by rw [List.length_append, List.length_singleton]; have := HLN.out; exact ⟨by omega, fun h => by have := this.2 (by first | exact h | trivial); omega⟩), hid ⟨fun q hq => (List.mem_append.1 hq).elim (HGD.out.1 q) (fun h => by rw [List.mem_singleton.1 h]; exact HX.out), HGD.out.2⟩, hid (by have h := HO9.out; simp only [List.length_append, List.length_singleton]; exact h), HN9, K9⟩
              case measure => simp [intOf]; omega
        · cases done with
          | true =>
            have HST : Hid (addS (out, true, (qn, rf, rt)) (qn, qf, qt) = (out ++ [(qn, qf, qt)], true, (qn, rf, rt))) := hid (by unfold addS; rw [if_neg (by unfold tchB; simp; omega), if_neg (by unfold aftB; simp)])
            have MK9 := hid (make_run1 W2 qn qf qt)
            have B9 : Hid (out.length + [(qn, qf, qt)].length ≤ maxLen ∧ (out.length + [(qn, qf, qt)].length) * 24 ≤ 140737488355328 ∧ N + 1 ≤ (W2.alloc (.cells #[.int .i64 qn, .int .i64 qf, .int .i64 qt] 61 (0, 0))).heap.size) := hid (by
              have h2 := ((Kp.refl Nb W2).alloc (.cells #[.int .i64 qn, .int .i64 qf, .int .i64 qt] 61 (0, 0))).size
              have h3 := HLN.out.1
              have h5 := HBN2.out.lt
              refine ⟨?_, ?_, by omega⟩ <;> rw [List.length_singleton]
              · unfold maxLen; omega
              · omega)
            go_upto_region 14 with fail
            go_wp2_with (first
              | (refine wpList_load_mid (by rfl) 61 (.tmp 8) (by rfl) M 0 (by rfl) (runL (qn, qf, qt)) _ RM.out hfs rfl (run_infoL (qn, qf, qt)) ?_)
              | (refine wpList_val (by rfl) _ _ (exec_buildSliceD rfl (qs := #[(0, .agg #[.int .i64 qn, .int .i64 qf, .int .i64 qt])]) (by simp [Act.eval, Act.put]) MK9.out) ?_)
              | (at_builtin; refine wpList_append_rows (f := runL) (z := (0, 0, 0)) (c := 3) rfl _ _ 23 rfl (N + 1) 61 i0 zz 24 under_clock hi hz0 hz1 hz2 hz3 (by decide) _ _ _ rfl (ownsRow_kpD HO2.out ((Kp.refl Nb _).alloc _)) _ [(qn, qf, qt)] rfl (rows_oneR (Blk.new _ _ _)) (fun x hx => rfl) (fun x _ => run_one' x) B9.out.1 B9.out.2.1 B9.out.2.2 ?_))
            intro v9 w9 hown hgrow
            have K9 : Hid (Kp Nb w w9) := hid ((HK2.out.trans ((Kp.refl Nb W2).alloc (.cells #[.int .i64 qn, .int .i64 qf, .int .i64 qt] 61 (0, 0))) (fun _ _ h => h)).grown hgrow (fun g hg h => by have := (row_cells HO2.out hg).1; have := HMN.out; omega))
            have HN9 : Hid (Blk w9 N 61 (runL (qn, rf, rt))) := hid ((hgrow.block N (HBN2.out.alloc _).lt (fun h => by have := (row_cells HO2.out h.symm).1; omega)).trans (HBN2.out.alloc _))
            have HO9 : Hid (w9.ownsRow (N + 1) 61 3 v9 (out.length + 1) (flatR runL (out ++ [(qn, qf, qt)]))) := hid (by rw [flatR_append]; exact hown)
            obtain ⟨a9, c9, rfl⟩ := own_shape HO9.out
            clear hown hgrow
            clear c0 c1 c2 e0 e1 e2 f1 f2
            go_wp2
            go_roundw
            case rel => exact ⟨k + 1, (out ++ [(qn, qf, qt)], true, (qn, rf, rt)), by rw [HLE.out]; omega, by go_num, rfl, hid (by rw [HSN.out, HST.out]), hid (by rw [List.length_append, List.length_singleton]; have := HLN.out; exact ⟨by omega, fun h => by have := this.2 (by first | exact h | trivial); omega⟩), hid ⟨fun q hq => (List.mem_append.1 hq).elim (HGD.out.1 q) (fun h => by rw [List.mem_singleton.1 h]; exact HX.out), HGD.out.2⟩, hid (by have h := HO9.out; simp only [List.length_append, List.length_singleton]; exact h), HN9, K9⟩
            case measure => simp [intOf]; omega
          | false =>
            have HST : Hid (addS (out, false, (qn, rf, rt)) (qn, qf, qt) = (out ++ [(qn, rf, rt)] ++ [(qn, qf, qt)], true, (qn, rf, rt))) := hid (by unfold addS; rw [if_neg (by unfold tchB; simp; omega), if_pos (by unfold aftB; simp; omega)])
            have HMZ : Hid (wr.heap.size ≤ M ∧ M < W2.heap.size) := hid ⟨HMS.out, HZ.out.lt⟩
            have HO := HOW
            have MK8 := hid (make_run1 W2 qn rf rt)
            have B8 : Hid (out.length + [(qn, rf, rt)].length ≤ maxLen ∧ (out.length + [(qn, rf, rt)].length) * 24 ≤ 140737488355328 ∧ N + 1 ≤ (W2.alloc (.cells #[.int .i64 qn, .int .i64 rf, .int .i64 rt] 61 (0, 0))).heap.size) := hid (by
              have h2 := ((Kp.refl Nb W2).alloc (.cells #[.int .i64 qn, .int .i64 rf, .int .i64 rt] 61 (0, 0))).size
              have h3 := HLN.out.1
              have h5 := HBN2.out.lt
              refine ⟨?_, ?_, by omega⟩ <;> rw [List.length_singleton]
              · unfold maxLen; omega
              · omega)
            go_upto_region 12 with fail
            go_wp2_with (first
              | (refine wpList_load_mid (by rfl) 61 (.tmp 3) (by rfl) N 0 (by rfl) (runL (qn, rf, rt)) _ RN.out hfs rfl (run_infoL (qn, rf, rt)) ?_)
              | (refine wpList_val (by rfl) _ _ (exec_buildSliceD rfl (qs := #[(0, .agg #[.int .i64 qn, .int .i64 rf, .int .i64 rt])]) (by simp [Act.eval, Act.put]) MK8.out) ?_)
              | (at_builtin; refine wpList_append_rows (f := runL) (z := (0, 0, 0)) (c := 3) rfl _ _ 23 rfl (N + 1) 61 i0 zz 24 under_clock hi hz0 hz1 hz2 hz3 (by decide) _ _ _ rfl (ownsRow_kpD HO2.out ((Kp.refl Nb _).alloc _)) _ [(qn, rf, rt)] rfl (rows_oneR (Blk.new _ _ _)) (fun x hx => rfl) (fun x _ => run_one' x) B8.out.1 B8.out.2.1 B8.out.2.2 ?_))
            intro v8 w8 hown hgrow
            have K8 : Hid (Kp Nb w w8) := hid ((HK2.out.trans ((Kp.refl Nb W2).alloc (.cells #[.int .i64 qn, .int .i64 rf, .int .i64 rt] 61 (0, 0))) (fun _ _ h => h)).grown hgrow (fun g hg h => by have := (row_cells HO2.out hg).1; have := HMN.out; omega))
            have HN8 : Hid (Blk w8 N 61 (runL (qn, rf, rt))) := hid ((hgrow.block N (HBN2.out.alloc _).lt (fun h => by have := (row_cells HO2.out h.symm).1; omega)).trans (HBN2.out.alloc _))
            have HO8 : Hid (w8.ownsRow (N + 1) 61 3 v8 (out.length + 1) (flatR runL (out ++ [(qn, rf, rt)]))) := hid (by rw [flatR_append]; exact hown)
            have HM8 : Hid (Blk w8 M 61 (runL (qn, qf, qt))) := hid ((hgrow.block M (HZ.out.alloc _).lt (fun h => by obtain ⟨-, o, ho, -⟩ := row_cells HO.out h.symm; have := (Array.getElem?_eq_some_iff.1 ho).1; have := HMZ.out; omega)).trans (HZ.out.alloc _))
            obtain ⟨a8, c8, rfl⟩ := own_shape HO8.out
            clear hown hgrow
            have RM8 := hid (range_ofR HM8.out)
            clear c0 c1 c2 e0 e1 e2 f1 f2
            have MK9 := hid (make_run1 w8 qn qf qt)
            have B9 : Hid ((out.length + 1) + [(qn, qf, qt)].length ≤ maxLen ∧ ((out.length + 1) + [(qn, qf, qt)].length) * 24 ≤ 140737488355328 ∧ N + 1 ≤ (w8.alloc (.cells #[.int .i64 qn, .int .i64 qf, .int .i64 qt] 61 (0, 0))).heap.size) := hid (by
              have h2 := ((Kp.refl Nb w8).alloc (.cells #[.int .i64 qn, .int .i64 qf, .int .i64 qt] 61 (0, 0))).size
              have h3 := HLN.out.1
              have h5 := HN8.out.lt
              refine ⟨?_, ?_, by omega⟩ <;> rw [List.length_singleton]
              · unfold maxLen; omega
              · omega)
            go_upto_region 14 with fail
            go_wp2_with (first
              | (refine wpList_load_mid (by rfl) 61 (.tmp 8) (by rfl) M 0 (by rfl) (runL (qn, qf, qt)) _ RM8.out hfs rfl (run_infoL (qn, qf, qt)) ?_)
              | (refine wpList_val (by rfl) _ _ (exec_buildSliceD rfl (qs := #[(0, .agg #[.int .i64 qn, .int .i64 qf, .int .i64 qt])]) (by simp [Act.eval, Act.put]) MK9.out) ?_)
              | (at_builtin; refine wpList_append_rows (f := runL) (z := (0, 0, 0)) (c := 3) rfl _ _ 23 rfl (N + 1) 61 i0 zz 24 under_clock hi hz0 hz1 hz2 hz3 (by decide) _ _ _ rfl (ownsRow_kpD HO8.out ((Kp.refl Nb _).alloc _)) _ [(qn, qf, qt)] rfl (rows_oneR (Blk.new _ _ _)) (fun x hx => rfl) (fun x _ => run_one' x) B9.out.1 B9.out.2.1 B9.out.2.2 ?_))
            intro v9 w9 hown hgrow
            have K9 : Hid (Kp Nb w w9) := hid ((K8.out.trans ((Kp.refl Nb w8).alloc (.cells #[.int .i64 qn, .int .i64 qf, .int .i64 qt] 61 (0, 0))) (fun _ _ h => h)).grown hgrow (fun g hg h => by have := (row_cells HO8.out hg).1; have := HMN.out; omega))
            have HN9 : Hid (Blk w9 N 61 (runL (qn, rf, rt))) := hid ((hgrow.block N (HN8.out.alloc _).lt (fun h => by have := (row_cells HO8.out h.symm).1; omega)).trans (HN8.out.alloc _))
            have HO9 : Hid (w9.ownsRow (N + 1) 61 3 v9 ((out.length + 1) + 1) (flatR runL ((out ++ [(qn, rf, rt)]) ++ [(qn, qf, qt)]))) := hid (by rw [flatR_append]; exact hown)
            obtain ⟨a9, c9, rfl⟩ := own_shape HO9.out
            clear hown hgrow
            go_wp2
            go_roundw
            case rel => exact ⟨k + 1, (out ++ [(qn, rf, rt)] ++ [(qn, qf, qt)], true, (qn, rf, rt)), by rw [HLE.out]; omega, by go_num, rfl, hid (by rw [HSN.out, HST.out]), hid (by rw [List.length_append, List.length_append, List.length_singleton, List.length_singleton]; have := HLN.out.2 (by first | exact rfl | trivial); exact ⟨by omega, fun h => by cases h⟩), hid ⟨fun q hq => (List.mem_append.1 hq).elim (fun h => (List.mem_append.1 h).elim (HGD.out.1 q) (fun h => by rw [List.mem_singleton.1 h]; exact HGD.out.2)) (fun h => by rw [List.mem_singleton.1 h]; exact HX.out), HGD.out.2⟩, hid (by have h := HO9.out; simp only [List.length_append, List.length_singleton]; exact h), HN9, K9⟩
            case measure => simp [intOf]; omega
      · cases done with
        | true =>
          have HST : Hid (addS (out, true, (rn, rf, rt)) (qn, qf, qt) = (out ++ [(qn, qf, qt)], true, (rn, rf, rt))) := hid (by unfold addS; rw [if_neg (by unfold tchB; simp; omega), if_neg (by unfold aftB; simp)])
          have MK9 := hid (make_run1 W2 qn qf qt)
          have B9 : Hid (out.length + [(qn, qf, qt)].length ≤ maxLen ∧ (out.length + [(qn, qf, qt)].length) * 24 ≤ 140737488355328 ∧ N + 1 ≤ (W2.alloc (.cells #[.int .i64 qn, .int .i64 qf, .int .i64 qt] 61 (0, 0))).heap.size) := hid (by
            have h2 := ((Kp.refl Nb W2).alloc (.cells #[.int .i64 qn, .int .i64 qf, .int .i64 qt] 61 (0, 0))).size
            have h3 := HLN.out.1
            have h5 := HBN2.out.lt
            refine ⟨?_, ?_, by omega⟩ <;> rw [List.length_singleton]
            · unfold maxLen; omega
            · omega)
          go_upto_region 14 with fail
          go_wp2_with (first
            | (refine wpList_load_mid (by rfl) 61 (.tmp 8) (by rfl) M 0 (by rfl) (runL (qn, qf, qt)) _ RM.out hfs rfl (run_infoL (qn, qf, qt)) ?_)
            | (refine wpList_val (by rfl) _ _ (exec_buildSliceD rfl (qs := #[(0, .agg #[.int .i64 qn, .int .i64 qf, .int .i64 qt])]) (by simp [Act.eval, Act.put]) MK9.out) ?_)
            | (at_builtin; refine wpList_append_rows (f := runL) (z := (0, 0, 0)) (c := 3) rfl _ _ 23 rfl (N + 1) 61 i0 zz 24 under_clock hi hz0 hz1 hz2 hz3 (by decide) _ _ _ rfl (ownsRow_kpD HO2.out ((Kp.refl Nb _).alloc _)) _ [(qn, qf, qt)] rfl (rows_oneR (Blk.new _ _ _)) (fun x hx => rfl) (fun x _ => run_one' x) B9.out.1 B9.out.2.1 B9.out.2.2 ?_))
          intro v9 w9 hown hgrow
          have K9 : Hid (Kp Nb w w9) := hid ((HK2.out.trans ((Kp.refl Nb W2).alloc (.cells #[.int .i64 qn, .int .i64 qf, .int .i64 qt] 61 (0, 0))) (fun _ _ h => h)).grown hgrow (fun g hg h => by have := (row_cells HO2.out hg).1; have := HMN.out; omega))
          have HN9 : Hid (Blk w9 N 61 (runL (rn, rf, rt))) := hid ((hgrow.block N (HBN2.out.alloc _).lt (fun h => by have := (row_cells HO2.out h.symm).1; omega)).trans (HBN2.out.alloc _))
          have HO9 : Hid (w9.ownsRow (N + 1) 61 3 v9 (out.length + 1) (flatR runL (out ++ [(qn, qf, qt)]))) := hid (by rw [flatR_append]; exact hown)
          obtain ⟨a9, c9, rfl⟩ := own_shape HO9.out
          clear hown hgrow
          clear c0 c1 c2 e0 e1 e2 f1 f2
          go_wp2
          go_roundw
          case rel => exact ⟨k + 1, (out ++ [(qn, qf, qt)], true, (rn, rf, rt)), by rw [HLE.out]; omega, by go_num, rfl, hid (by rw [HSN.out, HST.out]), hid (by rw [List.length_append, List.length_singleton]; have := HLN.out; exact ⟨by omega, fun h => by have := this.2 (by first | exact h | trivial); omega⟩), hid ⟨fun q hq => (List.mem_append.1 hq).elim (HGD.out.1 q) (fun h => by rw [List.mem_singleton.1 h]; exact HX.out), HGD.out.2⟩, hid (by have h := HO9.out; simp only [List.length_append, List.length_singleton]; exact h), HN9, K9⟩
          case measure => simp [intOf]; omega
        | false =>
          by_cases h6 : rn < qn
          · skip
            have HST : Hid (addS (out, false, (rn, rf, rt)) (qn, qf, qt) = (out ++ [(rn, rf, rt)] ++ [(qn, qf, qt)], true, (rn, rf, rt))) := hid (by unfold addS; rw [if_neg (by unfold tchB; simp; omega), if_pos (by unfold aftB; simp; omega)])
            have HMZ : Hid (wr.heap.size ≤ M ∧ M < W2.heap.size) := hid ⟨HMS.out, HZ.out.lt⟩
            have HO := HOW
            have MK8 := hid (make_run1 W2 rn rf rt)
            have B8 : Hid (out.length + [(rn, rf, rt)].length ≤ maxLen ∧ (out.length + [(rn, rf, rt)].length) * 24 ≤ 140737488355328 ∧ N + 1 ≤ (W2.alloc (.cells #[.int .i64 rn, .int .i64 rf, .int .i64 rt] 61 (0, 0))).heap.size) := hid (by
              have h2 := ((Kp.refl Nb W2).alloc (.cells #[.int .i64 rn, .int .i64 rf, .int .i64 rt] 61 (0, 0))).size
              have h3 := HLN.out.1
              have h5 := HBN2.out.lt
              refine ⟨?_, ?_, by omega⟩ <;> rw [List.length_singleton]
              · unfold maxLen; omega
              · omega)
            go_upto_region 12 with fail
            go_wp2_with (first
              | (refine wpList_load_mid (by rfl) 61 (.tmp 3) (by rfl) N 0 (by rfl) (runL (rn, rf, rt)) _ RN.out hfs rfl (run_infoL (rn, rf, rt)) ?_)
              | (refine wpList_val (by rfl) _ _ (exec_buildSliceD rfl (qs := #[(0, .agg #[.int .i64 rn, .int .i64 rf, .int .i64 rt])]) (by simp [Act.eval, Act.put]) MK8.out) ?_)
              | (at_builtin; refine wpList_append_rows (f := runL) (z := (0, 0, 0)) (c := 3) rfl _ _ 23 rfl (N + 1) 61 i0 zz 24 under_clock hi hz0 hz1 hz2 hz3 (by decide) _ _ _ rfl (ownsRow_kpD HO2.out ((Kp.refl Nb _).alloc _)) _ [(rn, rf, rt)] rfl (rows_oneR (Blk.new _ _ _)) (fun x hx => rfl) (fun x _ => run_one' x) B8.out.1 B8.out.2.1 B8.out.2.2 ?_))
            intro v8 w8 hown hgrow
            have K8 : Hid (Kp Nb w w8) := hid ((HK2.out.trans ((Kp.refl Nb W2).alloc (.cells #[.int .i64 rn, .int .i64 rf, .int .i64 rt] 61 (0, 0))) (fun _ _ h => h)).grown hgrow (fun g hg h => by have := (row_cells HO2.out hg).1; have := HMN.out; omega))
            have HN8 : Hid (Blk w8 N 61 (runL (rn, rf, rt))) := hid ((hgrow.block N (HBN2.out.alloc _).lt (fun h => by have := (row_cells HO2.out h.symm).1; omega)).trans (HBN2.out.alloc _))
            have HO8 : Hid (w8.ownsRow (N + 1) 61 3 v8 (out.length + 1) (flatR runL (out ++ [(rn, rf, rt)]))) := hid (by rw [flatR_append]; exact hown)
            have HM8 : Hid (Blk w8 M 61 (runL (qn, qf, qt))) := hid ((hgrow.block M (HZ.out.alloc _).lt (fun h => by obtain ⟨-, o, ho, -⟩ := row_cells HO.out h.symm; have := (Array.getElem?_eq_some_iff.1 ho).1; have := HMZ.out; omega)).trans (HZ.out.alloc _))
            obtain ⟨a8, c8, rfl⟩ := own_shape HO8.out
            clear hown hgrow
            have RM8 := hid (range_ofR HM8.out)
            clear c0 c1 c2 e0 e1 e2 f1 f2
            have MK9 := hid (make_run1 w8 qn qf qt)
            have B9 : Hid ((out.length + 1) + [(qn, qf, qt)].length ≤ maxLen ∧ ((out.length + 1) + [(qn, qf, qt)].length) * 24 ≤ 140737488355328 ∧ N + 1 ≤ (w8.alloc (.cells #[.int .i64 qn, .int .i64 qf, .int .i64 qt] 61 (0, 0))).heap.size) := hid (by
              have h2 := ((Kp.refl Nb w8).alloc (.cells #[.int .i64 qn, .int .i64 qf, .int .i64 qt] 61 (0, 0))).size
              have h3 := HLN.out.1
              have h5 := HN8.out.lt
              refine ⟨?_, ?_, by omega⟩ <;> rw [List.length_singleton]
              · unfold maxLen; omega
              · omega)
            go_upto_region 14 with fail
            go_wp2_with (first
              | (refine wpList_load_mid (by rfl) 61 (.tmp 8) (by rfl) M 0 (by rfl) (runL (qn, qf, qt)) _ RM8.out hfs rfl (run_infoL (qn, qf, qt)) ?_)
              | (refine wpList_val (by rfl) _ _ (exec_buildSliceD rfl (qs := #[(0, .agg #[.int .i64 qn, .int .i64 qf, .int .i64 qt])]) (by simp [Act.eval, Act.put]) MK9.out) ?_)
              | (at_builtin; refine wpList_append_rows (f := runL) (z := (0, 0, 0)) (c := 3) rfl _ _ 23 rfl (N + 1) 61 i0 zz 24 under_clock hi hz0 hz1 hz2 hz3 (by decide) _ _ _ rfl (ownsRow_kpD HO8.out ((Kp.refl Nb _).alloc _)) _ [(qn, qf, qt)] rfl (rows_oneR (Blk.new _ _ _)) (fun x hx => rfl) (fun x _ => run_one' x) B9.out.1 B9.out.2.1 B9.out.2.2 ?_))
            intro v9 w9 hown hgrow
            have K9 : Hid (Kp Nb w w9) := hid ((K8.out.trans ((Kp.refl Nb w8).alloc (.cells #[.int .i64 qn, .int .i64 qf, .int .i64 qt] 61 (0, 0))) (fun _ _ h => h)).grown hgrow (fun g hg h => by have := (row_cells HO8.out hg).1; have := HMN.out; omega))
            have HN9 : Hid (Blk w9 N 61 (runL (rn, rf, rt))) := hid ((hgrow.block N (HN8.out.alloc _).lt (fun h => by have := (row_cells HO8.out h.symm).1; omega)).trans (HN8.out.alloc _))
            have HO9 : Hid (w9.ownsRow (N + 1) 61 3 v9 ((out.length + 1) + 1) (flatR runL ((out ++ [(rn, rf, rt)]) ++ [(qn, qf, qt)]))) := hid (by rw [flatR_append]; exact hown)
            obtain ⟨a9, c9, rfl⟩ := own_shape HO9.out
            clear hown hgrow
            go_wp2
            go_roundw
            case rel => exact ⟨k + 1, (out ++ [(rn, rf, rt)] ++ [(qn, qf, qt)], true, (rn, rf, rt)), by rw [HLE.out]; omega, by go_num, rfl, hid (by rw [HSN.out, HST.out]), hid (by rw [List.length_append, List.length_append, List.length_singleton, List.length_singleton]; have := HLN.out.2 (by first | exact rfl | trivial); exact ⟨by omega, fun h => by cases h⟩), hid ⟨fun q hq => (List.mem_append.1 hq).elim (fun h => (List.mem_append.1 h).elim (HGD.out.1 q) (fun h => by rw [List.mem_singleton.1 h]; exact HGD.out.2)) (fun h => by rw [List.mem_singleton.1 h]; exact HX.out), HGD.out.2⟩, hid (by have h := HO9.out; simp only [List.length_append, List.length_singleton]; exact h), HN9, K9⟩
            case measure => simp [intOf]; omega
          · skip
            have HST : Hid (addS (out, false, (rn, rf, rt)) (qn, qf, qt) = (out ++ [(qn, qf, qt)], false, (rn, rf, rt))) := hid (by unfold addS; rw [if_neg (by unfold tchB; simp; omega), if_neg (by unfold aftB; simp; omega)])
            have MK9 := hid (make_run1 W2 qn qf qt)
            have B9 : Hid (out.length + [(qn, qf, qt)].length ≤ maxLen ∧ (out.length + [(qn, qf, qt)].length) * 24 ≤ 140737488355328 ∧ N + 1 ≤ (W2.alloc (.cells #[.int .i64 qn, .int .i64 qf, .int .i64 qt] 61 (0, 0))).heap.size) := hid (by
              have h2 := ((Kp.refl Nb W2).alloc (.cells #[.int .i64 qn, .int .i64 qf, .int .i64 qt] 61 (0, 0))).size
              have h3 := HLN.out.1
              have h5 := HBN2.out.lt
              refine ⟨?_, ?_, by omega⟩ <;> rw [List.length_singleton]
              · unfold maxLen; omega
              · omega)
            go_upto_region 14 with fail
            go_wp2_with (first
              | (refine wpList_load_mid (by rfl) 61 (.tmp 8) (by rfl) M 0 (by rfl) (runL (qn, qf, qt)) _ RM.out hfs rfl (run_infoL (qn, qf, qt)) ?_)
              | (refine wpList_val (by rfl) _ _ (exec_buildSliceD rfl (qs := #[(0, .agg #[.int .i64 qn, .int .i64 qf, .int .i64 qt])]) (by simp [Act.eval, Act.put]) MK9.out) ?_)
              | (at_builtin; refine wpList_append_rows (f := runL) (z := (0, 0, 0)) (c := 3) rfl _ _ 23 rfl (N + 1) 61 i0 zz 24 under_clock hi hz0 hz1 hz2 hz3 (by decide) _ _ _ rfl (ownsRow_kpD HO2.out ((Kp.refl Nb _).alloc _)) _ [(qn, qf, qt)] rfl (rows_oneR (Blk.new _ _ _)) (fun x hx => rfl) (fun x _ => run_one' x) B9.out.1 B9.out.2.1 B9.out.2.2 ?_))
            intro v9 w9 hown hgrow
            have K9 : Hid (Kp Nb w w9) := hid ((HK2.out.trans ((Kp.refl Nb W2).alloc (.cells #[.int .i64 qn, .int .i64 qf, .int .i64 qt] 61 (0, 0))) (fun _ _ h => h)).grown hgrow (fun g hg h => by have := (row_cells HO2.out hg).1; have := HMN.out; omega))
            have HN9 : Hid (Blk w9 N 61 (runL (rn, rf, rt))) := hid ((hgrow.block N (HBN2.out.alloc _).lt (fun h => by have := (row_cells HO2.out h.symm).1; omega)).trans (HBN2.out.alloc _))
            have HO9 : Hid (w9.ownsRow (N + 1) 61 3 v9 (out.length + 1) (flatR runL (out ++ [(qn, qf, qt)]))) := hid (by rw [flatR_append]; exact hown)
            obtain ⟨a9, c9, rfl⟩ := own_shape HO9.out
            clear hown hgrow
            clear c0 c1 c2 e0 e1 e2 f1 f2
            go_wp2
            go_roundw
            case rel => exact ⟨k + 1, (out ++ [(qn, qf, qt)], false, (rn, rf, rt)), by rw [HLE.out]; omega, by go_num, rfl, hid (by rw [HSN.out, HST.out]), hid (by rw [List.length_append, List.length_singleton]; have := HLN.out; exact ⟨by omega, fun h => by have := this.2 (by first | exact h | trivial); omega⟩), hid ⟨fun q hq => (List.mem_append.1 hq).elim (HGD.out.1 q) (fun h => by rw [List.mem_singleton.1 h]; exact HX.out), HGD.out.2⟩, hid (by have h := HO9.out; simp only [List.length_append, List.length_singleton]; exact h), HN9, K9⟩
            case measure => simp [intOf]; omega
    · obtain rfl : k = L := by omega
      have HFE : Hid (R = addF (out, done, (rn, rf, rt))) := hid (by
        rw [← HRE.out]
        unfold addC
        rw [HSE.out, ← HLE.out, List.take_length])
      have HMN : Hid (w.heap.size = N) := hid HNE.out
      obtain ⟨i0, zz, hi, hz0, hz1, hz2, hz3⟩ := run_info3
      obtain ⟨fs, hfs⟩ := under_run
      have RN := hid (range_ofR HBN.out)
      cases done with
      | true =>
        have HE : Hid (R = out) := hid HFE.out
        go_wp2
        go_ret
        exact ⟨_, rfl, by rw [HE.out]; exact cl_owned HO.out (fun q hq => good_ok (HGD.out.1 q hq)), own_of (ownsRow_le (base' := w.heap.size) HO.out (by have := HMN.out; omega)), HK.out⟩
      | false =>
        have HE : Hid (R = out ++ [(rn, rf, rt)]) := hid HFE.out
        have MK9 := hid (make_run1 wr rn rf rt)
        have B9 : Hid (out.length + [(rn, rf, rt)].length ≤ maxLen ∧ (out.length + [(rn, rf, rt)].length) * 24 ≤ 140737488355328 ∧ N + 1 ≤ (wr.alloc (.cells #[.int .i64 rn, .int .i64 rf, .int .i64 rt] 61 (0, 0))).heap.size) := hid (by
          have h2 := ((Kp.refl Nb wr).alloc (.cells #[.int .i64 rn, .int .i64 rf, .int .i64 rt] 61 (0, 0))).size
          have h3 := HLN.out.1
          have h5 := HBN.out.lt
          refine ⟨?_, ?_, by omega⟩ <;> rw [List.length_singleton]
          · unfold maxLen; omega
          · omega)
        go_wp2_with (first
          | (refine wpList_load_mid (by rfl) 61 (.tmp 3) (by rfl) N 0 (by rfl) (runL (rn, rf, rt)) _ RN.out hfs rfl (run_infoL (rn, rf, rt)) ?_)
          | (refine wpList_val (by rfl) _ _ (exec_buildSliceD rfl (qs := #[(0, .agg #[.int .i64 rn, .int .i64 rf, .int .i64 rt])]) (by simp [Act.eval, Act.put]) MK9.out) ?_)
          | (at_builtin; refine wpList_append_rows (f := runL) (z := (0, 0, 0)) (c := 3) rfl _ _ 23 rfl (N + 1) 61 i0 zz 24 under_clock hi hz0 hz1 hz2 hz3 (by decide) _ _ _ rfl (ownsRow_kpD HO.out ((Kp.refl Nb _).alloc _)) _ [(rn, rf, rt)] rfl (rows_oneR (Blk.new _ _ _)) (fun x hx => rfl) (fun x _ => run_one' x) B9.out.1 B9.out.2.1 B9.out.2.2 ?_))
        intro v9 w9 hown hgrow
        have K9 : Hid (Kp Nb w w9) := hid ((HK.out.trans ((Kp.refl Nb wr).alloc (.cells #[.int .i64 rn, .int .i64 rf, .int .i64 rt] 61 (0, 0))) (fun _ _ h => h)).grown hgrow (fun g hg h => by have := (row_cells HO.out hg).1; have := HMN.out; omega))
        have HN9 : Hid (Blk w9 N 61 (runL (rn, rf, rt))) := hid ((hgrow.block N (HBN.out.alloc _).lt (fun h => by have := (row_cells HO.out h.symm).1; omega)).trans (HBN.out.alloc _))
        have HO9 : Hid (w9.ownsRow (N + 1) 61 3 v9 (out.length + 1) (flatR runL (out ++ [(rn, rf, rt)]))) := hid (by rw [flatR_append]; exact hown)
        obtain ⟨a9, c9, rfl⟩ := own_shape HO9.out
        clear hown hgrow
        go_wp2
        go_ret
        exact ⟨_, rfl, by rw [HE.out]; exact cl_owned (c := out ++ [(rn, rf, rt)]) (by have h := HO9.out; simp only [List.length_append, List.length_singleton]; exact h) (fun q hq => good_ok ((List.mem_append.1 hq).elim (HGD.out.1 q) (fun h => by rw [List.mem_singleton.1 h]; exact HGD.out.2))), own_of (ownsRow_le (base' := w.heap.size) HO9.out (by have := HMN.out; omega)), K9.out⟩

end Go.Proofs.YtbbfibgijackhaaGreatDoor

namespace Go.Proofs.YtbbfibgijackhaaGreatDoor
open Go.RowKit
set_option maxHeartbeats 400000 in
theorem rgood_any (n d : Int) (w : World) : Calls Tryz.prog 8 #[dotV n d] w fun e w' => e = .returned (.bool (goodB n d)) ∧ Kp Nb w w' := by
  have K := hid ((Kp.refl Nb w).alloc (.cells #[.int .i64 n, .int .i64 d] 25))
  by_cases h1 : 0 ≤ n
  · by_cases h2 : n ≤ 7
    · by_cases h3 : 1 ≤ d
      · obtain ⟨b, hb⟩ : ∃ b, decide (d ≤ 1099511627776) = b := ⟨_, rfl⟩
        have HG : Hid (goodB n d = b) := hid (by unfold goodB; rw [← hb]; simp [h1, h2, h3])
        go_enter Tryz.func8, Tryz.ntmps8
        go_wp2
        go_ret
        exact ⟨by rw [HG.out, ← hb]; rfl, K.out⟩
      · have HG : Hid (goodB n d = false) := hid (by unfold goodB; simp [h3])
        go_enter Tryz.func8, Tryz.ntmps8
        go_wp2
        go_ret
        exact ⟨by rw [HG.out]; rfl, K.out⟩
    · have HG : Hid (goodB n d = false) := hid (by unfold goodB; simp [h2])
      go_enter Tryz.func8, Tryz.ntmps8
      go_wp2
      go_ret
      exact ⟨by rw [HG.out]; rfl, K.out⟩
  · have HG : Hid (goodB n d = false) := hid (by unfold goodB; simp [h1])
    go_enter Tryz.func8, Tryz.ntmps8
    go_wp2
    go_ret
    exact ⟨by rw [HG.out]; rfl, K.out⟩

theorem top_less {c : List RunQ} (h : Rt c) {k : Nat} (hk : k < c.length) {n : Int} (hn : (runAt c k).1 = n) : topF (c.take k) n < (runAt c k).2.2 := by
  have g := goodR_of.1 (h.1 _ (runAt_mem hk))
  unfold topF
  rcases List.eq_nil_or_concat (ofF (c.take k) n) with e | ⟨l, x, e⟩
  · rw [e]
    show (0 : Int) < _
    omega
  · have e' : ofF (c.take k) n = l ++ [x] := by rw [e, List.concat_eq_append]
    rw [e', List.getLast?_concat]
    show x.2.2 < _
    have hx : x ∈ ofF (c.take k) n := by rw [e']; simp
    obtain ⟨hx1, hx2⟩ := List.mem_filter.1 hx
    have hx2 := of_decide_eq_true hx2
    have hpw : (c.take (k + 1)).Pairwise Gap := h.2.sublist (List.take_sublist _ _)
    rw [take_snocR c k hk] at hpw
    have hg := (List.pairwise_append.1 hpw).2.2 x hx1 (runAt c k) (by simp)
    unfold Gap at hg
    omega
def RtR (w : World) (c : List RunQ) (n : Int) (i u : Value) (wr : World) : Prop := ∃ (k : Nat) (T : Int), k ≤ c.length ∧ i = .int .i64 k ∧ u = .int .i64 T ∧ Hid (T = if rightC c then topF (c.take k) n else 0) ∧ Hid (Kp Nb w wr)
set_option maxRecDepth 100000 in
set_option maxHeartbeats 4000000 in
theorem rtop_any (v : Value) (c : List RunQ) (n : Int) (w : World) (hs : ClSl w v c) (hl : c.length ≤ 1000) :
    Calls Tryz.prog 12 #[v, .int .i64 n] w fun e w' => e = .returned (.int .i64 (topC c n)) ∧ Kp Nb w w' := by
  obtain ⟨pv, dv, rfl⟩ := hs.shape
  obtain ⟨L, hL⟩ : ∃ L, c.length = L := ⟨_, rfl⟩
  have HLE := hid hL
  rw [hL] at hs hl ⊢
  have HS := hid hs
  have hLb := hl
  obtain ⟨R, hR⟩ : ∃ b, rightC c = b := ⟨_, rfl⟩
  have HRR := hid hR
  obtain ⟨Z, hZ⟩ : ∃ z, (if R then topF c n else 0) = z := ⟨_, rfl⟩
  have HZE := hid hZ
  have HT : Hid (topC c n = Z) := hid (by unfold topC; rw [hR, hZ])
  rw [HT.out]
  clear hZ
  have CR : Hid (∀ wx, Kp Nb w wx → Calls Tryz.prog 10 #[.slice pv L dv] wx fun e w' => e = .returned (.bool R) ∧ Kp Nb wx w') := hid (fun wx k => by rw [← hR]; exact rright_any _ c wx (hs.kept k) (by omega))
  clear hs hL hl hR
  go_enter Tryz.func12, Tryz.ntmps12
  go_wp2_with fail
  go_loopw [10, 5] (RtR w c n) (fun i _ _ => L - (intOf i).toNat)
  case atStart => exact ⟨0, 0, Nat.zero_le _, rfl, rfl, hid (by rw [HRR.out]; cases R <;> rfl), hid (Kp.refl _ _)⟩
  case round =>
    obtain ⟨k, T, hk, rfl, rfl, HTT, HK⟩ := hrel
    rw [HLE.out] at hk
    rw [HRR.out] at HTT
    by_cases hlt : k < L
    · obtain ⟨blk, off, cap, e1, hc, hm, hcell⟩ := cl_shape (HS.out.kept HK.out) (by intro h; have := HLE.out; rw [h, List.length_nil] at this; omega)
      rw [HLE.out] at e1 hc hcell
      injection e1 with e1 _ e2
      subst e1 e2
      have HR := hid (hcell k hlt)
      obtain ⟨⟨qn, qf, qt⟩, hq⟩ : ∃ q, runAt c k = q := ⟨_, rfl⟩
      have HOK := HS.out.1 k
      rw [hq] at HR HOK
      have HQ := hid hq
      obtain ⟨M, hM⟩ : ∃ M, wr.heap.size = M := ⟨_, rfl⟩
      obtain ⟨W2, hW2⟩ : ∃ W, W = (wr.alloc (.cells (runL (0, 0, 0)).toArray 61)).setCells M 0 (runL (qn, qf, qt)) := ⟨_, rfl⟩
      have hz := Blk.new wr 61 (runL (0, 0, 0))
      rw [hM] at hz
      have KW : Hid (Kp Nb wr W2) := hid (by rw [hW2]; exact Kp.setCells (fun h => absurd h (by omega)) _ 0 _ ((Kp.refl Nb wr).alloc _))
      have HMW : Hid (wr.heap.size = M) := hid hM
      have TH := hid (run_there (q := (qn, qf, qt)) hz)
      have HZ : Hid (Blk W2 M 61 (runL (qn, qf, qt))) := hid (by rw [hW2]; exact row_set hz rfl)
      have HK2 := hid (HK.out.trans KW.out (fun _ _ h => h))
      unfold maxLen at hm
      obtain ⟨fs, hfs⟩ := under_run
      clear hz hcell hq
      go_upto_region 5 with (first
        | (refine wpList_load_mid (by rfl) 61 (.tmp 12) (by rfl) blk (off + k * 3) (by rfl) (runL (qn, qf, qt)) _ HR.out hfs rfl (run_infoL (qn, qf, qt)) ?_)
        | (refine wpList_store_mid (by rfl) 61 (.tmp 7) (.tmp 13) (by rfl) M 0 (runL (qn, qf, qt)).toArray (by rfl) (by rfl) TH.out (run_infoA (qn, qf, qt)) (run_one (qn, qf, qt)) ?_))
      rw [show (wr.alloc (.cells #[.int .i64 0, .int .i64 0, .int .i64 0] 61)).setCells M 0 (runL (qn, qf, qt)) = W2 from hW2.symm]
      clear hW2 TH hM
      have c0 : W2.cell? ⟨M, 0, none⟩ = some (.int .i64 qn) := HZ.out.cell 0
      have c1 : W2.cell? ⟨M, 1, none⟩ = some (.int .i64 qf) := HZ.out.cell 1
      have c2 : W2.cell? ⟨M, 2, none⟩ = some (.int .i64 qt) := HZ.out.cell 2
      have HC : Hid (k < c.length) := hid (by rw [HLE.out]; exact hlt)
      clear HK HR KW HMW
      by_cases h1 : qn = n
      · subst h1
        by_cases h2 : T < qt
        · have h2' : qt > T := h2
          go_wp2_with fail
          refine (CR.out W2 HK2.out).mono ?_
          rintro r w3 ⟨rfl, k3⟩
          have HZ3 := hid (HZ.out.kept k3 (fun h => h))
          have HK3 := hid (HK2.out.trans k3 (fun _ _ h => h))
          have d2 : w3.cell? ⟨M, 2, none⟩ = some (.int .i64 qt) := HZ3.out.cell 2
          clear k3 c0 c1 c2
          cases R with
          | true =>
            have HV : Hid (qt = if rightC c then topF (c.take (k + 1)) qn else 0) := hid (by rw [HRR.out, if_pos rfl, topF_eq c qn k HC.out (by rw [HQ.out]), HQ.out])
            go_wp2
            go_roundw
            case rel => exact ⟨k + 1, _, by rw [HLE.out]; omega, by go_num, rfl, HV, HK3⟩
            case measure => simp [intOf]; omega
          | false =>
            have HV : Hid (T = if rightC c then topF (c.take (k + 1)) qn else 0) := hid (by rw [HRR.out, if_neg (by decide)]; rw [HTT.out, if_neg (by decide)])
            go_wp2
            go_roundw
            case rel => exact ⟨k + 1, _, by rw [HLE.out]; omega, by go_num, rfl, HV, HK3⟩
            case measure => simp [intOf]; omega
        · have h2' : ¬ qt > T := h2
          have HV : Hid (T = if rightC c then topF (c.take (k + 1)) qn else 0) := hid (by
            cases R with
            | true =>
              exfalso
              have h := top_less (rightC_rt.1 HRR.out) HC.out (n := qn) (by rw [HQ.out])
              have ht := HTT.out
              rw [if_pos rfl] at ht
              rw [HQ.out, ← ht] at h
              exact h2 h
            | false => rw [HRR.out, if_neg (by decide), HTT.out, if_neg (by decide)])
          go_wp2
          go_roundw
          case rel => exact ⟨k + 1, _, by rw [HLE.out]; omega, by go_num, rfl, HV, HK2⟩
          case measure => simp [intOf]; omega
      · have HV : Hid (T = if rightC c then topF (c.take (k + 1)) n else 0) := hid (by rw [HRR.out, topF_ne c n k HC.out (by rw [HQ.out]; exact h1)]; exact HTT.out)
        go_wp2
        go_roundw
        case rel => exact ⟨k + 1, _, by rw [HLE.out]; omega, by go_num, rfl, HV, HK2⟩
        case measure => simp [intOf]; omega
    · obtain rfl : k = L := by omega
      have hU : T = Z := by have h := HTT.out; rw [← HLE.out, List.take_length] at h; exact h.trans HZE.out
      subst hU
      go_wp2
      go_ret
      exact ⟨rfl, HK.out⟩

def RcR (w : World) (c : List RunQ) (i u : Value) (wr : World) : Prop := ∃ (k : Nat) (T : Int), k ≤ c.length ∧ i = .int .i64 k ∧ u = .int .i64 T ∧ Hid (T = if rightC c then sumC (c.take k) else 0) ∧ Hid (rightC c = true → 0 ≤ sumC (c.take k) ∧ sumC (c.take k) ≤ 1099511627776 * (k : Int)) ∧ Hid (Kp Nb w wr)
set_option maxRecDepth 100000 in
set_option maxHeartbeats 4000000 in
theorem rcount_any (v : Value) (c : List RunQ) (w : World) (hs : ClSl w v c) (hl : c.length ≤ 1000) :
    Calls Tryz.prog 25 #[v] w fun e w' => e = .returned (.int .i64 (countC c)) ∧ Kp Nb w w' := by
  obtain ⟨pv, dv, rfl⟩ := hs.shape
  obtain ⟨L, hL⟩ : ∃ L, c.length = L := ⟨_, rfl⟩
  have HLE := hid hL
  rw [hL] at hs hl ⊢
  have HS := hid hs
  have hLb := hl
  obtain ⟨R, hR⟩ : ∃ b, rightC c = b := ⟨_, rfl⟩
  have HRR := hid hR
  obtain ⟨Z, hZ⟩ : ∃ z, (if R then sumC c else 0) = z := ⟨_, rfl⟩
  have HZE := hid hZ
  have HT : Hid (countC c = Z) := hid (by unfold countC; rw [hR, hZ])
  rw [HT.out]
  clear hZ
  have CR : Hid (∀ wx, Kp Nb w wx → Calls Tryz.prog 10 #[.slice pv L dv] wx fun e w' => e = .returned (.bool R) ∧ Kp Nb wx w') := hid (fun wx k => by rw [← hR]; exact rright_any _ c wx (hs.kept k) (by omega))
  clear hs hL hl hR
  go_enter Tryz.func25, Tryz.ntmps25
  go_wp2_with fail
  go_loopw [8, 3] (RcR w c) (fun i _ _ => L - (intOf i).toNat)
  case atStart => exact ⟨0, 0, Nat.zero_le _, rfl, rfl, hid (by rw [HRR.out]; cases R <;> rfl), hid (fun _ => by simp [sumC]), hid (Kp.refl _ _)⟩
  case round =>
    obtain ⟨k, T, hk, rfl, rfl, HTT, HBD, HK⟩ := hrel
    rw [HLE.out] at hk
    rw [HRR.out] at HTT
    by_cases hlt : k < L
    · obtain ⟨blk, off, cap, e1, hc, hm, hcell⟩ := cl_shape (HS.out.kept HK.out) (by intro h; have := HLE.out; rw [h, List.length_nil] at this; omega)
      rw [HLE.out] at e1 hc hcell
      injection e1 with e1 _ e2
      subst e1 e2
      have HR := hid (hcell k hlt)
      obtain ⟨⟨qn, qf, qt⟩, hq⟩ : ∃ q, runAt c k = q := ⟨_, rfl⟩
      have HOK := HS.out.1 k
      rw [hq] at HR HOK
      have HQ := hid hq
      obtain ⟨M, hM⟩ : ∃ M, wr.heap.size = M := ⟨_, rfl⟩
      obtain ⟨W2, hW2⟩ : ∃ W, W = (wr.alloc (.cells (runL (0, 0, 0)).toArray 61)).setCells M 0 (runL (qn, qf, qt)) := ⟨_, rfl⟩
      have hz := Blk.new wr 61 (runL (0, 0, 0))
      rw [hM] at hz
      have KW : Hid (Kp Nb wr W2) := hid (by rw [hW2]; exact Kp.setCells (fun h => absurd h (by omega)) _ 0 _ ((Kp.refl Nb wr).alloc _))
      have HMW : Hid (wr.heap.size = M) := hid hM
      have TH := hid (run_there (q := (qn, qf, qt)) hz)
      have HZ : Hid (Blk W2 M 61 (runL (qn, qf, qt))) := hid (by rw [hW2]; exact row_set hz rfl)
      have HK2 := hid (HK.out.trans KW.out (fun _ _ h => h))
      unfold maxLen at hm
      obtain ⟨fs, hfs⟩ := under_run
      clear hz hcell hq
      go_upto_region 5 with (first
        | (refine wpList_load_mid (by rfl) 61 (.tmp 10) (by rfl) blk (off + k * 3) (by rfl) (runL (qn, qf, qt)) _ HR.out hfs rfl (run_infoL (qn, qf, qt)) ?_)
        | (refine wpList_store_mid (by rfl) 61 (.tmp 5) (.tmp 11) (by rfl) M 0 (runL (qn, qf, qt)).toArray (by rfl) (by rfl) TH.out (run_infoA (qn, qf, qt)) (run_one (qn, qf, qt)) ?_))
      rw [show (wr.alloc (.cells #[.int .i64 0, .int .i64 0, .int .i64 0] 61)).setCells M 0 (runL (qn, qf, qt)) = W2 from hW2.symm]
      clear hW2 TH hM
      have c0 : W2.cell? ⟨M, 0, none⟩ = some (.int .i64 qn) := HZ.out.cell 0
      have c1 : W2.cell? ⟨M, 1, none⟩ = some (.int .i64 qf) := HZ.out.cell 1
      have c2 : W2.cell? ⟨M, 2, none⟩ = some (.int .i64 qt) := HZ.out.cell 2
      have HC : Hid (k < c.length) := hid (by rw [HLE.out]; exact hlt)
      have HSM := hid (sumC_snoc c k HC.out)
      rw [HQ.out] at HSM
      clear HK HR KW HMW c0 c1 c2
      go_wp2_with fail
      refine (CR.out W2 HK2.out).mono ?_
      rintro r w3 ⟨rfl, k3⟩
      have HZ3 := hid (HZ.out.kept k3 (fun h => h))
      have HK3 := hid (HK2.out.trans k3 (fun _ _ h => h))
      have d1 : w3.cell? ⟨M, 1, none⟩ = some (.int .i64 qf) := HZ3.out.cell 1
      have d2 : w3.cell? ⟨M, 2, none⟩ = some (.int .i64 qt) := HZ3.out.cell 2
      clear k3
      cases R with
      | true =>
        obtain ⟨s, hs⟩ : ∃ s, sumC (c.take k) = s := ⟨_, rfl⟩
        have hb := HBD.out HRR.out
        have hu := HTT.out
        rw [if_pos rfl] at hu
        rw [hs] at hu hb HSM
        subst hu
        have gg := goodR_of.1 ((rightC_rt.1 HRR.out).1 _ (runAt_mem HC.out))
        rw [HQ.out] at gg
        dsimp only at gg HSM
        have w1 : IntKind.i64.wrap (qt - qf) = qt - qf := IntWalk.i64_in _ (by omega)
        have w2 : IntKind.i64.wrap (qt - qf + 1) = qt - qf + 1 := IntWalk.i64_in _ (by omega)
        have w3' : IntKind.i64.wrap (T + (qt - qf + 1)) = T + (qt - qf + 1) := IntWalk.i64_in _ (by omega)
        have HV : Hid (T + (qt - qf + 1) = if rightC c then sumC (c.take (k + 1)) else 0) := hid (by rw [HRR.out, if_pos rfl, HSM.out])
        have HB2 : Hid (rightC c = true → 0 ≤ sumC (c.take (k + 1)) ∧ sumC (c.take (k + 1)) ≤ 1099511627776 * ((k + 1 : Nat) : Int)) := hid (fun _ => by rw [HSM.out]; omega)
        clear hs hb gg
        go_wp2
        go_roundw
        case rel => exact ⟨k + 1, _, by rw [HLE.out]; omega, by go_num, rfl, HV, HB2, HK3⟩
        case measure => simp [intOf]; omega
      | false =>
        have hu := HTT.out
        rw [if_neg (by decide)] at hu
        subst hu
        have HV : Hid ((0 : Int) = if rightC c then sumC (c.take (k + 1)) else 0) := hid (by rw [HRR.out, if_neg (by decide)])
        go_wp2
        go_roundw
        case rel => exact ⟨k + 1, _, by rw [HLE.out]; omega, by go_num, rfl, HV, hid (fun h => by rw [HRR.out] at h; cases h), HK3⟩
        case measure => simp [intOf]; omega
    · obtain rfl : k = L := by omega
      have hU : T = Z := by have h := HTT.out; rw [← HLE.out, List.take_length] at h; exact h.trans HZE.out
      subst hU
      go_wp2
      go_ret
      exact ⟨rfl, HK.out⟩

end Go.Proofs.YtbbfibgijackhaaGreatDoor

namespace Go.Proofs.YtbbfibgijackhaaGreatDoor
open Go.RowKit

theorem join_wrong {a b : List RunQ} (h : rightC a = false ∨ rightC b = false) : joinC a b = [] := by
  unfold joinC
  rw [if_neg]
  intro h2
  rw [Bool.and_eq_true] at h2
  rcases h with h | h <;> rw [h] at h2
  · cases h2.1
  · cases h2.2
set_option maxRecDepth 100000 in
set_option maxHeartbeats 2000000 in
theorem rwith_any (v : Value) (c : List RunQ) (n d : Int) (w : World) (hs : ClSl w v c) (hl : c.length ≤ 400) :
    Calls Tryz.prog 17 #[v, dotV n d] w fun e w' => ∃ v', e = .returned v' ∧ ClSl w' v' (withC c n d) ∧ OwnV w v' w' ∧ Kp Nb w w' := by
  obtain ⟨y, dc, rfl⟩ := hs.shape
  obtain ⟨L, hL⟩ : ∃ L, c.length = L := ⟨_, rfl⟩
  obtain ⟨N, hN⟩ : ∃ N, w.heap.size = N := ⟨_, rfl⟩
  obtain ⟨W, hW⟩ : ∃ W, W = w.alloc (.cells #[.int .i64 n, .int .i64 d] 25) := ⟨_, rfl⟩
  have HB0 : Hid (Blk W N 25 [.int .i64 n, .int .i64 d]) := hid (by rw [hW, ← hN]; exact Blk.new w _ _)
  have K0 : Hid (Kp Nb w W) := hid (by rw [hW]; exact (Kp.refl Nb w).alloc _)
  have HLE := hid hL
  have HNE := hid hN
  rw [hL] at hs hl ⊢
  have HS := hid (hs.kept K0.out)
  have HBG := hid hl
  obtain ⟨R, hR⟩ : ∃ b, rightC c = b := ⟨_, rfl⟩
  obtain ⟨gb, hgb⟩ : ∃ b, goodB n d = b := ⟨_, rfl⟩
  have HRR := hid hR
  have HGB := hid hgb
  clear hL hs hgb hR hl
  go_enter Tryz.func17, Tryz.ntmps17
  go_upto_region 1 with fail
  rw [← hW]
  clear hW hN
  go_wp2_with fail
  have C := rright_any _ c W HS.out (by have := HBG.out; have := HLE.out; omega)
  rw [HRR.out] at C
  refine C.mono ?_
  rintro r w2 ⟨rfl, k2⟩
  have HB2 := hid (HB0.out.kept k2 (fun h => h))
  have K2 := hid (K0.out.trans k2 (fun _ _ h => h))
  have HS2 := hid (HS.out.kept k2)
  clear C k2 HS K0 HB0
  have c0 : w2.cell? ⟨N, 0, none⟩ = some (.int .i64 n) := HB2.out.cell 0
  have c1 : w2.cell? ⟨N, 1, none⟩ = some (.int .i64 d) := HB2.out.cell 1
  cases R with
  | false =>
    have HE : Hid (withC c n d = []) := hid (by
      unfold withC
      split
      · exact join_wrong (.inl HRR.out)
      · rfl)
    go_wp2
    go_ret
    exact ⟨_, rfl, by rw [HE.out]; exact cl_nil _, fun g hg => by simp [Value.ownBlock] at hg, K2.out⟩
  | true =>
    go_wp2_with fail
    refine (rgood_any n d w2).mono ?_
    rintro r w3 ⟨rfl, k3⟩
    rw [HGB.out]
    have HB3 := hid (HB2.out.kept k3 (fun h => h))
    have K3 := hid (K2.out.trans k3 (fun _ _ h => h))
    have HS3 := hid (HS2.out.kept k3)
    clear k3 c0 c1 HB2 K2 HS2
    have c0 : w3.cell? ⟨N, 0, none⟩ = some (.int .i64 n) := HB3.out.cell 0
    have c1 : w3.cell? ⟨N, 1, none⟩ = some (.int .i64 d) := HB3.out.cell 1
    cases gb with
    | false =>
      have HE : Hid (withC c n d = []) := hid (by unfold withC; rw [HGB.out]; rfl)
      go_wp2
      go_ret
      exact ⟨_, rfl, by rw [HE.out]; exact cl_nil _, fun g hg => by simp [Value.ownBlock] at hg, K3.out⟩
    | true =>
      have HGR : Hid (goodR (n, d, d) = true) := hid (by
        have g := goodB_of.1 HGB.out
        exact goodR_of.2 ⟨g.1, g.2.1, g.2.2.1, by show d ≤ d; omega, g.2.2.2⟩)
      have HE : Hid (withC c n d = addC c (n, d, d)) := hid (by
        unfold withC
        rw [HGB.out, if_pos rfl, add_join (rightC_rt.1 HRR.out) HGR.out])
      go_wp2_with fail
      have C := add_any _ c (n, d, d) w3 HS3.out (rightC_rt.1 HRR.out).1 HGR.out (by have := HBG.out; have := HLE.out; omega)
      refine C.mono ?_
      rintro r w4 ⟨v4, rfl, h4, ho4, k4⟩
      obtain ⟨y4, d4, rfl⟩ := h4.shape
      have H4 := hid h4
      have HO4 : Hid (OwnV w (.slice y4 (addC c (n, d, d)).length d4) w4) := hid (fun g hg => ⟨Nat.le_trans K3.out.size (ho4 g hg).1, (ho4 g hg).2⟩)
      have K4 := hid (K3.out.trans k4 (fun _ _ h => h))
      obtain ⟨q, hq⟩ : ∃ q, (addC c (n, d, d)).length = q := ⟨_, rfl⟩
      rw [hq] at H4 HO4 ⊢
      clear C k4 h4 ho4 hq
      go_wp2
      go_ret
      exact ⟨_, rfl, by rw [HE.out]; exact H4.out, HO4.out, K4.out⟩

theorem make_run0 (w : World) : (Instr.buildSlice 23 0 #[]).run Tryz.prog w = .ok (.slice (some ⟨w.heap.size, 0, none⟩) 0 0) (w.alloc (.cells #[] 61 (0, 0))) := by kernel_rfl
theorem own_emptyR {w : World} {base B e size : Nat} (hB : base ≤ B) (hb : Blk w B e []) : w.ownsRow base e size (.slice (some ⟨B, 0, none⟩) 0 0) 0 [] := by
  refine ⟨by simp, .inr ⟨B, 0, #[], rfl, hB, hb, Nat.le_refl _, by unfold maxLen; omega, by simp, by simp⟩⟩
theorem addsC_len : ∀ (b a : List RunQ), (addsC a b).length ≤ a.length + b.length
  | [], a => by simp [addsC]
  | r :: b, a => by
    have h1 := addsC_len b (addC a r)
    have h2 := addC_len a r
    show (addsC (addC a r) b).length ≤ _
    rw [List.length_cons]
    omega
theorem addsC_snoc (a b : List RunQ) (k : Nat) (hk : k < b.length) : addsC a (b.take (k + 1)) = addC (addsC a (b.take k)) (runAt b k) := by
  unfold addsC
  rw [take_snocR b k hk, List.foldl_append, List.foldl_cons, List.foldl_nil]
def RjR (w : World) (a b : List RunQ) (i u : Value) (wr : World) : Prop := ∃ k : Nat, k ≤ b.length ∧ i = .int .i64 k ∧ Hid (ClSl wr u (addsC a (b.take k))) ∧ Hid (OwnV w u wr) ∧ Hid (Kp Nb w wr)
set_option maxRecDepth 100000 in
set_option maxHeartbeats 4000000 in
theorem rjoin_any (va vb : Value) (a b : List RunQ) (w : World) (ha : ClSl w va a) (hb : ClSl w vb b) (la : a.length ≤ 400) (lb : b.length ≤ 400) :
    Calls Tryz.prog 19 #[va, vb] w fun e w' => ∃ v', e = .returned v' ∧ ClSl w' v' (joinC a b) ∧ OwnV w v' w' ∧ Kp Nb w w' := by
  obtain ⟨pa, da, rfl⟩ := ha.shape
  obtain ⟨pb, db, rfl⟩ := hb.shape
  obtain ⟨nA, hnA⟩ : ∃ n, a.length = n := ⟨_, rfl⟩
  obtain ⟨nB, hnB⟩ : ∃ n, b.length = n := ⟨_, rfl⟩
  have HNA := hid hnA
  have HLE := hid hnB
  rw [hnA] at ha la
  rw [hnB] at hb lb
  rw [hnA, hnB]
  have HA := hid ha
  have HB := hid hb
  have HLB := hid (show nA ≤ 400 ∧ nB ≤ 400 from ⟨la, lb⟩)
  have hLb := lb
  obtain ⟨ra, hra⟩ : ∃ x, rightC a = x := ⟨_, rfl⟩
  obtain ⟨rb, hrb⟩ : ∃ x, rightC b = x := ⟨_, rfl⟩
  have HRA := hid hra
  have HRB := hid hrb
  clear ha hb la lb hnA hnB hra hrb
  go_enter Tryz.func19, Tryz.ntmps19
  go_wp2_with fail
  have C := rright_any _ a w HA.out (by have := HLB.out; have := HNA.out; omega)
  rw [HRA.out] at C
  refine C.mono ?_
  rintro r w1 ⟨rfl, k1⟩
  have K1 := hid k1
  clear C k1
  cases ra with
  | false =>
    have HE : Hid (joinC a b = []) := hid (join_wrong (.inl HRA.out))
    go_wp2
    go_ret
    exact ⟨_, rfl, by rw [HE.out]; exact cl_nil _, fun g hg => by simp [Value.ownBlock] at hg, K1.out⟩
  | true =>
    go_wp2_with fail
    have C := rright_any _ b w1 (HB.out.kept K1.out) (by have := HLB.out; have := HLE.out; omega)
    rw [HRB.out] at C
    refine C.mono ?_
    rintro r w2 ⟨rfl, k2⟩
    have K2 := hid (K1.out.trans k2 (fun _ _ h => h))
    clear C k2 K1
    cases rb with
    | false =>
      have HE : Hid (joinC a b = []) := hid (join_wrong (.inr HRB.out))
      go_wp2
      go_ret
      exact ⟨_, rfl, by rw [HE.out]; exact cl_nil _, fun g hg => by simp [Value.ownBlock] at hg, K2.out⟩
    | true =>
      have HTA := hid (rightC_rt.1 HRA.out)
      have HTB := hid (rightC_rt.1 HRB.out)
      have HE : Hid (joinC a b = addsC a b) := hid (adds_join HTA.out HTB.out).symm
      have MK := hid (make_run0 w2)
      obtain ⟨g2, hg2⟩ : ∃ g, w2.heap.size = g := ⟨_, rfl⟩
      rw [hg2] at MK
      obtain ⟨V, hV⟩ : ∃ V, V = w2.alloc (.cells #[] 61 (0, 0)) := ⟨_, rfl⟩
      rw [← hV] at MK
      have KV : Hid (Kp Nb w2 V) := hid (by rw [hV]; exact (Kp.refl Nb w2).alloc _)
      have HOV : Hid (V.ownsRow w.heap.size 61 3 (.slice (some ⟨g2, 0, none⟩) 0 0) 0 []) := hid (own_emptyR (by rw [← hg2]; exact K2.out.size) (by rw [hV, ← hg2]; exact Blk.new w2 _ []))
      have HRW : Hid (RowsSl runL (0, 0, 0) 3 V (.slice pa nA da) a) := hid (((HA.out.kept K2.out).kept KV.out).2)
      have B2 : Hid (0 + a.length ≤ maxLen ∧ (0 + a.length) * 24 ≤ 140737488355328 ∧ w.heap.size ≤ V.heap.size) := hid (by
        have := HLB.out
        have := HNA.out
        refine ⟨?_, ?_, Nat.le_trans K2.out.size KV.out.size⟩
        · unfold maxLen; omega
        · omega)
      obtain ⟨i0, zz, hi, hz0, hz1, hz2, hz3⟩ := run_info3
      clear hV hg2
      go_wp2_with (first
        | (refine wpList_val (by rfl) _ _ (exec_buildSliceD rfl (qs := #[]) (by first | rfl | simp) MK.out) ?_)
        | (at_builtin; refine wpList_append_rows (f := runL) (z := (0, 0, 0)) (c := 3) rfl _ _ 23 rfl w.heap.size 61 i0 zz 24 under_clock hi hz0 hz1 hz2 hz3 (by decide) _ _ _ rfl HOV.out _ a rfl HRW.out (fun x hx => rfl) (fun x _ => run_one' x) B2.out.1 B2.out.2.1 B2.out.2.2 ?_))
      intro v3 w3 hown hgrow
      have hown : w3.ownsRow w.heap.size 61 3 v3 a.length (flatR runL a) := by first | exact hown | simpa only [Nat.zero_add, List.nil_append] using hown
      have K3 : Hid (Kp Nb w w3) := hid ((K2.out.trans KV.out (fun _ _ h => h)).grown hgrow (fun g hg h => by have := (row_cells HOV.out hg).1; omega))
      have HC3 : Hid (ClSl w3 v3 a) := hid (cl_owned hown HA.out.ok)
      have HO3 : Hid (OwnV w v3 w3) := hid (own_of hown)
      clear hown hgrow
      go_wp2_with fail
      go_loopw [21, 5] (RjR w a b) (fun i _ _ => nB - (intOf i).toNat)
      case atStart => exact ⟨0, Nat.zero_le _, rfl, HC3, HO3, K3⟩
      case round =>
        obtain ⟨k, hk, rfl, HCL, HOL, HK⟩ := hrel
        rw [HLE.out] at hk
        obtain ⟨y5, d5, rfl⟩ := HCL.out.shape
        obtain ⟨q5, hq5⟩ : ∃ n, (addsC a (b.take k)).length = n := ⟨_, rfl⟩
        rw [hq5] at HCL HOL ⊢
        clear hq5
        by_cases hlt : k < nB
        · obtain ⟨blk, off, cap, e1, hc, hm, hcell⟩ := cl_shape (HB.out.kept HK.out) (by intro h; have := HLE.out; rw [h, List.length_nil] at this; omega)
          rw [HLE.out] at e1 hc hcell
          injection e1 with e1 _ e2
          subst e1 e2
          have HR := hid (hcell k hlt)
          obtain ⟨⟨qn, qf, qt⟩, hq⟩ : ∃ q, runAt b k = q := ⟨_, rfl⟩
          have HOK := HB.out.1 k
          rw [hq] at HR HOK
          have HQ := hid hq
          obtain ⟨M, hM⟩ : ∃ M, wr.heap.size = M := ⟨_, rfl⟩
          obtain ⟨W2, hW2⟩ : ∃ W, W = (wr.alloc (.cells (runL (0, 0, 0)).toArray 61)).setCells M 0 (runL (qn, qf, qt)) := ⟨_, rfl⟩
          have hz := Blk.new wr 61 (runL (0, 0, 0))
          rw [hM] at hz
          have KW : Hid (Kp Nb wr W2) := hid (by rw [hW2]; exact Kp.setCells (fun h => absurd h (by omega)) _ 0 _ ((Kp.refl Nb wr).alloc _))
          have HMW : Hid (wr.heap.size = M) := hid hM
          have TH := hid (run_there (q := (qn, qf, qt)) hz)
          have HZ : Hid (Blk W2 M 61 (runL (qn, qf, qt))) := hid (by rw [hW2]; exact row_set hz rfl)
          have HK2 := hid (HK.out.trans KW.out (fun _ _ h => h))
          unfold maxLen at hm
          obtain ⟨fs, hfs⟩ := under_run
          clear hz hcell hq
          go_upto_region 7 with (first
            | (refine wpList_load_mid (by rfl) 61 (.tmp 23) (by rfl) blk (off + k * 3) (by rfl) (runL (qn, qf, qt)) _ HR.out hfs rfl (run_infoL (qn, qf, qt)) ?_)
            | (refine wpList_store_mid (by rfl) 61 (.tmp 7) (.tmp 24) (by rfl) M 0 (runL (qn, qf, qt)).toArray (by rfl) (by rfl) TH.out (run_infoA (qn, qf, qt)) (run_one (qn, qf, qt)) ?_))
          rw [show (wr.alloc (.cells #[.int .i64 0, .int .i64 0, .int .i64 0] 61)).setCells M 0 (runL (qn, qf, qt)) = W2 from hW2.symm]
          clear hW2 TH hM
          have c0 : W2.cell? ⟨M, 0, none⟩ = some (.int .i64 qn) := HZ.out.cell 0
          have c1 : W2.cell? ⟨M, 1, none⟩ = some (.int .i64 qf) := HZ.out.cell 1
          have c2 : W2.cell? ⟨M, 2, none⟩ = some (.int .i64 qt) := HZ.out.cell 2
          have HJB : Hid (k < b.length) := hid (by rw [HLE.out]; exact hlt)
          have HGQ := hid (HTB.out.1 _ (runAt_mem HJB.out))
          rw [HQ.out] at HGQ
          have HSP := hid (addsC_spec (b.take k) a HTA.out (fun r hr => HTB.out.1 r (List.mem_of_mem_take hr)))
          have HLN : Hid ((addsC a (b.take k)).length ≤ 800) := hid (by
            have h1 := addsC_len (b.take k) a
            have h2 : (b.take k).length ≤ 400 := by rw [List.length_take]; have := HLB.out; omega
            have := HLB.out
            have := HNA.out
            omega)
          have HC2 := hid (HCL.out.kept KW.out)
          have HSN : Hid (addsC a (b.take (k + 1)) = addC (addsC a (b.take k)) (qn, qf, qt)) := hid (by rw [addsC_snoc a b k HJB.out, HQ.out])
          obtain ⟨cur, hcur⟩ : ∃ l, addsC a (b.take k) = l := ⟨_, rfl⟩
          rw [hcur] at HC2 HLN HSN HSP
          clear HCL HK HR KW HMW hcur
          have RM := hid (range_ofR HZ.out)
          go_wp2_with (refine wpList_load_mid (by rfl) 61 (.tmp 7) (by rfl) M 0 (by rfl) (runL (qn, qf, qt)) _ RM.out hfs rfl (run_infoL (qn, qf, qt)) ?_)
          have C := add_any _ cur (qn, qf, qt) W2 HC2.out HSP.out.1.1 HGQ.out (by have := HLN.out; omega)
          refine C.mono ?_
          rintro r w6 ⟨v6, rfl, h6, ho6, k6⟩
          have H6 : Hid (ClSl w6 v6 (addsC a (b.take (k + 1)))) := hid (by rw [HSN.out]; exact h6)
          have HO6 : Hid (OwnV w v6 w6) := hid (fun g hg => ⟨Nat.le_trans HK2.out.size (ho6 g hg).1, (ho6 g hg).2⟩)
          have K6 := hid (HK2.out.trans k6 (fun _ _ h => h))
          clear C k6 h6 ho6 c0 c1 c2
          go_wp2
          go_roundw
          case rel => exact ⟨k + 1, by rw [HLE.out]; omega, by go_num, H6, HO6, K6⟩
          case measure => simp [intOf]; omega
        · obtain rfl : k = nB := by omega
          have HCE : Hid (ClSl wr (.slice y5 q5 d5) (joinC a b)) := hid (by rw [HE.out]; have h := HCL.out; rwa [← HLE.out, List.take_length] at h)
          clear HCL
          go_wp2
          go_ret
          exact ⟨_, rfl, HCE.out, HOL.out, HK.out⟩

end Go.Proofs.YtbbfibgijackhaaGreatDoor

namespace Go.Proofs.YtbbfibgijackhaaGreatDoor
open Go.RowKit

def RoR (w : World) (c : List RunQ) (n : Int) (i u : Value) (wr : World) : Prop := ∃ (k : Nat) (out : List RunQ), k ≤ c.length ∧ i = .int .i64 k ∧ Hid (out = if rightC c then ofF (c.take k) n else []) ∧ Hid (out.length ≤ k) ∧
  Hid (wr.ownsRow w.heap.size 61 3 u out.length (flatR runL out)) ∧ Hid (Kp Nb w wr)
set_option maxRecDepth 100000 in
set_option maxHeartbeats 4000000 in
theorem rof_any (v : Value) (c : List RunQ) (n : Int) (w : World) (hs : ClSl w v c) (hl : c.length ≤ 1000) :
    Calls Tryz.prog 21 #[v, .int .i64 n] w fun e w' => ∃ v', e = .returned v' ∧ ClSl w' v' (ofC c n) ∧ OwnV w v' w' ∧ Kp Nb w w' := by
  obtain ⟨pv, dv, rfl⟩ := hs.shape
  obtain ⟨L, hL⟩ : ∃ L, c.length = L := ⟨_, rfl⟩
  have HLE := hid hL
  have HOKC := hid hs.ok
  rw [hL] at hs hl ⊢
  have HS := hid hs
  have hLb := hl
  obtain ⟨R, hR⟩ : ∃ b, rightC c = b := ⟨_, rfl⟩
  have HRR := hid hR
  obtain ⟨Z, hZ⟩ : ∃ z, ofC c n = z := ⟨_, rfl⟩
  have HZE : Hid (Z = if R then ofF c n else []) := hid (by rw [← hZ]; unfold ofC; rw [hR])
  rw [hZ]
  have CR : Hid (∀ wx, Kp Nb w wx → Calls Tryz.prog 10 #[.slice pv L dv] wx fun e w' => e = .returned (.bool R) ∧ Kp Nb wx w') := hid (fun wx k => by rw [← hR]; exact rright_any _ c wx (hs.kept k) (by omega))
  clear hs hL hl hR hZ
  go_enter Tryz.func21, Tryz.ntmps21
  go_wp2_with fail
  go_loopw [10, 5] (RoR w c n) (fun i _ _ => L - (intOf i).toNat)
  case atStart => exact ⟨0, [], Nat.zero_le _, rfl, hid (by rw [HRR.out]; cases R <;> rfl), hid (Nat.zero_le _), hid (World.ownsRow_nil _ _ _ _), hid (Kp.refl _ _)⟩
  case round =>
    obtain ⟨k, out, hk, rfl, HTT, HLN, HO, HK⟩ := hrel
    rw [HLE.out] at hk
    rw [HRR.out] at HTT
    obtain ⟨a5, c5, rfl⟩ := own_shape HO.out
    by_cases hlt : k < L
    · obtain ⟨blk, off, cap, e1, hc, hm, hcell⟩ := cl_shape (HS.out.kept HK.out) (by intro h; have := HLE.out; rw [h, List.length_nil] at this; omega)
      rw [HLE.out] at e1 hc hcell
      injection e1 with e1 _ e2
      subst e1 e2
      have HR := hid (hcell k hlt)
      obtain ⟨⟨qn, qf, qt⟩, hq⟩ : ∃ q, runAt c k = q := ⟨_, rfl⟩
      have HOK := HS.out.1 k
      rw [hq] at HR HOK
      have HQ := hid hq
      obtain ⟨M, hM⟩ : ∃ M, wr.heap.size = M := ⟨_, rfl⟩
      obtain ⟨W2, hW2⟩ : ∃ W, W = (wr.alloc (.cells (runL (0, 0, 0)).toArray 61)).setCells M 0 (runL (qn, qf, qt)) := ⟨_, rfl⟩
      have hz := Blk.new wr 61 (runL (0, 0, 0))
      rw [hM] at hz
      have KW : Hid (Kp Nb wr W2) := hid (by rw [hW2]; exact Kp.setCells (fun h => absurd h (by omega)) _ 0 _ ((Kp.refl Nb wr).alloc _))
      have HMW : Hid (wr.heap.size = M) := hid hM
      have TH := hid (run_there (q := (qn, qf, qt)) hz)
      have HZ : Hid (Blk W2 M 61 (runL (qn, qf, qt))) := hid (by rw [hW2]; exact row_set hz rfl)
      have HK2 := hid (HK.out.trans KW.out (fun _ _ h => h))
      unfold maxLen at hm
      obtain ⟨fs, hfs⟩ := under_run
      clear hz hcell hq
      go_upto_region 5 with (first
        | (refine wpList_load_mid (by rfl) 61 (.tmp 12) (by rfl) blk (off + k * 3) (by rfl) (runL (qn, qf, qt)) _ HR.out hfs rfl (run_infoL (qn, qf, qt)) ?_)
        | (refine wpList_store_mid (by rfl) 61 (.tmp 7) (.tmp 13) (by rfl) M 0 (runL (qn, qf, qt)).toArray (by rfl) (by rfl) TH.out (run_infoA (qn, qf, qt)) (run_one (qn, qf, qt)) ?_))
      rw [show (wr.alloc (.cells #[.int .i64 0, .int .i64 0, .int .i64 0] 61)).setCells M 0 (runL (qn, qf, qt)) = W2 from hW2.symm]
      clear hW2 TH hM
      have c0 : W2.cell? ⟨M, 0, none⟩ = some (.int .i64 qn) := HZ.out.cell 0
      have c1 : W2.cell? ⟨M, 1, none⟩ = some (.int .i64 qf) := HZ.out.cell 1
      have c2 : W2.cell? ⟨M, 2, none⟩ = some (.int .i64 qt) := HZ.out.cell 2
      have HC : Hid (k < c.length) := hid (by rw [HLE.out]; exact hlt)
      have HO2 := hid (ownsRow_kpD HO.out KW.out)
      clear HK HR KW HMW HO
      by_cases h1 : qn = n
      · subst h1
        go_wp2_with fail
        refine (CR.out W2 HK2.out).mono ?_
        rintro r w3 ⟨rfl, k3⟩
        have HZ3 := hid (HZ.out.kept k3 (fun h => h))
        have HK3 := hid (HK2.out.trans k3 (fun _ _ h => h))
        have HO3 := hid (ownsRow_kpD HO2.out k3)
        clear k3 c0 c1 c2 HZ HK2 HO2
        cases R with
        | true =>
          have HV : Hid (out ++ [(qn, qf, qt)] = if rightC c then ofF (c.take (k + 1)) qn else []) := hid (by
            have h := HTT.out
            rw [if_pos rfl] at h
            rw [HRR.out, if_pos rfl, ofF_snoc c qn k HC.out, HQ.out, if_pos rfl, h])
          have RM := hid (range_ofR HZ3.out)
          have MK := hid (make_run1 w3 qn qf qt)
          obtain ⟨i0, zz, hi, hz0, hz1, hz2, hz3⟩ := run_info3
          have B2 : Hid (out.length + [(qn, qf, qt)].length ≤ maxLen ∧ (out.length + [(qn, qf, qt)].length) * 24 ≤ 140737488355328 ∧ w.heap.size ≤ (w3.alloc (.cells #[.int .i64 qn, .int .i64 qf, .int .i64 qt] 61 (0, 0))).heap.size) := hid (by
            have h1 := HK3.out.size
            have h2 := ((Kp.refl Nb w3).alloc (.cells #[.int .i64 qn, .int .i64 qf, .int .i64 qt] 61 (0, 0))).size
            have h3 := HLN.out
            refine ⟨?_, ?_, by omega⟩ <;> rw [List.length_singleton]
            · unfold maxLen; omega
            · omega)
          go_wp2_with (first
            | (refine wpList_load_mid (by rfl) 61 (.tmp 7) (by rfl) M 0 (by rfl) (runL (qn, qf, qt)) _ RM.out hfs rfl (run_infoL (qn, qf, qt)) ?_)
            | (refine wpList_val (by rfl) _ _ (exec_buildSliceD rfl (qs := #[(0, .agg #[.int .i64 qn, .int .i64 qf, .int .i64 qt])]) (by simp [Act.eval, Act.put]) MK.out) ?_)
            | (at_builtin; refine wpList_append_rows (f := runL) (z := (0, 0, 0)) (c := 3) rfl _ _ 23 rfl w.heap.size 61 i0 zz 24 under_clock hi hz0 hz1 hz2 hz3 (by decide) _ _ _ rfl (ownsRow_kpD HO3.out ((Kp.refl Nb _).alloc _)) _ [(qn, qf, qt)] rfl (rows_oneR (Blk.new _ _ _)) (fun x hx => rfl) (fun x _ => run_one' x) B2.out.1 B2.out.2.1 B2.out.2.2 ?_))
          intro v9 w9 hown hgrow
          have K9 : Hid (Kp Nb w w9) := hid ((HK3.out.trans ((Kp.refl Nb w3).alloc (.cells #[.int .i64 qn, .int .i64 qf, .int .i64 qt] 61 (0, 0))) (fun _ _ h => h)).grown hgrow (fun g hg h => by have := (row_cells HO3.out hg).1; omega))
          have HO9 : Hid (w9.ownsRow w.heap.size 61 3 v9 (out ++ [(qn, qf, qt)]).length (flatR runL (out ++ [(qn, qf, qt)]))) := hid (by rw [List.length_append, flatR_append]; exact hown)
          obtain ⟨a9, c9, rfl⟩ := own_shape HO9.out
          clear hown hgrow
          go_wp2
          go_roundw
          case rel => exact ⟨k + 1, _, by rw [HLE.out]; omega, by go_num, HV, hid (by rw [List.length_append, List.length_singleton]; have := HLN.out; omega), HO9, K9⟩
          case measure => simp [intOf]; omega
        | false =>
          have HV : Hid (out = if rightC c then ofF (c.take (k + 1)) qn else []) := hid (by rw [HRR.out, if_neg (by decide), HTT.out, if_neg (by decide)])
          go_wp2
          go_roundw
          case rel => exact ⟨k + 1, _, by rw [HLE.out]; omega, by go_num, HV, hid (by have := HLN.out; omega), HO3, HK3⟩
          case measure => simp [intOf]; omega
      · have HV : Hid (out = if rightC c then ofF (c.take (k + 1)) n else []) := hid (by
          rw [HRR.out, ofF_snoc c n k HC.out, HQ.out, if_neg h1, List.append_nil]
          exact HTT.out)
        go_wp2
        go_roundw
        case rel => exact ⟨k + 1, _, by rw [HLE.out]; omega, by go_num, HV, hid (by have := HLN.out; omega), HO2, HK2⟩
        case measure => simp [intOf]; omega
    · obtain rfl : k = L := by omega
      have HU : Hid (out = Z) := hid (by have h := HTT.out; rw [← HLE.out, List.take_length] at h; exact h.trans HZE.out.symm)
      have HOK : Hid (∀ q ∈ out, RunOk q) := hid (fun q hq => by
        rw [HU.out, HZE.out] at hq
        split at hq
        · exact HOKC.out q (List.mem_filter.1 hq).1
        · simp at hq)
      go_wp2
      go_ret
      exact ⟨_, rfl, by rw [← HU.out]; exact cl_owned HO.out HOK.out, own_of HO.out, HK.out⟩

end Go.Proofs.YtbbfibgijackhaaGreatDoor

namespace Go.Proofs.YtbbfibgijackhaaGreatDoor
open Go.RowKit

theorem hasC_no {c : List RunQ} {n d : Int} (h : ∀ r ∈ c, inR r (n, d, d) = false) : hasC c n d = false := by
  unfold hasC withinB
  rw [Bool.and_eq_false_iff]
  refine .inr (Bool.eq_false_iff.2 fun h2 => ?_)
  obtain ⟨r, hr, h3⟩ := List.any_eq_true.1 h2
  rw [h r hr] at h3
  cases h3
theorem hasC_yes {c : List RunQ} {n d : Int} {r : RunQ} (hr : r ∈ c) (h : inR r (n, d, d) = true) : hasC c n d = (rightC c && goodB n d) := by
  unfold hasC withinB
  rw [List.any_eq_true.2 ⟨r, hr, h⟩, Bool.and_true]
def RhR (w : World) (N : Nat) (c : List RunQ) (n d : Int) (i : Value) (wr : World) : Prop := ∃ k : Nat, k ≤ c.length ∧ i = .int .i64 k ∧ Hid (∀ r ∈ c.take k, inR r (n, d, d) = false) ∧ Hid (Blk wr N 25 [.int .i64 n, .int .i64 d]) ∧ Hid (Kp Nb w wr)
set_option maxRecDepth 100000 in
set_option maxHeartbeats 4000000 in
theorem rhas_any (v : Value) (c : List RunQ) (n d : Int) (w : World) (hs : ClSl w v c) (hl : c.length ≤ 1000) :
    Calls Tryz.prog 14 #[v, dotV n d] w fun e w' => e = .returned (.bool (hasC c n d)) ∧ Kp Nb w w' := by
  obtain ⟨pv, dv, rfl⟩ := hs.shape
  obtain ⟨L, hL⟩ : ∃ L, c.length = L := ⟨_, rfl⟩
  obtain ⟨N, hN⟩ : ∃ N, w.heap.size = N := ⟨_, rfl⟩
  obtain ⟨W, hW⟩ : ∃ W, W = w.alloc (.cells #[.int .i64 n, .int .i64 d] 25) := ⟨_, rfl⟩
  have HB0 : Hid (Blk W N 25 [.int .i64 n, .int .i64 d]) := hid (by rw [hW, ← hN]; exact Blk.new w _ _)
  have K0 : Hid (Kp Nb w W) := hid (by rw [hW]; exact (Kp.refl Nb w).alloc _)
  have HLE := hid hL
  rw [hL] at hs hl ⊢
  have HS := hid hs
  have hLb := hl
  obtain ⟨R, hR⟩ : ∃ b, rightC c = b := ⟨_, rfl⟩
  obtain ⟨gb, hgb⟩ : ∃ b, goodB n d = b := ⟨_, rfl⟩
  obtain ⟨Z, hZ⟩ : ∃ b, hasC c n d = b := ⟨_, rfl⟩
  have HNO : Hid ((∀ r ∈ c, inR r (n, d, d) = false) → Z = false) := hid (fun h => by rw [← hZ]; exact hasC_no h)
  have HYE : Hid (∀ r ∈ c, inR r (n, d, d) = true → Z = (R && gb)) := hid (fun r hr h => by rw [← hZ, hasC_yes hr h, hR, hgb])
  rw [hZ]
  have CR : Hid (∀ wx, Kp Nb w wx → Calls Tryz.prog 10 #[.slice pv L dv] wx fun e w' => e = .returned (.bool R) ∧ Kp Nb wx w') := hid (fun wx k => by rw [← hR]; exact rright_any _ c wx (hs.kept k) (by omega))
  have CG : Hid (∀ wx, Calls Tryz.prog 8 #[.agg #[.int .i64 n, .int .i64 d]] wx fun e w' => e = .returned (.bool gb) ∧ Kp Nb wx w') := hid (fun wx => by rw [← hgb]; exact rgood_any n d wx)
  clear hs hL hl hR hgb hZ
  go_enter Tryz.func14, Tryz.ntmps14
  go_upto_region 1 with fail
  rw [← hW]
  try simp only [hN]
  clear hW hN
  go_wp2_with fail
  go_loopw [9] (RhR w N c n d) (fun i _ => L - (intOf i).toNat)
  case atStart => exact ⟨0, Nat.zero_le _, rfl, hid (by simp), HB0, K0⟩
  case round =>
    obtain ⟨k, hk, rfl, HJ, HB, HK⟩ := hrel
    rw [HLE.out] at hk
    by_cases hlt : k < L
    · obtain ⟨blk, off, cap, e1, hc, hm, hcell⟩ := cl_shape (HS.out.kept HK.out) (by intro h; have := HLE.out; rw [h, List.length_nil] at this; omega)
      rw [HLE.out] at e1 hc hcell
      injection e1 with e1 _ e2
      subst e1 e2
      have HR := hid (hcell k hlt)
      obtain ⟨⟨qn, qf, qt⟩, hq⟩ : ∃ q, runAt c k = q := ⟨_, rfl⟩
      have HOK := HS.out.1 k
      rw [hq] at HR HOK
      have HQ := hid hq
      obtain ⟨M, hM⟩ : ∃ M, wr.heap.size = M := ⟨_, rfl⟩
      obtain ⟨W2, hW2⟩ : ∃ W, W = (wr.alloc (.cells (runL (0, 0, 0)).toArray 61)).setCells M 0 (runL (qn, qf, qt)) := ⟨_, rfl⟩
      have hz := Blk.new wr 61 (runL (0, 0, 0))
      rw [hM] at hz
      have KW : Hid (Kp Nb wr W2) := hid (by rw [hW2]; exact Kp.setCells (fun h => absurd h (by omega)) _ 0 _ ((Kp.refl Nb wr).alloc _))
      have HMW : Hid (wr.heap.size = M) := hid hM
      have TH := hid (run_there (q := (qn, qf, qt)) hz)
      have HZ : Hid (Blk W2 M 61 (runL (qn, qf, qt))) := hid (by rw [hW2]; exact row_set hz rfl)
      have HK2 := hid (HK.out.trans KW.out (fun _ _ h => h))
      unfold maxLen at hm
      obtain ⟨fs, hfs⟩ := under_run
      clear hz hcell hq
      go_upto_region 4 with (first
        | (refine wpList_load_mid (by rfl) 61 (.tmp 11) (by rfl) blk (off + k * 3) (by rfl) (runL (qn, qf, qt)) _ HR.out hfs rfl (run_infoL (qn, qf, qt)) ?_)
        | (refine wpList_store_mid (by rfl) 61 (.tmp 6) (.tmp 12) (by rfl) M 0 (runL (qn, qf, qt)).toArray (by rfl) (by rfl) TH.out (run_infoA (qn, qf, qt)) (run_one (qn, qf, qt)) ?_))
      rw [show (wr.alloc (.cells #[.int .i64 0, .int .i64 0, .int .i64 0] 61)).setCells M 0 (runL (qn, qf, qt)) = W2 from hW2.symm]
      clear hW2 TH hM
      have c0 : W2.cell? ⟨M, 0, none⟩ = some (.int .i64 qn) := HZ.out.cell 0
      have c1 : W2.cell? ⟨M, 1, none⟩ = some (.int .i64 qf) := HZ.out.cell 1
      have c2 : W2.cell? ⟨M, 2, none⟩ = some (.int .i64 qt) := HZ.out.cell 2
      have HC : Hid (k < c.length) := hid (by rw [HLE.out]; exact hlt)
      have HB2 := hid (HB.out.kept KW.out (fun h => h))
      have HIN : Hid (inR (qn, qf, qt) (n, d, d) = true → Z = (R && gb)) := hid (fun h => HYE.out _ (runAt_mem HC.out) (by rw [HQ.out]; exact h))
      have HNX : Hid (inR (qn, qf, qt) (n, d, d) = false → ∀ r ∈ c.take (k + 1), inR r (n, d, d) = false) := hid (fun h r hr => by
        rw [take_snocR c k HC.out, HQ.out] at hr
        rcases List.mem_append.1 hr with hr | hr
        · exact HJ.out r hr
        · rw [List.mem_singleton.1 hr]; exact h)
      have e0 : W2.cell? ⟨N, 0, none⟩ = some (.int .i64 n) := HB2.out.cell 0
      have e1 : W2.cell? ⟨N, 1, none⟩ = some (.int .i64 d) := HB2.out.cell 1
      clear HK HR KW HMW HB HJ
      by_cases h1 : qn = n
      · subst h1
        by_cases h2 : qf ≤ d
        · by_cases h3 : d ≤ qt
          · have hZ := HIN.out (by unfold inR; simp [h2, h3])
            have HZV := hid hZ
            clear hZ
            go_wp2_with fail
            refine (CR.out W2 HK2.out).mono ?_
            rintro r w3 ⟨rfl, k3⟩
            have HB3 := hid (HB2.out.kept k3 (fun h => h))
            have HK3 := hid (HK2.out.trans k3 (fun _ _ h => h))
            clear k3 c0 c1 c2 e0 e1
            have e0 : w3.cell? ⟨N, 0, none⟩ = some (.int .i64 qn) := HB3.out.cell 0
            have e1 : w3.cell? ⟨N, 1, none⟩ = some (.int .i64 d) := HB3.out.cell 1
            cases R with
            | true =>
              have hZ : Z = gb := HZV.out
              subst hZ
              go_wp2_with fail
              refine (CG.out w3).mono ?_
              rintro r w4 ⟨rfl, k4⟩
              have HK4 := hid (HK3.out.trans k4 (fun _ _ h => h))
              clear k4 e0 e1
              go_wp2
              go_ret
              exact ⟨rfl, HK4.out⟩
            | false =>
              have hZ : Z = false := HZV.out
              subst hZ
              go_wp2
              go_ret
              exact ⟨rfl, HK3.out⟩
          · have HX := hid (HNX.out (by unfold inR; simp [h3]))
            go_wp2
            go_roundw
            case rel => exact ⟨k + 1, by rw [HLE.out]; omega, by go_num, HX, HB2, HK2⟩
            case measure => simp [intOf]; omega
        · have HX := hid (HNX.out (by unfold inR; simp [h2]))
          go_wp2
          go_roundw
          case rel => exact ⟨k + 1, by rw [HLE.out]; omega, by go_num, HX, HB2, HK2⟩
          case measure => simp [intOf]; omega
      · have HX := hid (HNX.out (by unfold inR; simp [h1]))
        go_wp2
        go_roundw
        case rel => exact ⟨k + 1, by rw [HLE.out]; omega, by go_num, HX, HB2, HK2⟩
        case measure => simp [intOf]; omega
    · obtain rfl : k = L := by omega
      have hZ : Z = false := HNO.out (by have h := HJ.out; rwa [← HLE.out, List.take_length] at h)
      subst hZ
      go_wp2
      go_ret
      exact ⟨rfl, HK.out⟩

end Go.Proofs.YtbbfibgijackhaaGreatDoor

namespace Go.Proofs.YtbbfibgijackhaaGreatDoor
open Go.RowKit

def anyB (b : List RunQ) (r : RunQ) : Bool := b.any fun x => inR x r
def belowB (a b : List RunQ) : Bool := a.all fun r => anyB b r
theorem below_in {a b : List RunQ} (ha : Rt a) (hb : Rt b) : belowB a b = true ↔ ∀ n d, InC a n d → InC b n d := by
  unfold belowB anyB
  rw [List.all_eq_true]
  constructor
  · rintro h n d ⟨r, hr, h1⟩
    obtain ⟨x, hx, h2⟩ := List.any_eq_true.1 (h r hr)
    have h2 := of_decide_eq_true h2
    unfold In1 at h1
    exact ⟨x, hx, by unfold In1; omega⟩
  · intro h r hr
    have gr := goodR_of.1 (ha.1 r hr)
    obtain ⟨x, hx, h1⟩ := h r.1 r.2.1 ⟨r, hr, rfl, by omega, by omega⟩
    refine List.any_eq_true.2 ⟨x, hx, decide_eq_true ?_⟩
    unfold In1 at h1
    rcases Int.lt_or_le x.2.2 r.2.2 with h2 | h2
    · exfalso
      obtain ⟨y, hy, h3⟩ := h r.1 (x.2.2 + 1) ⟨r, hr, rfl, by omega, by omega⟩
      unfold In1 at h3
      have gx := goodR_of.1 (hb.1 x hx)
      have gy := goodR_of.1 (hb.1 y hy)
      obtain ⟨i, hi, rfl⟩ := List.mem_iff_getElem.1 hx
      obtain ⟨j, hj, rfl⟩ := List.mem_iff_getElem.1 hy
      have hp := List.pairwise_iff_getElem.1 hb.2
      rcases Nat.lt_trichotomy i j with e | e | e
      · have := hp i j hi hj e
        unfold Gap at this
        omega
      · subst e
        omega
      · have := hp j i hj hi e
        unfold Gap at this
        omega
    · omega
theorem less_nil {a b : List RunQ} (ha : Rt a) (hb : Rt b) : lessC a b = [] ↔ belowB a b = true := by
  rw [rt_empty (less_rt ha hb), below_in ha hb]
  constructor
  · intro h n d h1
    exact Classical.byContradiction fun h2 => h n d ((less_in ha hb n d).2 ⟨h1, h2⟩)
  · intro h n d h1
    obtain ⟨h2, h3⟩ := (less_in ha hb n d).1 h1
    exact h3 (h n d h2)
def cmpB (x y : Bool) : Int := if !x && !y then 2 else if x && y then 0 else if x then -1 else 1
theorem cmp_below {a b : List RunQ} (ha : rightC a = true) (hb : rightC b = true) : cmpC a b = cmpB (belowB a b) (belowB b a) := by
  have h1 := less_nil (rightC_rt.1 ha) (rightC_rt.1 hb)
  have h2 := less_nil (rightC_rt.1 hb) (rightC_rt.1 ha)
  unfold cmpC
  rw [ha, hb]
  cases hx : belowB a b
  · rw [hx] at h1
    have n1 : lessC a b ≠ [] := fun h => by have := h1.1 h; cases this
    cases hy : belowB b a
    · rw [hy] at h2
      have n2 : lessC b a ≠ [] := fun h => by have := h2.1 h; cases this
      simp [n1, n2, cmpB]
    · rw [hy] at h2
      have n2 := h2.2 rfl
      simp [n1, n2, cmpB]
  · rw [hx] at h1
    have n1 := h1.2 rfl
    cases hy : belowB b a
    · rw [hy] at h2
      have n2 : lessC b a ≠ [] := fun h => by have := h2.1 h; cases this
      simp [n1, n2, cmpB]
    · rw [hy] at h2
      have n2 := h2.2 rfl
      simp [n1, n2, cmpB]
def RbR (w : World) (a b : List RunQ) (i : Value) (wr : World) : Prop := ∃ k : Nat, k ≤ a.length ∧ i = .int .i64 k ∧ Hid (∀ r ∈ a.take k, anyB b r = true) ∧ Hid (Kp Nb w wr)
def RiR (w : World) (b : List RunQ) (q : RunQ) (i u : Value) (wr : World) : Prop := ∃ (k : Nat) (t : Bool), k ≤ b.length ∧ i = .int .i64 k ∧ u = .bool t ∧ Hid (t = anyB (b.take k) q) ∧ Hid (Kp Nb w wr)
theorem anyB_snoc (b : List RunQ) (q : RunQ) (k : Nat) (hk : k < b.length) : anyB (b.take (k + 1)) q = (anyB (b.take k) q || inR (runAt b k) q) := by
  unfold anyB
  rw [take_snocR b k hk, List.any_append]
  simp
set_option maxRecDepth 100000 in
set_option maxHeartbeats 8000000 in
theorem rbelow_any (va vb : Value) (a b : List RunQ) (w : World) (ha : ClSl w va a) (hb : ClSl w vb b) (la : a.length ≤ 1000) (lb : b.length ≤ 1000) :
    Calls Tryz.prog 46 #[va, vb] w fun e w' => e = .returned (.bool (belowB a b)) ∧ Kp Nb w w' := by
  obtain ⟨pa, da, rfl⟩ := ha.shape
  obtain ⟨pb, db, rfl⟩ := hb.shape
  obtain ⟨nA, hnA⟩ : ∃ n, a.length = n := ⟨_, rfl⟩
  obtain ⟨nB, hnB⟩ : ∃ n, b.length = n := ⟨_, rfl⟩
  have HLE := hid hnA
  have HLEB := hid hnB
  rw [hnA] at ha la
  rw [hnB] at hb lb
  rw [hnA, hnB]
  have HS := hid ha
  have HSB := hid hb
  have hLb := la
  have hLb2 := lb
  obtain ⟨Z, hZ⟩ : ∃ z, belowB a b = z := ⟨_, rfl⟩
  have HZE := hid hZ
  rw [hZ]
  clear ha hb la lb hnA hnB hZ
  go_enter Tryz.func46, Tryz.ntmps46
  go_wp2_with fail
  go_loopw [12] (RbR w a b) (fun i _ => nA - (intOf i).toNat)
  case atStart => exact ⟨0, Nat.zero_le _, rfl, hid (by simp), hid (Kp.refl _ _)⟩
  case round =>
    obtain ⟨k, hk, rfl, HJ, HK⟩ := hrel
    rw [HLE.out] at hk
    by_cases hlt : k < nA
    · obtain ⟨blk, off, cap, e1, hc, hm, hcell⟩ := cl_shape (HS.out.kept HK.out) (by intro h; have := HLE.out; rw [h, List.length_nil] at this; omega)
      rw [HLE.out] at e1 hc hcell
      injection e1 with e1 _ e2
      subst e1 e2
      have HR := hid (hcell k hlt)
      obtain ⟨⟨qn, qf, qt⟩, hq⟩ : ∃ q, runAt a k = q := ⟨_, rfl⟩
      have HOK := HS.out.1 k
      rw [hq] at HR HOK
      have HQ := hid hq
      obtain ⟨M, hM⟩ : ∃ M, wr.heap.size = M := ⟨_, rfl⟩
      obtain ⟨W2, hW2⟩ : ∃ W, W = (wr.alloc (.cells (runL (0, 0, 0)).toArray 61)).setCells M 0 (runL (qn, qf, qt)) := ⟨_, rfl⟩
      have hz := Blk.new wr 61 (runL (0, 0, 0))
      rw [hM] at hz
      have KW : Hid (Kp Nb wr W2) := hid (by rw [hW2]; exact Kp.setCells (fun h => absurd h (by omega)) _ 0 _ ((Kp.refl Nb wr).alloc _))
      have HMW : Hid (wr.heap.size = M) := hid hM
      have TH := hid (run_there (q := (qn, qf, qt)) hz)
      have HZ : Hid (Blk W2 M 61 (runL (qn, qf, qt))) := hid (by rw [hW2]; exact row_set hz rfl)
      have HK2 := hid (HK.out.trans KW.out (fun _ _ h => h))
      unfold maxLen at hm
      obtain ⟨fs, hfs⟩ := under_run
      clear hz hcell hq
      go_upto_region 4 with (first
        | (refine wpList_load_mid (by rfl) 61 (.tmp 14) (by rfl) blk (off + k * 3) (by rfl) (runL (qn, qf, qt)) _ HR.out hfs rfl (run_infoL (qn, qf, qt)) ?_)
        | (refine wpList_store_mid (by rfl) 61 (.tmp 6) (.tmp 15) (by rfl) M 0 (runL (qn, qf, qt)).toArray (by rfl) (by rfl) TH.out (run_infoA (qn, qf, qt)) (run_one (qn, qf, qt)) ?_))
      rw [show (wr.alloc (.cells #[.int .i64 0, .int .i64 0, .int .i64 0] 61)).setCells M 0 (runL (qn, qf, qt)) = W2 from hW2.symm]
      clear hW2 TH hM
      have c0 : W2.cell? ⟨M, 0, none⟩ = some (.int .i64 qn) := HZ.out.cell 0
      have c1 : W2.cell? ⟨M, 1, none⟩ = some (.int .i64 qf) := HZ.out.cell 1
      have c2 : W2.cell? ⟨M, 2, none⟩ = some (.int .i64 qt) := HZ.out.cell 2
      have HC : Hid (k < a.length) := hid (by rw [HLE.out]; exact hlt)
      have HSB2 := hid (HSB.out.kept HK2.out)
      clear HK HR KW HMW c0 c1 c2
      go_wp2_with fail
      go_loopw [18, 7] (RiR W2 b (qn, qf, qt)) (fun i _ _ => nB - (intOf i).toNat)
      case atStart => exact ⟨0, false, Nat.zero_le _, rfl, rfl, hid rfl, hid (Kp.refl _ _)⟩
      case round =>
        obtain ⟨j, t, hj, rfl, rfl, HTE, HKJ⟩ := hrel
        rw [HLEB.out] at hj
        by_cases hltj : j < nB
        · obtain ⟨blkx, offx, capx, e1, hc, hm, hcell⟩ := cl_shape (HSB2.out.kept HKJ.out) (by intro h; have := HLEB.out; rw [h, List.length_nil] at this; omega)
          rw [HLEB.out] at e1 hc hcell
          injection e1 with e1 _ e2
          subst e1 e2
          have HRX := hid (hcell j hltj)
          obtain ⟨⟨xn, xf, xt⟩, hq⟩ : ∃ q, runAt b j = q := ⟨_, rfl⟩
          have HOKX := HSB2.out.1 j
          rw [hq] at HRX HOKX
          have HQX := hid hq
          obtain ⟨M3, hM⟩ : ∃ M3, wr.heap.size = M3 := ⟨_, rfl⟩
          obtain ⟨W3, hW2⟩ : ∃ W, W = (wr.alloc (.cells (runL (0, 0, 0)).toArray 61)).setCells M3 0 (runL (xn, xf, xt)) := ⟨_, rfl⟩
          have hz := Blk.new wr 61 (runL (0, 0, 0))
          rw [hM] at hz
          have KWX : Hid (Kp Nb wr W3) := hid (by rw [hW2]; exact Kp.setCells (fun h => absurd h (by omega)) _ 0 _ ((Kp.refl Nb wr).alloc _))
          have HMWX : Hid (wr.heap.size = M3) := hid hM
          have THX := hid (run_there (q := (xn, xf, xt)) hz)
          have HZX : Hid (Blk W3 M3 61 (runL (xn, xf, xt))) := hid (by rw [hW2]; exact row_set hz rfl)
          have HK3 := hid (HKJ.out.trans KWX.out (fun _ _ h => h))
          unfold maxLen at hm
          obtain ⟨fsx, hfsx⟩ := under_run
          clear hz hcell hq
          go_upto_region 8 with (first
            | (refine wpList_load_mid (by rfl) 61 (.tmp 20) (by rfl) blkx (offx + j * 3) (by rfl) (runL (xn, xf, xt)) _ HRX.out hfsx rfl (run_infoL (xn, xf, xt)) ?_)
            | (refine wpList_store_mid (by rfl) 61 (.tmp 9) (.tmp 21) (by rfl) M3 0 (runL (xn, xf, xt)).toArray (by rfl) (by rfl) THX.out (run_infoA (xn, xf, xt)) (run_one (xn, xf, xt)) ?_))
          rw [show (wr.alloc (.cells #[.int .i64 0, .int .i64 0, .int .i64 0] 61)).setCells M3 0 (runL (xn, xf, xt)) = W3 from hW2.symm]
          clear hW2 THX hM
          have d0 : W3.cell? ⟨M3, 0, none⟩ = some (.int .i64 xn) := HZX.out.cell 0
          have d1 : W3.cell? ⟨M3, 1, none⟩ = some (.int .i64 xf) := HZX.out.cell 1
          have d2 : W3.cell? ⟨M3, 2, none⟩ = some (.int .i64 xt) := HZX.out.cell 2
          have HCJ : Hid (j < b.length) := hid (by rw [HLEB.out]; exact hltj)
          have HZ3 := hid (HZ.out.kept HK3.out (fun h => h))
          have HSN := hid (anyB_snoc b (qn, qf, qt) j HCJ.out)
          rw [HQX.out, ← HTE.out] at HSN
          have g0 : W3.cell? ⟨M, 0, none⟩ = some (.int .i64 qn) := HZ3.out.cell 0
          have g1 : W3.cell? ⟨M, 1, none⟩ = some (.int .i64 qf) := HZ3.out.cell 1
          have g2 : W3.cell? ⟨M, 2, none⟩ = some (.int .i64 qt) := HZ3.out.cell 2
          clear HKJ HRX KWX HMWX HTE
          cases t with
          | true =>
            have HV : Hid (true = anyB (b.take (j + 1)) (qn, qf, qt)) := hid (by rw [HSN.out]; rfl)
            go_wp2
            go_roundw
            case rel => exact ⟨j + 1, true, by rw [HLEB.out]; omega, by go_num, rfl, HV, HK3⟩
            case measure => simp [intOf]; omega
          | false =>
            by_cases h1 : xn = qn
            · subst h1
              by_cases h2 : xf ≤ qf
              · by_cases h3 : qt ≤ xt
                · have HV : Hid (true = anyB (b.take (j + 1)) (xn, qf, qt)) := hid (by rw [HSN.out]; unfold inR; simp [h2, h3])
                  go_wp2
                  go_roundw
                  case rel => exact ⟨j + 1, true, by rw [HLEB.out]; omega, by go_num, rfl, HV, HK3⟩
                  case measure => simp [intOf]; omega
                · have HV : Hid (false = anyB (b.take (j + 1)) (xn, qf, qt)) := hid (by rw [HSN.out]; unfold inR; simp [h3])
                  go_wp2
                  go_roundw
                  case rel => exact ⟨j + 1, false, by rw [HLEB.out]; omega, by go_num, rfl, HV, HK3⟩
                  case measure => simp [intOf]; omega
              · have HV : Hid (false = anyB (b.take (j + 1)) (xn, qf, qt)) := hid (by rw [HSN.out]; unfold inR; simp [h2])
                go_wp2
                go_roundw
                case rel => exact ⟨j + 1, false, by rw [HLEB.out]; omega, by go_num, rfl, HV, HK3⟩
                case measure => simp [intOf]; omega
            · have HV : Hid (false = anyB (b.take (j + 1)) (qn, qf, qt)) := hid (by rw [HSN.out]; unfold inR; simp [h1])
              go_wp2
              go_roundw
              case rel => exact ⟨j + 1, false, by rw [HLEB.out]; omega, by go_num, rfl, HV, HK3⟩
              case measure => simp [intOf]; omega
        · obtain rfl : j = nB := by omega
          have HTF : Hid (t = anyB b (qn, qf, qt)) := hid (by have h := HTE.out; rwa [← HLEB.out, List.take_length] at h)
          have HKF := hid (HK2.out.trans HKJ.out (fun _ _ h => h))
          cases t with
          | true =>
            have HX : Hid (∀ r ∈ a.take (k + 1), anyB b r = true) := hid (fun r hr => by
              rw [take_snocR a k HC.out, HQ.out] at hr
              rcases List.mem_append.1 hr with hr | hr
              · exact HJ.out r hr
              · rw [List.mem_singleton.1 hr]; exact HTF.out.symm)
            go_wp2
            go_roundw
            case rel => exact ⟨k + 1, by rw [HLE.out]; omega, by go_num, HX, HKF⟩
            case measure => simp [intOf]; omega
          | false =>
            have hZ : Z = false := by
              rw [← HZE.out]
              refine Bool.eq_false_iff.2 fun h => ?_
              have h2 := List.all_eq_true.1 h _ (runAt_mem HC.out)
              rw [HQ.out, ← HTF.out] at h2
              cases h2
            subst hZ
            go_wp2
            go_ret
            exact ⟨rfl, HKF.out⟩
    · obtain rfl : k = nA := by omega
      have hZ : Z = true := by
        rw [← HZE.out]
        exact List.all_eq_true.2 (fun r hr => HJ.out r (by rw [← HLE.out, List.take_length]; exact hr))
      subst hZ
      go_wp2
      go_ret
      exact ⟨rfl, HK.out⟩

end Go.Proofs.YtbbfibgijackhaaGreatDoor

namespace Go.Proofs.YtbbfibgijackhaaGreatDoor
open Go.RowKit

set_option maxRecDepth 100000 in
set_option maxHeartbeats 8000000 in
theorem rcompare_any (va vb : Value) (a b : List RunQ) (w : World) (ha : ClSl w va a) (hb : ClSl w vb b) (la : a.length ≤ 1000) (lb : b.length ≤ 1000) :
    Calls Tryz.prog 23 #[va, vb] w fun e w' => e = .returned (.int .i64 (cmpC a b)) ∧ Kp Nb w w' := by
  obtain ⟨x, hx⟩ : ∃ z, belowB a b = z := ⟨_, rfl⟩
  obtain ⟨y, hy⟩ : ∃ z, belowB b a = z := ⟨_, rfl⟩
  have CX : Hid (∀ wq, Kp Nb w wq → Calls Tryz.prog 46 #[va, vb] wq fun e w' => e = .returned (.bool x) ∧ Kp Nb wq w') := hid (fun wq k => by rw [← hx]; exact rbelow_any va vb a b wq (ha.kept k) (hb.kept k) la lb)
  have CY : Hid (∀ wq, Kp Nb w wq → Calls Tryz.prog 46 #[vb, va] wq fun e w' => e = .returned (.bool y) ∧ Kp Nb wq w') := hid (fun wq k => by rw [← hy]; exact rbelow_any vb va b a wq (hb.kept k) (ha.kept k) lb la)
  obtain ⟨ra, hra⟩ : ∃ z, rightC a = z := ⟨_, rfl⟩
  obtain ⟨rb, hrb⟩ : ∃ z, rightC b = z := ⟨_, rfl⟩
  have CA : Hid (∀ wq, Kp Nb w wq → Calls Tryz.prog 10 #[va] wq fun e w' => e = .returned (.bool ra) ∧ Kp Nb wq w') := hid (fun wq k => by rw [← hra]; exact rright_any va a wq (ha.kept k) la)
  have CB : Hid (∀ wq, Kp Nb w wq → Calls Tryz.prog 10 #[vb] wq fun e w' => e = .returned (.bool rb) ∧ Kp Nb wq w') := hid (fun wq k => by rw [← hrb]; exact rright_any vb b wq (hb.kept k) lb)
  obtain ⟨Z, hZ⟩ : ∃ z, cmpC a b = z := ⟨_, rfl⟩
  have HZ : Hid (Z = if ra && rb then cmpB x y else 2) := hid (by
    rw [← hZ]
    cases ra with
    | false => unfold cmpC; rw [hra]; rfl
    | true =>
      cases rb with
      | false => unfold cmpC; rw [hra, hrb]; rfl
      | true => rw [cmp_below hra hrb, hx, hy]; rfl)
  rw [hZ]
  obtain ⟨pa, da, rfl⟩ := ha.shape
  obtain ⟨pb, db, rfl⟩ := hb.shape
  obtain ⟨nA, hnA⟩ : ∃ n, a.length = n := ⟨_, rfl⟩
  obtain ⟨nB, hnB⟩ : ∃ n, b.length = n := ⟨_, rfl⟩
  rw [hnA, hnB] at CX CY ⊢
  rw [hnA] at CA
  rw [hnB] at CB
  have HK := hid (Kp.refl Nb w)
  clear ha hb la lb hx hy hra hrb hZ hnA hnB
  go_enter Tryz.func23, Tryz.ntmps23
  go_wp2_with fail
  refine (CA.out _ HK.out).mono ?_
  rintro r u1 ⟨rfl, kk⟩
  have HK := hid (HK.out.trans kk (fun _ _ h => h))
  clear kk
  cases ra with
  | false =>
    obtain rfl : Z = 2 := HZ.out
    go_wp2
    go_ret
    exact ⟨rfl, HK.out⟩
  | true =>
    go_wp2_with fail
    refine (CB.out _ HK.out).mono ?_
    rintro r u2 ⟨rfl, kk⟩
    have HK := hid (HK.out.trans kk (fun _ _ h => h))
    clear kk
    cases rb with
    | false =>
      obtain rfl : Z = 2 := HZ.out
      go_wp2
      go_ret
      exact ⟨rfl, HK.out⟩
    | true =>
      go_wp2_with fail
      refine (CX.out _ HK.out).mono ?_
      rintro r u3 ⟨rfl, kk⟩
      have HK := hid (HK.out.trans kk (fun _ _ h => h))
      clear kk
      cases x with
      | false =>
        go_wp2_with fail
        refine (CY.out _ HK.out).mono ?_
        rintro r u4 ⟨rfl, kk⟩
        have HK := hid (HK.out.trans kk (fun _ _ h => h))
        clear kk
        cases y with
        | false =>
          obtain rfl : Z = 2 := HZ.out
          go_wp2
          go_ret
          exact ⟨rfl, HK.out⟩
        | true =>
          go_wp2_with fail
          refine (CX.out _ HK.out).mono ?_
          rintro r u5 ⟨rfl, kk⟩
          have HK := hid (HK.out.trans kk (fun _ _ h => h))
          clear kk
          go_wp2_with fail
          refine (CX.out _ HK.out).mono ?_
          rintro r u6 ⟨rfl, kk⟩
          have HK := hid (HK.out.trans kk (fun _ _ h => h))
          clear kk
          obtain rfl : Z = 1 := HZ.out
          go_wp2
          go_ret
          exact ⟨rfl, HK.out⟩
      | true =>
        go_wp2_with fail
        refine (CX.out _ HK.out).mono ?_
        rintro r u7 ⟨rfl, kk⟩
        have HK := hid (HK.out.trans kk (fun _ _ h => h))
        clear kk
        go_wp2_with fail
        refine (CY.out _ HK.out).mono ?_
        rintro r u8 ⟨rfl, kk⟩
        have HK := hid (HK.out.trans kk (fun _ _ h => h))
        clear kk
        cases y with
        | false =>
          go_wp2_with fail
          refine (CX.out _ HK.out).mono ?_
          rintro r u9 ⟨rfl, kk⟩
          have HK := hid (HK.out.trans kk (fun _ _ h => h))
          clear kk
          obtain rfl : Z = -1 := HZ.out
          go_wp2
          go_ret
          exact ⟨rfl, HK.out⟩
        | true =>
          obtain rfl : Z = 0 := HZ.out
          go_wp2
          go_ret
          exact ⟨rfl, HK.out⟩
end Go.Proofs.YtbbfibgijackhaaGreatDoor

namespace Go.Proofs.YtbbfibgijackhaaGreatDoor
open Go.RowKit

theorem exec_neqRun {ev : Operand → Value} {o : Oper} {x y : Operand} {t' : TypeId} {p q : RunQ} {bb : Bool} {w : World} (ho : o.op = .binOp .neq 61 x y t') (hx : ev x = runV p) (hy : ev y = runV q) (hb : decide (p = q) = bb) : (execOp ev o).run Tryz.prog w = .ok (.value (.bool (!bb))) w := by
  obtain ⟨xs, hxs⟩ : ∃ xs : Array Value, (runL p).toArray = xs := ⟨_, rfl⟩
  obtain ⟨ys, hys⟩ : ∃ ys : Array Value, (runL q).toArray = ys := ⟨_, rfl⟩
  have h : Sem.run Tryz.prog (Op.equal 61 (.agg xs) (.agg ys)) w = .ok (decide (p = q)) w := by rw [← hxs, ← hys]; exact eq_run p q w
  rw [hb] at h
  rw [show runV p = .agg xs from congrArg Value.agg hxs] at hx
  rw [show runV q = .agg ys from congrArg Value.agg hys] at hy
  have h1 : Sem.run Tryz.prog (eqGuard .neq 61 x y (.agg xs) (.agg ys)) w = .ok () w := by go_simp
  have h2 : Sem.run Tryz.prog (binOp .neq 61 (.agg xs) (.agg ys)) w = .ok (.bool (!bb)) w := by
    show Sem.run Tryz.prog (do pure (Value.bool (!(← Op.equal 61 (.agg xs) (.agg ys))))) w = _
    simp only [Sem.run_bind, Sem.run_pure, Result.andThen_ok, h]
  unfold execOp
  simp only [ho, hx, hy, Sem.run_bind, Sem.run_pure, Result.andThen_ok, h1, h2]
def RsR (w : World) (a b : List RunQ) (i : Value) (wr : World) : Prop := ∃ k : Nat, k ≤ a.length ∧ i = .int .i64 k ∧ Hid (∀ j, j < k → runAt a j = runAt b j) ∧ Hid (Kp Nb w wr)
set_option maxRecDepth 100000 in
set_option maxHeartbeats 8000000 in
theorem rsame_any (va vb : Value) (a b : List RunQ) (w : World) (ha : ClSl w va a) (hb : ClSl w vb b) (la : a.length ≤ 1000) :
    Calls Tryz.prog 26 #[va, vb] w fun e w' => e = .returned (.bool (decide (a = b))) ∧ Kp Nb w w' := by
  obtain ⟨pa, da, rfl⟩ := ha.shape
  obtain ⟨pb, db, rfl⟩ := hb.shape
  obtain ⟨nA, hnA⟩ : ∃ n, a.length = n := ⟨_, rfl⟩
  obtain ⟨nB, hnB⟩ : ∃ n, b.length = n := ⟨_, rfl⟩
  have HNA := hid hnA
  have HNB := hid hnB
  rw [hnA] at ha la
  rw [hnB] at hb
  rw [hnA, hnB]
  have HA := hid ha
  have HB := hid hb
  have hLa := la
  obtain ⟨Z, hZ⟩ : ∃ z, decide (a = b) = z := ⟨_, rfl⟩
  have HZ := hid hZ
  rw [hZ]
  clear ha hb la hnA hnB hZ
  go_enter Tryz.func26, Tryz.ntmps26
  by_cases hl : nA = nB
  · subst hl
    go_wp2_with fail
    go_loopw [13] (RsR w a b) (fun i _ => nA - (intOf i).toNat)
    case atStart => exact ⟨0, Nat.zero_le _, rfl, hid (fun j hj => by omega), hid (Kp.refl _ _)⟩
    case round =>
      obtain ⟨k, hk, rfl, HJ, HK⟩ := hrel
      rw [HNA.out] at hk
      by_cases hlt : k < nA
      · obtain ⟨g1, o1, d1, e1, hc1, -, hcell1⟩ := cl_shape (HA.out.kept HK.out) (by intro h; have := HNA.out; rw [h, List.length_nil] at this; omega)
        rw [HNA.out] at e1 hc1 hcell1
        injection e1 with e1 _ e2
        subst e1 e2
        obtain ⟨g2, o2, d2, e1, hc2, -, hcell2⟩ := cl_shape (HB.out.kept HK.out) (by intro h; have := HNB.out; rw [h, List.length_nil] at this; omega)
        rw [HNB.out] at e1 hc2 hcell2
        injection e1 with e1 _ e2
        subst e1 e2
        obtain ⟨x, hx⟩ : ∃ q, runAt a k = q := ⟨_, rfl⟩
        obtain ⟨y, hy⟩ : ∃ q, runAt b k = q := ⟨_, rfl⟩
        have h1 := hcell1 k hlt
        have h2 := hcell2 k hlt
        rw [hx] at h1
        rw [hy] at h2
        have HX := hid h1
        have HY := hid h2
        have HXE := hid hx
        have HYE := hid hy
        have HBD : Hid ((k : Int) < (nA : Int) ∧ 0 ≤ (k : Int)) := hid (by omega)
        clear h1 h2 hx hy hcell1 hcell2
        by_cases hxy : x = y
        · have HDE : Hid (decide (x = y) = true) := hid (decide_eq_true hxy)
          have HJ2 : Hid (∀ j, j < k + 1 → runAt a j = runAt b j) := hid (fun j hj => by
            rcases Nat.lt_or_ge j k with h | h
            · exact HJ.out j h
            · obtain rfl : j = k := by omega
              rw [HXE.out, HYE.out, hxy])
          clear hxy
          go_wp2_with fail
          refine region_vals2 [none, none, none, none, none, none, none, none, none, none, none, none, none, none, none, none, some 0, some 1, some 2, some 3, some 4, some 5, some 6, some 7, some 8, none] [[(0, none)], [(5, none)], [(16, some 0), (17, some 1)], [(18, some 2)], [(1, none)], [(5, none)], [(20, some 4), (21, some 5)], [(22, some 6)], [(19, some 3), (23, some 7)]] [some 16, some 17, some 18, some 19, some 20, some 21, some 22, some 23, some 24] [.slice (some ⟨g1, o1, none⟩) nA da, .int .i64 (k : Int), .pointer (some ⟨g1, o1 + k * 3, none⟩), runV x, .slice (some ⟨g2, o2, none⟩) nA db, .int .i64 (k : Int), .pointer (some ⟨g2, o2 + k * 3, none⟩), runV y, .bool false] (fun w' => Hid (Kp Nb wr w')) (by kernel_rfl) (by kernel_rfl) (by kernel_rfl) ?hS (VFrom.all (n := 9) (by kernel_rfl) ?hstep) ?hend
          case hstep =>
            refine VFrom.cons (VStep.val _ rfl _ rfl (.slice (some ⟨g1, o1, none⟩) nA da) rfl trivial (fun ev wq hS he hr => ?_)) ?_
            · have r0 : ev (.tmp 0) = .slice (some ⟨g1, o1, none⟩) nA da := hr (0, none) (by simp); have hk := he.1; clear hr he
              go_simp
            refine VFrom.cons (VStep.val _ rfl _ rfl (.int .i64 (k : Int)) rfl trivial (fun ev wq hS he hr => ?_)) ?_
            · have r0 : ev (.tmp 5) = .int .i64 (k : Int) := hr (5, none) (by simp); have hk := he.1; clear hr he
              go_simp
            refine VFrom.cons (VStep.val _ rfl _ rfl (.pointer (some ⟨g1, o1 + k * 3, none⟩)) rfl trivial (fun ev wq hS he hr => ?_)) ?_
            · have r0 : ev (.tmp 16) = .slice (some ⟨g1, o1, none⟩) nA da := hr (16, some 0) (by simp); have r1 : ev (.tmp 17) = .int .i64 (k : Int) := hr (17, some 1) (by simp); have hk := he.1; clear hr he
              have e1 := HBD.out
              go_simp
            refine VFrom.cons (VStep.val _ rfl _ rfl (runV x) rfl trivial (fun ev wq hS he hr => ?_)) ?_
            · have r0 : ev (.tmp 18) = .pointer (some ⟨g1, o1 + k * 3, none⟩) := hr (18, some 2) (by simp); have hk := he.1; clear hr he
              exact exec_load rfl r0 (load_run (range_keptR HX.out hS.out (fun h => h)))
            refine VFrom.cons (VStep.val _ rfl _ rfl (.slice (some ⟨g2, o2, none⟩) nA db) rfl trivial (fun ev wq hS he hr => ?_)) ?_
            · have r0 : ev (.tmp 1) = .slice (some ⟨g2, o2, none⟩) nA db := hr (1, none) (by simp); have hk := he.1; clear hr he
              go_simp
            refine VFrom.cons (VStep.val _ rfl _ rfl (.int .i64 (k : Int)) rfl trivial (fun ev wq hS he hr => ?_)) ?_
            · have r0 : ev (.tmp 5) = .int .i64 (k : Int) := hr (5, none) (by simp); have hk := he.1; clear hr he
              go_simp
            refine VFrom.cons (VStep.val _ rfl _ rfl (.pointer (some ⟨g2, o2 + k * 3, none⟩)) rfl trivial (fun ev wq hS he hr => ?_)) ?_
            · have r0 : ev (.tmp 20) = .slice (some ⟨g2, o2, none⟩) nA db := hr (20, some 4) (by simp); have r1 : ev (.tmp 21) = .int .i64 (k : Int) := hr (21, some 5) (by simp); have hk := he.1; clear hr he
              have e1 := HBD.out
              go_simp
            refine VFrom.cons (VStep.val _ rfl _ rfl (runV y) rfl trivial (fun ev wq hS he hr => ?_)) ?_
            · have r0 : ev (.tmp 22) = .pointer (some ⟨g2, o2 + k * 3, none⟩) := hr (22, some 6) (by simp); have hk := he.1; clear hr he
              exact exec_load rfl r0 (load_run (range_keptR HY.out hS.out (fun h => h)))
            refine VFrom.cons (VStep.val _ rfl _ rfl (.bool false) rfl trivial (fun ev wq hS he hr => ?_)) ?_
            · have r0 : ev (.tmp 19) = runV x := hr (19, some 3) (by simp); have r1 : ev (.tmp 23) = runV y := hr (23, some 7) (by simp); have hk := he.1; clear hr he
              exact exec_neqRun rfl r0 r1 HDE.out
            exact VFrom.nil
          case hS => exact hid (Kp.refl Nb wr).drew
          case hend =>
            intro wz hyy
            have KY := hid (HK.out.trans hyy.out (fun _ _ h => h))
            clear hyy
            simp only [putAll, List.zip_cons_cons, List.zip_nil_right, List.foldl_cons, List.foldl_nil, Act.put, List.setIfInBounds_toArray, List.set_cons_zero, List.set_cons_succ]
            go_wp2
            go_roundw
            case rel => exact ⟨k + 1, by rw [HNA.out]; omega, by go_num, HJ2, KY⟩
            case measure => simp [intOf]; omega
        · have HDE : Hid (decide (x = y) = false) := hid (decide_eq_false hxy)
          have hZ : Z = false := by
            rw [← HZ.out]
            exact decide_eq_false (fun h => hxy (by rw [← HXE.out, ← HYE.out, h]))
          subst hZ
          clear hxy
          go_wp2_with fail
          refine region_vals2 [none, none, none, none, none, none, none, none, none, none, none, none, none, none, none, none, some 0, some 1, some 2, some 3, some 4, some 5, some 6, some 7, some 8, none] [[(0, none)], [(5, none)], [(16, some 0), (17, some 1)], [(18, some 2)], [(1, none)], [(5, none)], [(20, some 4), (21, some 5)], [(22, some 6)], [(19, some 3), (23, some 7)]] [some 16, some 17, some 18, some 19, some 20, some 21, some 22, some 23, some 24] [.slice (some ⟨g1, o1, none⟩) nA da, .int .i64 (k : Int), .pointer (some ⟨g1, o1 + k * 3, none⟩), runV x, .slice (some ⟨g2, o2, none⟩) nA db, .int .i64 (k : Int), .pointer (some ⟨g2, o2 + k * 3, none⟩), runV y, .bool true] (fun w' => Hid (Kp Nb wr w')) (by kernel_rfl) (by kernel_rfl) (by kernel_rfl) ?hS (VFrom.all (n := 9) (by kernel_rfl) ?hstep) ?hend
          case hstep =>
            refine VFrom.cons (VStep.val _ rfl _ rfl (.slice (some ⟨g1, o1, none⟩) nA da) rfl trivial (fun ev wq hS he hr => ?_)) ?_
            · have r0 : ev (.tmp 0) = .slice (some ⟨g1, o1, none⟩) nA da := hr (0, none) (by simp); have hk := he.1; clear hr he
              go_simp
            refine VFrom.cons (VStep.val _ rfl _ rfl (.int .i64 (k : Int)) rfl trivial (fun ev wq hS he hr => ?_)) ?_
            · have r0 : ev (.tmp 5) = .int .i64 (k : Int) := hr (5, none) (by simp); have hk := he.1; clear hr he
              go_simp
            refine VFrom.cons (VStep.val _ rfl _ rfl (.pointer (some ⟨g1, o1 + k * 3, none⟩)) rfl trivial (fun ev wq hS he hr => ?_)) ?_
            · have r0 : ev (.tmp 16) = .slice (some ⟨g1, o1, none⟩) nA da := hr (16, some 0) (by simp); have r1 : ev (.tmp 17) = .int .i64 (k : Int) := hr (17, some 1) (by simp); have hk := he.1; clear hr he
              have e1 := HBD.out
              go_simp
            refine VFrom.cons (VStep.val _ rfl _ rfl (runV x) rfl trivial (fun ev wq hS he hr => ?_)) ?_
            · have r0 : ev (.tmp 18) = .pointer (some ⟨g1, o1 + k * 3, none⟩) := hr (18, some 2) (by simp); have hk := he.1; clear hr he
              exact exec_load rfl r0 (load_run (range_keptR HX.out hS.out (fun h => h)))
            refine VFrom.cons (VStep.val _ rfl _ rfl (.slice (some ⟨g2, o2, none⟩) nA db) rfl trivial (fun ev wq hS he hr => ?_)) ?_
            · have r0 : ev (.tmp 1) = .slice (some ⟨g2, o2, none⟩) nA db := hr (1, none) (by simp); have hk := he.1; clear hr he
              go_simp
            refine VFrom.cons (VStep.val _ rfl _ rfl (.int .i64 (k : Int)) rfl trivial (fun ev wq hS he hr => ?_)) ?_
            · have r0 : ev (.tmp 5) = .int .i64 (k : Int) := hr (5, none) (by simp); have hk := he.1; clear hr he
              go_simp
            refine VFrom.cons (VStep.val _ rfl _ rfl (.pointer (some ⟨g2, o2 + k * 3, none⟩)) rfl trivial (fun ev wq hS he hr => ?_)) ?_
            · have r0 : ev (.tmp 20) = .slice (some ⟨g2, o2, none⟩) nA db := hr (20, some 4) (by simp); have r1 : ev (.tmp 21) = .int .i64 (k : Int) := hr (21, some 5) (by simp); have hk := he.1; clear hr he
              have e1 := HBD.out
              go_simp
            refine VFrom.cons (VStep.val _ rfl _ rfl (runV y) rfl trivial (fun ev wq hS he hr => ?_)) ?_
            · have r0 : ev (.tmp 22) = .pointer (some ⟨g2, o2 + k * 3, none⟩) := hr (22, some 6) (by simp); have hk := he.1; clear hr he
              exact exec_load rfl r0 (load_run (range_keptR HY.out hS.out (fun h => h)))
            refine VFrom.cons (VStep.val _ rfl _ rfl (.bool true) rfl trivial (fun ev wq hS he hr => ?_)) ?_
            · have r0 : ev (.tmp 19) = runV x := hr (19, some 3) (by simp); have r1 : ev (.tmp 23) = runV y := hr (23, some 7) (by simp); have hk := he.1; clear hr he
              exact exec_neqRun rfl r0 r1 HDE.out
            exact VFrom.nil
          case hS => exact hid (Kp.refl Nb wr).drew
          case hend =>
            intro wz hyy
            have KY := hid (HK.out.trans hyy.out (fun _ _ h => h))
            clear hyy
            simp only [putAll, List.zip_cons_cons, List.zip_nil_right, List.foldl_cons, List.foldl_nil, Act.put, List.setIfInBounds_toArray, List.set_cons_zero, List.set_cons_succ]
            go_wp2
            go_ret
            exact ⟨rfl, KY.out⟩
      · obtain rfl : k = nA := by omega
        have hZ : Z = true := by
          rw [← HZ.out]
          refine decide_eq_true (List.ext_getElem? fun j => ?_)
          rcases Nat.lt_or_ge j k with h | h
          · have h2 := HJ.out j h
            unfold runAt at h2
            rw [List.getElem?_eq_getElem (by rw [HNA.out]; exact h), List.getElem?_eq_getElem (by rw [HNB.out]; exact h)] at h2 ⊢
            exact congrArg some h2
          · rw [List.getElem?_eq_none (by rw [HNA.out]; exact h), List.getElem?_eq_none (by rw [HNB.out]; exact h)]
        subst hZ
        go_wp2
        go_ret
        exact ⟨rfl, HK.out⟩
  · have hZ : Z = false := by
      rw [← HZ.out]
      exact decide_eq_false (fun h => hl (by rw [← HNA.out, ← HNB.out, h]))
    subst hZ
    have hl2 : ((nA : Int) == (nB : Int)) = false := beq_eq_false_iff_ne.2 (by omega)
    go_wp2
    go_ret
    exact ⟨rfl, Kp.refl _ _⟩

end Go.Proofs.YtbbfibgijackhaaGreatDoor
