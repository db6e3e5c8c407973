/-
  Layer 3: Join. Conditions: what these types hold; at most 2^20 runs a list.
-/
import Derived.Test.YtbbfibgijackhaaGreatDoorDtF
namespace Go.Proofs.YtbbfibgijackhaaGreatDoor
open Go.RowKit

theorem exec_loadD {P : Program} {ev : Operand → Value} {o : Oper} {T : TypeId} {x : Operand} {a : Addr} {v : Value} {w : World} (ho : o.op = .load T x) (hx : ev x = .pointer (some a)) (hl : (Instr.loadAt T (.pointer (some a))).run P w = .ok v w) : (execOp ev o).run P w = .ok (.value v) w := by
  unfold execOp
  simp only [ho, hx, Sem.run_bind, Sem.run_pure, Result.andThen_ok, hl]
theorem cell_lt {w : World} {a : Addr} {v : Value} (h : w.cell? a = some v) : a.block < w.heap.size := by
  unfold World.cell? at h
  cases hx : w.heap[a.block]? with
  | none => rw [hx] at h; cases h
  | some o => exact (Array.getElem?_eq_some_iff.1 hx).1
/-- What stood in memory stays, whatever is done to blocks from there on. -/
theorem ClSl.keptB {w w' : World} {v : Value} {c : List RunQ} (h : ClSl w v c) (k : Kp (fun i => w.heap.size ≤ i) w w') : ClSl w' v c := by
  refine ⟨h.1, ?_⟩
  rcases h.2 with h2 | ⟨blk, off, cap, rfl, hc, hm, hr⟩
  · exact .inl h2
  · exact .inr ⟨blk, off, cap, rfl, hc, hm, fun i hi j u hu => k.cell (hr i hi j u hu) (fun h' => by have h1 := cell_lt (hr i hi j u hu); have h2 : w.heap.size ≤ blk := h'; dsimp only at h1; omega)⟩
theorem ClSl.cut1 {w : World} {g o n c : Nat} {x : RunQ} {ys : List RunQ} (h : ClSl w (.slice (some ⟨g, o, none⟩) (n + 1) c) (x :: ys)) : ClSl w (.slice (if c = 1 then some ⟨g, o, none⟩ else some ⟨g, o + 3, none⟩) n (c - 1)) ys := by
  refine ⟨fun i => ?_, ?_⟩
  · have := h.1 (i + 1)
    unfold runAt at this ⊢
    simpa using this
  · rcases h.2 with ⟨_, e⟩ | ⟨blk, off, cap, e, h1, h3, h4⟩
    · cases e
    · injection e with e en ec
      injection e with e
      injection e with e1 e2 _
      rw [List.length_cons] at en h1
      have en : n = ys.length := by omega
      subst e1 e2 ec en
      by_cases h0 : ys = []
      · subst h0; exact .inl ⟨⟨_, _, rfl⟩, rfl⟩
      · have hp := List.length_pos_iff.2 h0
        rw [if_neg (by omega)]
        refine .inr ⟨_, _, _, rfl, by omega, by omega, fun i hi => ?_⟩
        have := h4 (i + 1) (by rw [List.length_cons]; omega)
        rw [show g = g from rfl, show o + 3 + i * 3 = o + (i + 1) * 3 by omega]
        simpa using this
def lenS : Value → Nat
  | .slice _ n _ => n
  | _ => 0
def joinN : Nat → List RunQ → List RunQ → List RunQ → List RunQ
  | 0, _, _, acc => acc
  | f + 1, a, b, acc => match a, b with
    | [], [] => acc
    | x :: a', [] => joinN f a' [] (layC acc x)
    | [], y :: b' => joinN f [] b' (layC acc y)
    | x :: a', y :: b' => if aheadB x y then joinN f a' (y :: b') (layC acc x) else joinN f (x :: a') b' (layC acc y)
def joinC (a b : List RunQ) : List RunQ := if rightC a && rightC b then joinN (a.length + b.length) a b [] else []
def ToOk (q : RunQ) : Prop := -9223372036854775808 ≤ q.2.2 ∧ q.2.2 ≤ 1099511627776
theorem layC_cases (c : List RunQ) (r : RunQ) : layC c r = c ++ [r] ∨ ∃ p ∈ c, layC c r = c.dropLast ++ [(p.1, p.2.1, max p.2.2 r.2.2)] := by
  unfold layC
  cases h : c.getLast? with
  | none => left; rw [List.getLast?_eq_none_iff.1 h]; rfl
  | some p =>
    have hp : p ∈ c := List.mem_of_getLast? h
    unfold layR
    dsimp only
    by_cases h1 : p.1 = r.1 ∧ r.2.1 ≤ p.2.2 + 1
    · rw [if_pos h1]; exact .inr ⟨p, hp, rfl⟩
    · rw [if_neg h1]; exact .inl rfl
theorem layC_len (c : List RunQ) (r : RunQ) : (layC c r).length ≤ c.length + 1 := by
  rcases layC_cases c r with h | ⟨p, hp, h⟩ <;> rw [h] <;> simp
theorem layC_to {c : List RunQ} {r : RunQ} (h : ∀ q ∈ c, ToOk q) (hr : ToOk r) : ∀ q ∈ layC c r, ToOk q := by
  rcases layC_cases c r with e | ⟨p, hp, e⟩ <;> rw [e] <;> intro q hq <;> rcases List.mem_append.1 hq with hq | hq
  · exact h q hq
  · rw [List.mem_singleton.1 hq]; exact hr
  · exact h q (List.dropLast_subset _ hq)
  · rw [List.mem_singleton.1 hq]
    have h1 := h p hp
    unfold ToOk at h1 hr ⊢
    dsimp only
    omega
theorem layC_ok {c : List RunQ} {r : RunQ} (h : ∀ q ∈ c, RunOk q) (hr : RunOk r) : ∀ q ∈ layC c r, RunOk q := by
  rcases layC_cases c r with e | ⟨p, hp, e⟩ <;> rw [e] <;> intro q hq <;> rcases List.mem_append.1 hq with hq | hq
  · exact h q hq
  · rw [List.mem_singleton.1 hq]; exact hr
  · exact h q (List.dropLast_subset _ hq)
  · rw [List.mem_singleton.1 hq]
    have h1 := h p hp
    unfold RunOk I64 at h1 hr ⊢
    dsimp only
    omega
theorem good_to {q : RunQ} (h : goodR q = true) : ToOk q := by
  have := goodR_of.1 h
  unfold ToOk
  omega
theorem right_to {c : List RunQ} (h : rightC c = true) : ∀ q ∈ c, ToOk q := fun q hq => by
  obtain ⟨i, hi, rfl⟩ := List.mem_iff_getElem.1 hq
  have := (rightC_of.1 h i hi).1
  unfold runAt at this
  rw [List.getElem?_eq_getElem hi] at this
  exact good_to this
def JoR (w1 : World) (B M : Nat) (R : List RunQ) (u0 u1 u5 : Value) (wr : World) : Prop := ∃ (f : Nat) (xs ys acc : List RunQ), Hid (joinN f xs ys acc = R) ∧ Hid (xs.length + ys.length ≤ f) ∧ Hid (ClSl w1 u0 xs) ∧ Hid (ClSl w1 u1 ys) ∧
  Hid (wr.ownsRow B 61 3 u5 acc.length (flatR runL acc)) ∧ Hid (∀ q ∈ acc, ToOk q) ∧ Hid (∀ q ∈ acc, RunOk q) ∧ Hid (acc.length + xs.length + ys.length ≤ M) ∧ Hid (∀ q ∈ xs, ToOk q) ∧ Hid (∀ q ∈ ys, ToOk q) ∧ Hid (Kp (fun i => w1.heap.size ≤ i) w1 wr)
set_option maxRecDepth 100000 in
set_option maxHeartbeats 4000000 in
theorem join_any (va vb : Value) (a b : List RunQ) (w : World) (ha : ClSl w va a) (hb : ClSl w vb b) (la : a.length ≤ 1048576) (lb : b.length ≤ 1048576) :
    Calls Tryz.prog 18 #[va, vb] w fun e w' => ∃ v', e = .returned v' ∧ ClSl w' v' (joinC a b) ∧ OwnV w v' w' ∧ Kp Nb w w' := by
  have CA0 := hid (dright_any va a w ha (by omega))
  have CB0 : Hid (∀ wx, Kp Nb w wx → Calls Tryz.prog 9 #[vb] wx fun e w' => e = .returned (.bool (rightC b)) ∧ Kp Nb wx w') := hid (fun wx k => dright_any vb b wx (hb.kept k) (by omega))
  have HA := hid ha
  have HB := hid hb
  have HLAB := hid (show a.length ≤ 1048576 ∧ b.length ≤ 1048576 from ⟨la, lb⟩)
  obtain ⟨pa, da, rfl⟩ := ha.shape
  obtain ⟨pb, db, rfl⟩ := hb.shape
  obtain ⟨ra, hra⟩ : ∃ x, rightC a = x := ⟨_, rfl⟩
  obtain ⟨rb, hrb⟩ : ∃ x, rightC b = x := ⟨_, rfl⟩
  have HRA0 := hid hra
  have HRB0 := hid hrb
  rw [hra] at CA0
  rw [hrb] at CB0
  clear ha hb la lb hra hrb
  cases ra with
  | false =>
    have HE : Hid (joinC a b = []) := hid (by unfold joinC; rw [HRA0.out]; rfl)
    go_enter Tryz.func18, Tryz.ntmps18
    go_wp2_with fail
    refine CA0.out.mono ?_
    rintro r w1 ⟨rfl, k1⟩
    go_wp2
    go_ret
    exact ⟨_, rfl, by rw [HE.out]; exact cl_nil _, fun g hg => by simp [Value.ownBlock] at hg, k1⟩
  | true =>
    cases rb with
    | false =>
      have HE : Hid (joinC a b = []) := hid (by unfold joinC; rw [HRA0.out, HRB0.out]; rfl)
      go_enter Tryz.func18, Tryz.ntmps18
      go_wp2_with fail
      refine CA0.out.mono ?_
      rintro r w1 ⟨rfl, k1⟩
      go_wp2_with fail
      refine (CB0.out w1 k1).mono ?_
      rintro r w2 ⟨rfl, k2⟩
      go_wp2
      go_ret
      exact ⟨_, rfl, by rw [HE.out]; exact cl_nil _, fun g hg => by simp [Value.ownBlock] at hg, k1.trans k2 (fun _ _ h => h)⟩
    | true =>
      obtain ⟨R, hR⟩ : ∃ R, joinN (a.length + b.length) a b [] = R := ⟨_, rfl⟩
      have HE : Hid (joinC a b = R) := hid (by unfold joinC; rw [HRA0.out, HRB0.out]; exact hR)
      have HJ0 := hid hR
      clear hR
      go_enter Tryz.func18, Tryz.ntmps18
      go_wp2_with fail
      refine CA0.out.mono ?_
      rintro r wa ⟨rfl, k1⟩
      go_wp2_with fail
      refine (CB0.out wa k1).mono ?_
      rintro r w1 ⟨rfl, k2⟩
      have K1 := hid (k1.trans k2 (fun _ _ h => h))
      have HA := hid (HA.out.kept K1.out)
      have HB := hid (HB.out.kept K1.out)
      clear k1 k2 CA0 CB0
      obtain ⟨B, hB⟩ : ∃ B, w1.heap.size = B := ⟨_, rfl⟩
      have HBE := hid hB
      clear hB
      go_wp2_with fail
      go_loopw [0, 1, 5] (JoR w1 B 2097152 R) (fun u v _ _ => lenS u + lenS v)
      case atStart => exact ⟨_, a, b, [], HJ0, hid (Nat.le_refl _), HA, HB, hid ⟨by simp [flatR], .inl ⟨rfl, rfl⟩⟩, hid (by simp), hid (by simp), hid (by have := HLAB.out; simp only [List.length_nil]; omega), hid (right_to HRA0.out), hid (right_to HRB0.out), hid (Kp.refl _ _)⟩
      case round =>
        obtain ⟨f, xs, ys, acc, HJ, HF, HXA, HXB, HO, HAC, HAK, HLN, HTA, HTB, HK⟩ := hrel
        obtain ⟨pa', ca, rfl⟩ := HXA.out.shape
        obtain ⟨pb', cb, rfl⟩ := HXB.out.shape
        obtain ⟨a5, c5, rfl⟩ := own_shape HO.out
        have HB2 : Hid (True) := hid trivial
        obtain ⟨fs, hfs⟩ := under_run
        cases xs with
        | nil =>
          cases ys with
          | nil =>
            have HRE : Hid (acc = R) := hid (by have := HJ.out; cases f <;> exact this)
            simp only [List.length_nil]
            go_wp2
            go_ret
            exact ⟨_, rfl, by rw [HE.out, ← HRE.out]; exact cl_owned HO.out HAK.out, own_of (ownsRow_le (base' := w.heap.size) HO.out (by have := K1.out.size; have := HBE.out; omega)), K1.out.trans HK.out (fun i hi h => by have h1 : w1.heap.size ≤ i := h; have := K1.out.size; omega)⟩
          | cons y ys =>
            obtain ⟨f, rfl⟩ : ∃ g, f = g + 1 := ⟨f - 1, by have := HF.out; simp only [List.length_cons, List.length_nil] at this; omega⟩
            have HJN : Hid (joinN f [] ys (layC acc y) = R) := hid HJ.out
            have HFN : Hid (([] : List RunQ).length + ys.length ≤ f) := hid (by have := HF.out; simp only [List.length_cons, List.length_nil] at *; omega)
            simp only [List.length_nil]
            obtain ⟨gb, ob, cb', eb, hcb, -, hcellb⟩ := cl_shape HXB.out (by simp)
            injection eb with eb _ eb2
            subst eb eb2
            have HRB : Hid (wr.rangeAt gb ob (runL y)) := hid (by
              have h := hcellb 0 (by simp)
              have h2 := (HXB.out.keptB HK.out)
              rcases h2.2 with ⟨_, e⟩ | ⟨blk, off, cap, e, h1, h3, h4⟩
              · cases e
              · injection e with e _ _
                injection e with e
                injection e with e1 e2 _
                subst e1 e2
                have := h4 0 (by simp)
                simpa using this)
            have XB1 := HXB.out
            obtain ⟨nb, hnb⟩ : ∃ n, ys.length = n := ⟨_, rfl⟩
            have HNB := hid hnb
            simp only [List.length_cons] at hcb HLN HF
            simp only [List.length_cons]
            rw [List.length_cons, hnb] at XB1
            rw [hnb] at hcb HLN HF
            have XB1 := XB1.cut1
            rw [hnb]
            have XB1 := hid XB1
            clear hcellb hnb
            have hbn : nb ≤ 2097152 := by have := HLN.out; omega
            have hq1 : (((nb : Int) + 1) == 0) = false := by simp; omega
            have hq2 : ((nb : Int) + 1) ≠ 0 := by omega
            go_wp2_with fail
            go_quiet (fail)
            obtain ⟨wd, hwd⟩ : ∃ w, w = wr.drewN nq := ⟨_, rfl⟩
            have KD : Hid (Kp Nb wr wd) := hid (by rw [hwd]; exact (Kp.refl Nb wr).drewN _)
            rw [← hwd]
            clear hwd
            have KDB : Hid (Kp (fun i => w1.heap.size ≤ i) w1 wd) := hid (HK.out.trans KD.out (fun _ _ h => h.elim))
            have HOd := hid (ownsRow_kpD HO.out KD.out)
            go_wp2_with (refine wpList_load_mid (by rfl) 61 (.tmp 46) (by rfl) gb ob (by rfl) (runL y) _ (range_keptR HRB.out KD.out (fun h => h)) hfs rfl (run_infoL y) ?_)
            refine (lay_any B _ acc y wd HOd.out (by have := KDB.out.size; have := HBE.out; omega) (fun q hq => HAC.out q hq) (by have := HLN.out; omega)).mono ?_
            rintro r w6 ⟨v6, rfl, ho6, k6⟩
            have K6 : Hid (Kp (fun i => w1.heap.size ≤ i) w1 w6) := hid (KDB.out.trans k6 (fun i _ h => by rw [HBE.out]; exact h))
            have HO6 := hid ho6
            obtain ⟨a6, c6, rfl⟩ := own_shape ho6
            have HL6 := hid (layC_len acc y)
            clear ho6 k6
            go_wp2
            go_roundw
            case rel => exact ⟨f, [], ys, layC acc y, HJN, HFN, HXA, XB1, HO6, hid (layC_to HAC.out (HTB.out _ (by simp))), hid (layC_ok HAK.out (HXB.out.ok _ (by simp))), hid (by have := HL6.out; have := HLN.out; have := HNB.out; simp only [List.length_nil] at *; omega), hid (by simp), hid (fun q hq => HTB.out q (List.mem_cons_of_mem _ hq)), K6⟩
            case measure => simp [lenS] <;> omega
        | cons x xs =>
          cases ys with
          | nil =>
            obtain ⟨f, rfl⟩ : ∃ g, f = g + 1 := ⟨f - 1, by have := HF.out; simp only [List.length_cons, List.length_nil] at this; omega⟩
            have HJN : Hid (joinN f xs [] (layC acc x) = R) := hid HJ.out
            have HFN : Hid (xs.length + ([] : List RunQ).length ≤ f) := hid (by have := HF.out; simp only [List.length_cons, List.length_nil] at *; omega)
            simp only [List.length_nil]
            obtain ⟨ga, oa, ca', ea, hca, -, hcella⟩ := cl_shape HXA.out (by simp)
            injection ea with ea _ ea2
            subst ea ea2
            have HRA : Hid (wr.rangeAt ga oa (runL x)) := hid (by
              have h := hcella 0 (by simp)
              have h2 := (HXA.out.keptB HK.out)
              rcases h2.2 with ⟨_, e⟩ | ⟨blk, off, cap, e, h1, h3, h4⟩
              · cases e
              · injection e with e _ _
                injection e with e
                injection e with e1 e2 _
                subst e1 e2
                have := h4 0 (by simp)
                simpa using this)
            have XA1 := HXA.out
            obtain ⟨na, hna⟩ : ∃ n, xs.length = n := ⟨_, rfl⟩
            have HNA := hid hna
            simp only [List.length_cons] at hca HLN HF
            simp only [List.length_cons]
            rw [List.length_cons, hna] at XA1
            rw [hna] at hca HLN HF
            have XA1 := XA1.cut1
            rw [hna]
            have XA1 := hid XA1
            clear hcella hna
            have hbn : na ≤ 2097152 := by have := HLN.out; omega
            go_wp2_with fail
            go_quiet (fail)
            obtain ⟨wd, hwd⟩ : ∃ w, w = wr.drewN nq := ⟨_, rfl⟩
            have KD : Hid (Kp Nb wr wd) := hid (by rw [hwd]; exact (Kp.refl Nb wr).drewN _)
            rw [← hwd]
            clear hwd
            have KDB : Hid (Kp (fun i => w1.heap.size ≤ i) w1 wd) := hid (HK.out.trans KD.out (fun _ _ h => h.elim))
            have HOd := hid (ownsRow_kpD HO.out KD.out)
            go_wp2_with (refine wpList_load_mid (by rfl) 61 (.tmp 39) (by rfl) ga oa (by rfl) (runL x) _ (range_keptR HRA.out KD.out (fun h => h)) hfs rfl (run_infoL x) ?_)
            refine (lay_any B _ acc x wd HOd.out (by have := KDB.out.size; have := HBE.out; omega) (fun q hq => HAC.out q hq) (by have := HLN.out; omega)).mono ?_
            rintro r w6 ⟨v6, rfl, ho6, k6⟩
            have K6 : Hid (Kp (fun i => w1.heap.size ≤ i) w1 w6) := hid (KDB.out.trans k6 (fun i _ h => by rw [HBE.out]; exact h))
            have HO6 := hid ho6
            obtain ⟨a6, c6, rfl⟩ := own_shape ho6
            have HL6 := hid (layC_len acc x)
            clear ho6 k6
            go_wp2
            go_roundw
            case rel => exact ⟨f, xs, [], layC acc x, HJN, HFN, XA1, HXB, HO6, hid (layC_to HAC.out (HTA.out _ (by simp))), hid (layC_ok HAK.out (HXA.out.ok _ (by simp))), hid (by have := HL6.out; have := HLN.out; have := HNA.out; simp only [List.length_nil] at *; omega), hid (fun q hq => HTA.out q (List.mem_cons_of_mem _ hq)), hid (by simp), K6⟩
            case measure => simp [lenS] <;> omega
          | cons y ys =>
            obtain ⟨f, rfl⟩ : ∃ g, f = g + 1 := ⟨f - 1, by have := HF.out; simp only [List.length_cons] at this; omega⟩
            obtain ⟨ab, hab⟩ : ∃ z, aheadB x y = z := ⟨_, rfl⟩
            have HJ2 : Hid ((if ab then joinN f xs (y :: ys) (layC acc x) else joinN f (x :: xs) ys (layC acc y)) = R) := hid (by rw [← hab]; exact HJ.out)
            have CA : Hid (∀ wq, Calls Tryz.prog 43 #[runV x, runV y] wq fun e w' => e = .returned (.bool ab) ∧ Kp Nb wq w') := hid (fun wq => by rw [← hab]; exact ahead_any x y wq)
            have HF2 : Hid (xs.length + ys.length + 1 ≤ f) := hid (by have := HF.out; simp only [List.length_cons] at this; omega)
            have HLN : Hid (acc.length + xs.length + ys.length + 2 ≤ 2097152) := hid (by have := HLN.out; simp only [List.length_cons] at this; omega)
            clear hab HJ HF
            obtain ⟨ga, oa, ca', ea, hca, -, hcella⟩ := cl_shape HXA.out (by simp)
            injection ea with ea _ ea2
            subst ea ea2
            have HRA : Hid (wr.rangeAt ga oa (runL x)) := hid (by
              have h2 := (HXA.out.keptB HK.out)
              rcases h2.2 with ⟨_, e⟩ | ⟨blk, off, cap, e, h1, h3, h4⟩
              · cases e
              · injection e with e _ _
                injection e with e
                injection e with e1 e2 _
                subst e1 e2
                have := h4 0 (by simp)
                simpa using this)
            obtain ⟨nA, hnA⟩ : ∃ n, (x :: xs).length = n := ⟨_, rfl⟩
            obtain ⟨ma, hma⟩ : ∃ n, xs.length = n := ⟨_, rfl⟩
            have XA0 := HXA.out
            rw [hnA] at XA0
            have XA1 := HXA.out
            rw [List.length_cons, hma] at XA1
            have XA1 := hid XA1.cut1
            have XA0 := hid XA0
            have HNA : Hid (nA = ma + 1 ∧ xs.length = ma) := hid ⟨by rw [← hnA, List.length_cons, hma], hma⟩
            rw [hnA]
            clear hcella hma hca
            obtain ⟨gb, ob, cb', eb, hcb, -, hcellb⟩ := cl_shape HXB.out (by simp)
            injection eb with eb _ eb2
            subst eb eb2
            have HRB : Hid (wr.rangeAt gb ob (runL y)) := hid (by
              have h2 := (HXB.out.keptB HK.out)
              rcases h2.2 with ⟨_, e⟩ | ⟨blk, off, cap, e, h1, h3, h4⟩
              · cases e
              · injection e with e _ _
                injection e with e
                injection e with e1 e2 _
                subst e1 e2
                have := h4 0 (by simp)
                simpa using this)
            obtain ⟨nB, hnB⟩ : ∃ n, (y :: ys).length = n := ⟨_, rfl⟩
            obtain ⟨mb, hmb⟩ : ∃ n, ys.length = n := ⟨_, rfl⟩
            have XB0 := HXB.out
            rw [hnB] at XB0
            have XB1 := HXB.out
            rw [List.length_cons, hmb] at XB1
            have XB1 := hid XB1.cut1
            have XB0 := hid XB0
            have HNB : Hid (nB = mb + 1 ∧ ys.length = mb) := hid ⟨by rw [← hnB, List.length_cons, hmb], hmb⟩
            rw [hnB]
            clear hcellb hmb hcb
            have hbn : nA ≤ 2097152 ∧ nB ≤ 2097152 ∧ 1 ≤ nA ∧ 1 ≤ nB := by have := HLN.out; have := HNA.out; have := HNB.out; omega
            have HA0 : Hid ((nA : Int) > 0 ∧ 0 < nA) := hid (by omega)
            have HB0 : Hid (((nB : Int) == 0) = false ∧ (nB : Int) ≠ 0 ∧ 0 < nB) := hid (by refine ⟨by simp; omega, by omega, by omega⟩)
            go_wp2_with fail
            refine region_vals2 [none, none, none, none, none, none, none, none, none, none, none, none, none, none, none, none, none, none, none, none, some 0, some 1, some 2, some 3, some 4, some 5, some 6, some 7, some 8, some 9, some 10, some 11, some 12, some 13, some 14, some 15, some 16, none, none, none, none, none, none, none, none, none, none, none, none, none, none, none] [[(1, none)], [(20, some 0)], [(21, some 1)], [(22, some 2)], [(0, none)], [(24, some 4)], [(25, some 5)], [(26, some 6)], [(0, none)], [(28, some 8)], [(29, some 9)], [(1, none)], [(31, some 11)], [(32, some 12)], [(30, some 10), (33, some 13)], [(27, some 7), (34, some 14)], [(23, some 3), (35, some 15)]] [some 20, some 21, some 22, some 23, some 24, some 25, some 26, some 27, some 28, some 29, some 30, some 31, some 32, some 33, some 34, some 35, some 36] [.slice (some ⟨gb, ob, none⟩) nB cb, .int .i64 (nB : Int), .bool false, .bool false, .slice (some ⟨ga, oa, none⟩) nA ca, .int .i64 (nA : Int), .bool true, .bool true, .slice (some ⟨ga, oa, none⟩) nA ca, .pointer (some ⟨ga, oa, none⟩), runV x, .slice (some ⟨gb, ob, none⟩) nB cb, .pointer (some ⟨gb, ob, none⟩), runV y, .bool ab, .bool ab, .bool ab] (fun w' => Hid (Kp Nb wr w')) (by kernel_rfl) (by kernel_rfl) (by kernel_rfl) ?hS (VFrom.all (n := 17) (by kernel_rfl) ?hstep) ?hend
            case hstep =>
              refine VFrom.cons (VStep.val _ rfl _ rfl (.slice (some ⟨gb, ob, none⟩) nB cb) rfl trivial (fun ev wq hS he hr => ?_)) ?_
              · have r0 : ev (.tmp 1) = .slice (some ⟨gb, ob, none⟩) nB cb := hr (1, none) (by simp); have hk := he.1; clear hr he
                go_simp
              refine VFrom.cons (VStep.val _ rfl _ rfl (.int .i64 (nB : Int)) rfl trivial (fun ev wq hS he hr => ?_)) ?_
              · have r0 : ev (.tmp 20) = .slice (some ⟨gb, ob, none⟩) nB cb := hr (20, some 0) (by simp); have hk := he.1; clear hr he
                go_simp
              refine VFrom.cons (VStep.val _ rfl _ rfl (.bool false) rfl trivial (fun ev wq hS he hr => ?_)) ?_
              · have r0 : ev (.tmp 21) = .int .i64 (nB : Int) := hr (21, some 1) (by simp); have hk := he.1; clear hr he
                have e1 := HB0.out.1; have e2 := HB0.out.2.1
                go_simp
              refine VFrom.cons (VStep.val _ rfl _ rfl (.bool false) rfl trivial (fun ev wq hS he hr => ?_)) ?_
              · have r0 : ev (.tmp 22) = .bool false := hr (22, some 2) (by simp); have hk := he.1; clear hr he
                go_simp
              refine VFrom.cons (VStep.val _ rfl _ rfl (.slice (some ⟨ga, oa, none⟩) nA ca) rfl rfl (fun ev wq hS he hr => ?_)) ?_
              · have r0 : ev (.tmp 0) = .slice (some ⟨ga, oa, none⟩) nA ca := hr (0, none) (by simp); have hk := he.1; clear hr he
                go_simp
              refine VFrom.cons (VStep.val _ rfl _ rfl (.int .i64 (nA : Int)) rfl rfl (fun ev wq hS he hr => ?_)) ?_
              · have r0 : ev (.tmp 24) = .slice (some ⟨ga, oa, none⟩) nA ca := hr (24, some 4) (by simp); have hk := he.1; clear hr he
                go_simp
              refine VFrom.cons (VStep.val _ rfl _ rfl (.bool true) rfl rfl (fun ev wq hS he hr => ?_)) ?_
              · have r0 : ev (.tmp 25) = .int .i64 (nA : Int) := hr (25, some 5) (by simp); have hk := he.1; clear hr he
                have e1 := HA0.out.1; have e2 := HA0.out.2
                go_simp
              refine VFrom.cons (VStep.val _ rfl _ rfl (.bool true) rfl rfl (fun ev wq hS he hr => ?_)) ?_
              · have r0 : ev (.tmp 26) = .bool true := hr (26, some 6) (by simp); have hk := he.1; clear hr he
                go_simp
              refine VFrom.cons (VStep.val _ rfl _ rfl (.slice (some ⟨ga, oa, none⟩) nA ca) rfl rfl (fun ev wq hS he hr => ?_)) ?_
              · have r0 : ev (.tmp 0) = .slice (some ⟨ga, oa, none⟩) nA ca := hr (0, none) (by simp); have hk := he.1; clear hr he
                go_simp
              refine VFrom.cons (VStep.val _ rfl _ rfl (.pointer (some ⟨ga, oa, none⟩)) rfl rfl (fun ev wq hS he hr => ?_)) ?_
              · have r0 : ev (.tmp 28) = .slice (some ⟨ga, oa, none⟩) nA ca := hr (28, some 8) (by simp); have hk := he.1; clear hr he
                have e1 := HA0.out.1; have e2 := HA0.out.2
                go_simp
              refine VFrom.cons (VStep.val _ rfl _ rfl (runV x) rfl rfl (fun ev wq hS he hr => ?_)) ?_
              · have r0 : ev (.tmp 29) = .pointer (some ⟨ga, oa, none⟩) := hr (29, some 9) (by simp); have hk := he.1; clear hr he
                exact exec_loadD rfl r0 (load_run (range_keptR HRA.out hS.out (fun h => h)))
              refine VFrom.cons (VStep.val _ rfl _ rfl (.slice (some ⟨gb, ob, none⟩) nB cb) rfl rfl (fun ev wq hS he hr => ?_)) ?_
              · have r0 : ev (.tmp 1) = .slice (some ⟨gb, ob, none⟩) nB cb := hr (1, none) (by simp); have hk := he.1; clear hr he
                go_simp
              refine VFrom.cons (VStep.val _ rfl _ rfl (.pointer (some ⟨gb, ob, none⟩)) rfl rfl (fun ev wq hS he hr => ?_)) ?_
              · have r0 : ev (.tmp 31) = .slice (some ⟨gb, ob, none⟩) nB cb := hr (31, some 11) (by simp); have hk := he.1; clear hr he
                have e1 := HB0.out.2.1; have e2 := HB0.out.2.2
                go_simp
              refine VFrom.cons (VStep.val _ rfl _ rfl (runV y) rfl rfl (fun ev wq hS he hr => ?_)) ?_
              · have r0 : ev (.tmp 32) = .pointer (some ⟨gb, ob, none⟩) := hr (32, some 12) (by simp); have hk := he.1; clear hr he
                exact exec_loadD rfl r0 (load_run (range_keptR HRB.out hS.out (fun h => h)))
              refine VFrom.cons (VStep.call _ rfl _ rfl (.bool ab) rfl rfl 43 #[runV x, runV y] (fun ev wq hS he hr => ?_) (fun wq hS => ?_)) ?_
              · have r0 : ev (.tmp 30) = runV x := hr (30, some 10) (by simp); have r1 : ev (.tmp 33) = runV y := hr (33, some 13) (by simp); have hk := he.1; have hf := he.2; clear hr he
                go_simp
              · exact (CA.out wq).mono fun e w' ⟨h1, h2⟩ => ⟨h1, hid (hS.out.trans h2 (fun _ _ h => h))⟩
              refine VFrom.cons (VStep.val _ rfl _ rfl (.bool ab) rfl rfl (fun ev wq hS he hr => ?_)) ?_
              · have r0 : ev (.tmp 27) = .bool true := hr (27, some 7) (by simp); have r1 : ev (.tmp 34) = .bool ab := hr (34, some 14) (by simp); have hk := he.1; clear hr he
                go_simp
              refine VFrom.cons (VStep.val _ rfl _ rfl (.bool ab) rfl trivial (fun ev wq hS he hr => ?_)) ?_
              · have r0 : ev (.tmp 23) = .bool false := hr (23, some 3) (by simp); have r1 : ev (.tmp 35) = .bool ab := hr (35, some 15) (by simp); have hk := he.1; clear hr he
                go_simp
              exact VFrom.nil
            case hS => exact hid (Kp.refl Nb wr).drew
            case hend =>
              intro wd hy
              have KD := hid hy.out
              have KDB : Hid (Kp (fun i => w1.heap.size ≤ i) w1 wd) := hid (HK.out.trans KD.out (fun _ _ h => h.elim))
              have HOd := hid (ownsRow_kpD HO.out KD.out)
              clear hy
              simp only [putAll, List.zip_cons_cons, List.zip_nil_right, List.foldl_cons, List.foldl_nil, Act.put, List.setIfInBounds_toArray, List.set_cons_zero, List.set_cons_succ]
              cases ab with
              | true =>
                have HJN : Hid (joinN f xs (y :: ys) (layC acc x) = R) := hid HJ2.out
                have HFN : Hid (xs.length + (y :: ys).length ≤ f) := hid (by have := HF2.out; simp only [List.length_cons]; omega)
                obtain ⟨na, rfl⟩ : ∃ k, nA = k + 1 := ⟨nA - 1, by omega⟩
                have ena : ma = na := by have := HNA.out.1; omega
                subst ena
                go_wp2_with (refine wpList_load_mid (by rfl) 61 (.tmp 39) (by rfl) ga oa (by rfl) (runL x) _ (range_keptR HRA.out KD.out (fun h => h)) hfs rfl (run_infoL x) ?_)
                refine (lay_any B _ acc x wd HOd.out (by have := KDB.out.size; have := HBE.out; omega) (fun q hq => HAC.out q hq) (by have := HLN.out; omega)).mono ?_
                rintro r w6 ⟨v6, rfl, ho6, k6⟩
                have K6 : Hid (Kp (fun i => w1.heap.size ≤ i) w1 w6) := hid (KDB.out.trans k6 (fun i _ h => by rw [HBE.out]; exact h))
                have HO6 := hid ho6
                obtain ⟨a6, c6, rfl⟩ := own_shape ho6
                have HL6 := hid (layC_len acc x)
                clear ho6 k6
                go_wp2
                go_roundw
                case rel => exact ⟨f, xs, (y :: ys), layC acc x, HJN, HFN, XA1, XB0, HO6, hid (layC_to HAC.out (HTA.out _ (by simp))), hid (layC_ok HAK.out (HXA.out.ok _ (by simp))), hid (by have := HL6.out; have := HLN.out; have := HNA.out; simp only [List.length_cons]; omega), hid (fun q hq => HTA.out q (List.mem_cons_of_mem _ hq)), HTB, K6⟩
                case measure => simp [lenS] <;> omega
              | false =>
                have HJN : Hid (joinN f (x :: xs) ys (layC acc y) = R) := hid HJ2.out
                have HFN : Hid ((x :: xs).length + ys.length ≤ f) := hid (by have := HF2.out; simp only [List.length_cons]; omega)
                obtain ⟨nb, rfl⟩ : ∃ k, nB = k + 1 := ⟨nB - 1, by omega⟩
                have enb : mb = nb := by have := HNB.out.1; omega
                subst enb
                go_wp2_with (refine wpList_load_mid (by rfl) 61 (.tmp 46) (by rfl) gb ob (by rfl) (runL y) _ (range_keptR HRB.out KD.out (fun h => h)) hfs rfl (run_infoL y) ?_)
                refine (lay_any B _ acc y wd HOd.out (by have := KDB.out.size; have := HBE.out; omega) (fun q hq => HAC.out q hq) (by have := HLN.out; omega)).mono ?_
                rintro r w6 ⟨v6, rfl, ho6, k6⟩
                have K6 : Hid (Kp (fun i => w1.heap.size ≤ i) w1 w6) := hid (KDB.out.trans k6 (fun i _ h => by rw [HBE.out]; exact h))
                have HO6 := hid ho6
                obtain ⟨a6, c6, rfl⟩ := own_shape ho6
                have HL6 := hid (layC_len acc y)
                clear ho6 k6
                go_wp2
                go_roundw
                case rel => exact ⟨f, (x :: xs), ys, layC acc y, HJN, HFN, XA0, XB1, HO6, hid (layC_to HAC.out (HTB.out _ (by simp))), hid (layC_ok HAK.out (HXB.out.ok _ (by simp))), hid (by have := HL6.out; have := HLN.out; have := HNB.out; simp only [List.length_cons]; omega), HTA, hid (fun q hq => HTB.out q (List.mem_cons_of_mem _ hq)), K6⟩
                case measure => simp [lenS] <;> omega

end Go.Proofs.YtbbfibgijackhaaGreatDoor
