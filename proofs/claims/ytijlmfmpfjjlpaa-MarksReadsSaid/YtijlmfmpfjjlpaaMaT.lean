/-
  Layer 9: MarksWhole. Conditions: two lists of marks in memory.
-/
import Derived.Test.YtijlmfmpfjjlpaaMaU
import Derived.Test.YtijlmfmpfjjlpaaMaP
namespace Go.Proofs.Ytijlmfmpfjjlpaa
open Go.RowKit Go.Shelf
attribute [local go_sem] Oper.semAt_some

/-- A slice of marks, with its block in memory. -/
def SlAt (W : World) (v : Value) (ms : List (List Int)) : Prop := MkSl W v ms ∧ ∀ g, v.ownBlock = some g → g < W.heap.size
def AllS (l : List (Value × List (List Int))) (w W : World) : Prop := (∀ p ∈ l, SlAt W p.1 p.2) ∧ Kp Nb w W
theorem AllS.step {l : List (Value × List (List Int))} {w W W' : World} (h : AllS l w W) (k : Kp Nb W W') : AllS l w W' :=
  ⟨fun p hp => ⟨(h.1 p hp).1.kept k, fun g hg => Nat.lt_of_lt_of_le ((h.1 p hp).2 g hg) k.size⟩, h.2.trans k (fun _ _ h => h)⟩
theorem AllS.add {l : List (Value × List (List Int))} {w W : World} (h : AllS l w W) {v : Value} {ms : List (List Int)} (hv : MkSl W v ms) (ho : ∀ g, v.ownBlock = some g → g < W.heap.size) : AllS ((v, ms) :: l) w W :=
  ⟨fun p hp => (List.mem_cons.1 hp).elim (fun e => by rw [e]; exact ⟨hv, ho⟩) (h.1 p), h.2⟩
set_option maxRecDepth 100000 in
set_option maxHeartbeats 8000000 in
theorem mwhole_any (va vb : Value) (xs ys : List (List Int)) (w : World) (ha : SlAt w va xs) (hb : SlAt w vb ys) : Calls Try.prog 6 #[va, vb] w fun e w' => e = .returned (.bool true) ∧ Kp Nb w w' := by
  obtain ⟨pa, da, rfl⟩ := ha.1.shape
  obtain ⟨pb, db, rfl⟩ := hb.1.shape
  have HA : Hid (AllS [(.slice pa xs.length da, xs), (.slice pb ys.length db, ys)] w w) := hid ⟨fun p hp => by
    simp only [List.mem_cons, List.not_mem_nil, or_false] at hp
    rcases hp with rfl | rfl
    · exact ha
    · exact hb, Kp.refl _ _⟩
  obtain ⟨nA, hnA⟩ : ∃ n, xs.length = n := ⟨_, rfl⟩
  obtain ⟨nB, hnB⟩ : ∃ n, ys.length = n := ⟨_, rfl⟩
  rw [hnA, hnB] at HA
  rw [hnA, hnB]
  have HNA := hid hnA
  have HNB := hid hnB
  clear ha hb hnA hnB
  go_enter Try.func6, Try.ntmps6
  go_wp2_with fail
  refine (mfirst_any w).mono ?_
  rintro r w1 ⟨rfl, k1⟩
  have HA := hid (HA.out.step k1)
  clear k1
  by_cases hbig : 200 < nA ∨ 200 < nB
  · by_cases h1 : 200 < nA
    · go_wp2
      go_ret
      exact ⟨rfl, HA.out.2⟩
    · have h2 : 200 < nB := by omega
      go_wp2
      go_ret
      exact ⟨rfl, HA.out.2⟩
  have hA2 : nA ≤ 200 := by omega
  have hB2 : nB ≤ 200 := by omega
  have HB := hid (show nA ≤ 200 ∧ nB ≤ 200 from ⟨hA2, hB2⟩)
  go_wp2_with fail
  refine (mof_any _ xs w1 (HA.out.1 (.slice pa nA da, xs) (by simp)).1 (by have := HB.out; have := HNA.out; have := HNB.out; omega)).mono ?_
  rintro r w2 ⟨vx, x, rfl, h, hr, -, hl, ho, k⟩
  have RIx := hid (right_rise hr)
  have LNx : Hid (x.length ≤ 200) := hid (by have := HB.out; have := HNA.out; have := HNB.out; omega)
  have OKx := hid h.ok
  obtain ⟨px, dx, e⟩ := h.shape
  subst e
  have HA := hid ((HA.out.step k).add h (fun g hg => (ho g hg).2))
  clear h hr hl ho k
  go_wp2_with fail
  refine (mof_any _ ys w2 (HA.out.1 (.slice pb nB db, ys) (by simp)).1 (by have := HB.out; have := HNA.out; have := HNB.out; omega)).mono ?_
  rintro r w3 ⟨vy, y, rfl, h, hr, -, hl, ho, k⟩
  have RIy := hid (right_rise hr)
  have LNy : Hid (y.length ≤ 200) := hid (by have := HB.out; have := HNA.out; have := HNB.out; omega)
  have OKy := hid h.ok
  obtain ⟨py, dy, e⟩ := h.shape
  subst e
  have HA := hid ((HA.out.step k).add h (fun g hg => (ho g hg).2))
  clear h hr hl ho k
  clear hbig hA2 hB2
  go_wp2_with fail
  refine (mminus_any _ _ x y w3 (HA.out.1 (.slice px x.length dx, x) (by simp)).1 (HA.out.1 (.slice py y.length dy, y) (by simp)).1 (by have := LNx.out; omega) (by have := LNy.out; omega) (HA.out.1 (.slice px x.length dx, x) (by simp)).2 (HA.out.1 (.slice py y.length dy, y) (by simp)).2).mono ?_
  rintro r w4 ⟨vp, rfl, h, ho, k⟩
  obtain ⟨p, ep⟩ : ∃ l, thoseT true false false x y = l := ⟨_, rfl⟩
  have LNp : Hid (p.length ≤ 400) := hid (by rw [← ep]; exact Nat.le_trans (thoseT_len _ _ _ _ _) (by have := LNx.out; have := LNy.out; omega))
  rw [ep] at h
  have Ep := hid ep
  obtain ⟨pp, dp, e⟩ := h.shape
  subst e
  have HA := hid ((HA.out.step k).add h (fun g hg => (ho g hg).2))
  clear h ho k ep
  go_wp2_with fail
  refine (mminus_any _ _ y x w4 (HA.out.1 (.slice py y.length dy, y) (by simp)).1 (HA.out.1 (.slice px x.length dx, x) (by simp)).1 (by have := LNy.out; omega) (by have := LNx.out; omega) (HA.out.1 (.slice py y.length dy, y) (by simp)).2 (HA.out.1 (.slice px x.length dx, x) (by simp)).2).mono ?_
  rintro r w5 ⟨vm, rfl, h, ho, k⟩
  obtain ⟨m, em⟩ : ∃ l, thoseT true false false y x = l := ⟨_, rfl⟩
  have LNm : Hid (m.length ≤ 400) := hid (by rw [← em]; exact Nat.le_trans (thoseT_len _ _ _ _ _) (by have := LNy.out; have := LNx.out; omega))
  rw [em] at h
  have Em := hid em
  obtain ⟨pm, dm, e⟩ := h.shape
  subst e
  have HA := hid ((HA.out.step k).add h (fun g hg => (ho g hg).2))
  clear h ho k em
  go_wp2_with fail
  refine (mmeet_any _ _ x y w5 (HA.out.1 (.slice px x.length dx, x) (by simp)).1 (HA.out.1 (.slice py y.length dy, y) (by simp)).1 (by have := LNx.out; omega) (by have := LNy.out; omega) (HA.out.1 (.slice px x.length dx, x) (by simp)).2 (HA.out.1 (.slice py y.length dy, y) (by simp)).2).mono ?_
  rintro r w6 ⟨vc, rfl, h, ho, k⟩
  obtain ⟨c, ec⟩ : ∃ l, thoseT false false true x y = l := ⟨_, rfl⟩
  have LNc : Hid (c.length ≤ 400) := hid (by rw [← ec]; exact Nat.le_trans (thoseT_len _ _ _ _ _) (by have := LNx.out; have := LNy.out; omega))
  rw [ec] at h
  have Ec := hid ec
  obtain ⟨pc, dc, e⟩ := h.shape
  subst e
  have HA := hid ((HA.out.step k).add h (fun g hg => (ho g hg).2))
  clear h ho k ec
  go_wp2_with fail
  refine (munion_any _ _ x y w6 (HA.out.1 (.slice px x.length dx, x) (by simp)).1 (HA.out.1 (.slice py y.length dy, y) (by simp)).1 (by have := LNx.out; omega) (by have := LNy.out; omega) (HA.out.1 (.slice px x.length dx, x) (by simp)).2 (HA.out.1 (.slice py y.length dy, y) (by simp)).2).mono ?_
  rintro r w7 ⟨vu, rfl, h, ho, k⟩
  obtain ⟨u, eu⟩ : ∃ l, thoseT true true true x y = l := ⟨_, rfl⟩
  have LNu : Hid (u.length ≤ 400) := hid (by rw [← eu]; exact Nat.le_trans (thoseT_len _ _ _ _ _) (by have := LNx.out; have := LNy.out; omega))
  rw [eu] at h
  have Eu := hid eu
  obtain ⟨pu, du, e⟩ := h.shape
  subst e
  have HA := hid ((HA.out.step k).add h (fun g hg => (ho g hg).2))
  clear h ho k eu
  go_wp2_with fail
  refine (munion_any _ _ p m w7 (HA.out.1 (.slice pp p.length dp, p) (by simp)).1 (HA.out.1 (.slice pm m.length dm, m) (by simp)).1 (by have := LNp.out; omega) (by have := LNm.out; omega) (HA.out.1 (.slice pp p.length dp, p) (by simp)).2 (HA.out.1 (.slice pm m.length dm, m) (by simp)).2).mono ?_
  rintro r w8 ⟨vq, rfl, h, ho, k⟩
  obtain ⟨q, eq⟩ : ∃ l, thoseT true true true p m = l := ⟨_, rfl⟩
  have LNq : Hid (q.length ≤ 800) := hid (by rw [← eq]; exact Nat.le_trans (thoseT_len _ _ _ _ _) (by have := LNp.out; have := LNm.out; omega))
  rw [eq] at h
  have Eq := hid eq
  obtain ⟨pq, dq, e⟩ := h.shape
  subst e
  have HA := hid ((HA.out.step k).add h (fun g hg => (ho g hg).2))
  clear h ho k eq
  go_wp2_with fail
  refine (munion_any _ _ q c w8 (HA.out.1 (.slice pq q.length dq, q) (by simp)).1 (HA.out.1 (.slice pc c.length dc, c) (by simp)).1 (by have := LNq.out; omega) (by have := LNc.out; omega) (HA.out.1 (.slice pq q.length dq, q) (by simp)).2 (HA.out.1 (.slice pc c.length dc, c) (by simp)).2).mono ?_
  rintro r w9 ⟨vz, rfl, h, ho, k⟩
  obtain ⟨z, ez⟩ : ∃ l, thoseT true true true q c = l := ⟨_, rfl⟩
  have LNz : Hid (z.length ≤ 1200) := hid (by rw [← ez]; exact Nat.le_trans (thoseT_len _ _ _ _ _) (by have := LNq.out; have := LNc.out; omega))
  rw [ez] at h
  have Ez := hid ez
  obtain ⟨pz, dz, e⟩ := h.shape
  subst e
  have HA := hid ((HA.out.step k).add h (fun g hg => (ho g hg).2))
  clear h ho k ez
  have HUZ : Hid (u = z) := hid (by
    rw [← Ez.out, ← Eq.out, ← Ep.out, ← Em.out, ← Ec.out, ← Eu.out, apart_is RIx.out RIy.out]
    exact whole_union RIx.out RIy.out)
  have HQ : Hid (q = thoseT true true false x y) := hid (by rw [← Eq.out, ← Ep.out, ← Em.out]; exact apart_is RIx.out RIy.out)
  have HLEN : Hid ((p.length : Int) + (m.length : Int) + (c.length : Int) = (u.length : Int)) := hid (by
    have h := whole_len RIx.out RIy.out OKx.out OKy.out
    rw [Ep.out, Em.out, Ec.out, Eu.out] at h
    omega)
  have HFO : Hid (foldM q = foldM [foldM x, foldM y]) := hid (by rw [HQ.out]; exact whole_fold RIx.out RIy.out OKx.out OKy.out)
  go_wp2_with fail
  have C := msame_any _ _ u z w9 (HA.out.1 (.slice pu u.length du, u) (by simp)).1 (HA.out.1 (.slice pz z.length dz, z) (by simp)).1 (by have := LNu.out; omega) (by have := LNz.out; omega)
  rw [decide_eq_true HUZ.out] at C
  refine C.mono ?_
  rintro r w10 ⟨rfl, k⟩
  have HA := hid (HA.out.step k)
  clear C k
  have b1 := LNp.out
  have b2 := LNm.out
  have b3 := LNc.out
  have b4 := HLEN.out
  go_wp2_with fail

  obtain ⟨fq, efq⟩ : ∃ l, foldM q = l := ⟨_, rfl⟩
  have OFq : Hid (MarkOk fq) := hid (by rw [← efq]; exact foldM_ok _)
  have C := mfold_any _ q w10 (HA.out.1 (.slice pq q.length dq, q) (by simp)).1 (by have := LNq.out; omega)
  rw [efq] at C
  have EFq := hid efq
  refine C.mono ?_
  rintro r w11 ⟨rfl, k⟩
  have HA := hid (HA.out.step k)
  clear C k efq
  clear b1 b2 b3 b4
  go_wp2_with fail
  obtain ⟨fx, efx⟩ : ∃ l, foldM x = l := ⟨_, rfl⟩
  have OFx : Hid (MarkOk fx) := hid (by rw [← efx]; exact foldM_ok _)
  have C := mfold_any _ x w11 (HA.out.1 (.slice px x.length dx, x) (by simp)).1 (by have := LNx.out; omega)
  rw [efx] at C
  have EFx := hid efx
  refine C.mono ?_
  rintro r w12 ⟨rfl, k⟩
  have HA := hid (HA.out.step k)
  clear C k efx
  go_wp2_with fail
  obtain ⟨fy, efy⟩ : ∃ l, foldM y = l := ⟨_, rfl⟩
  have OFy : Hid (MarkOk fy) := hid (by rw [← efy]; exact foldM_ok _)
  have C := mfold_any _ y w12 (HA.out.1 (.slice py y.length dy, y) (by simp)).1 (by have := LNy.out; omega)
  rw [efy] at C
  have EFy := hid efy
  refine C.mono ?_
  rintro r w13 ⟨rfl, k⟩
  have HA := hid (HA.out.step k)
  clear C k efy
  have B2 := hid (fun w => make_mark2 OFx.out.len OFy.out.len w)
  go_wp2_with (refine wpList_valG (by rfl) _ _ (exec_buildSlice rfl (qs := #[(0, markV fx), (1, markV fy)]) ?_ (B2.out _)) ?_; focus (simp [Act.eval]; done))
  obtain ⟨X, hX⟩ : ∃ X, X = w13.alloc (.cells (flatR markL [fx, fy]).toArray 24 (0, 0)) := ⟨_, rfl⟩
  have KX : Kp Nb w13 X := by rw [hX]; exact (Kp.refl Nb w13).alloc _
  have MX : MkSl X (.slice (some ⟨w13.heap.size, 0, none⟩) 2 2) [fx, fy] := mk_blk (by rw [hX]; exact Blk.new w13 _ _) (fun e he => by
    simp only [List.mem_cons, List.not_mem_nil, or_false] at he
    rcases he with h | h <;> rw [h] <;> first | exact OFx.out | exact OFy.out) (by simp [maxLen])
  have HA := hid (HA.out.step KX)
  have C := mfold_any _ [fx, fy] X MX (by simp)
  rw [show foldM [fx, fy] = fq from by rw [← EFx.out, ← EFy.out, ← HFO.out, EFq.out]] at C
  rw [← hX]
  refine C.mono ?_
  rintro r w14 ⟨rfl, k⟩
  have HA := hid (HA.out.step k)
  clear C k KX MX hX
  go_wp2_with (refine wpList_valG (by rfl) _ _ (exec_eqM (bb := true) rfl (by rfl) (by rfl) OFq.out OFq.out (by simp)) ?_)
  refine (mmeet_any _ _ q c w14 (HA.out.1 (.slice pq q.length dq, q) (by simp)).1 (HA.out.1 (.slice pc c.length dc, c) (by simp)).1 (by have := LNq.out; omega) (by have := LNc.out; omega) (HA.out.1 (.slice pq q.length dq, q) (by simp)).2 (HA.out.1 (.slice pc c.length dc, c) (by simp)).2).mono ?_
  rintro r w15 ⟨v15, rfl, h, ho, k⟩
  rw [show thoseT false false true q c = [] from by rw [HQ.out, ← Ec.out]; exact whole_meet RIx.out RIy.out] at h
  obtain ⟨p15, d15, e⟩ := h.shape
  have e : v15 = .slice p15 0 d15 := e
  subst e
  have HA := hid (HA.out.step k)
  clear h ho k
  go_wp2_with fail
  refine (mminus_any _ _ x p w15 (HA.out.1 (.slice px x.length dx, x) (by simp)).1 (HA.out.1 (.slice pp p.length dp, p) (by simp)).1 (by have := LNx.out; omega) (by have := LNp.out; omega) (HA.out.1 (.slice px x.length dx, x) (by simp)).2 (HA.out.1 (.slice pp p.length dp, p) (by simp)).2).mono ?_
  rintro r w16 ⟨v16, rfl, h, ho, k⟩
  rw [show thoseT true false false x p = c from by rw [← Ep.out, ← Ec.out]; exact whole_both RIx.out RIy.out] at h
  obtain ⟨p16, d16, e⟩ := h.shape
  subst e
  have HA := hid (HA.out.step k)
  have H16 := hid h
  clear h ho k
  go_wp2_with fail
  have C := msame_any _ _ c c w16 H16.out (HA.out.1 (.slice pc c.length dc, c) (by simp)).1 (by have := LNc.out; omega) (by have := LNc.out; omega)
  rw [decide_eq_true rfl] at C
  refine C.mono ?_
  rintro r w17 ⟨rfl, k⟩
  have HA := hid (HA.out.step k)
  clear C k
  go_wp2_with fail
  have C := mright_any _ u w17 (HA.out.1 (.slice pu u.length du, u) (by simp)).1 (by have := LNu.out; omega)
  rw [show rightB u = true from by rw [← Eu.out]; exact those_rise _ _ _ _ _] at C
  refine C.mono ?_
  rintro r w18 ⟨rfl, k⟩
  have HA := hid (HA.out.step k)
  clear C k
  go_wp2
  go_ret
  exact ⟨rfl, HA.out.2⟩

end Go.Proofs.Ytijlmfmpfjjlpaa
