/-
  Layer 9: two sets beside one another: the iterator. Conditions: marks of 16 bytes; at most 100,000 a list.
-/
import Derived.Test.YtijlmfmpfjjlpaaMaC
namespace Go.Proofs.Ytijlmfmpfjjlpaa
open Go.RowKit Go.Shelf
attribute [local go_sem] Oper.semAt_some

section
variable {F : Fence} {n : Nat} {P : Program} {w w' : World} {ops : Array Oper} {rest : List Oper} {o : Oper} {a : Act} {Q : Exit → Act → World → Prop}
theorem wpListIn_valL (hw : Region.wanted o (yielded ops a.tmps) = true) (hd : ∀ c, o.op ≠ .defer c) (ha : o.about P w a.eval = none) (v : Value) (hl : (execOp a.eval o).run P w = .ok (.value v) w)
    (hK : wpListIn F n P ops Q rest (a.put o.dst v) w) : wpListIn F n P ops Q (o :: rest) a w := by
  refine wpListIn_step fun K hK' => ?_
  rw [if_pos hw]
  unfold Oper.wpIn
  refine ⟨?_, ?_⟩
  · intro f hf; rw [ha] at hf; cases hf
  · rw [Oper.semAt_plain F _ _ hd]
    rw [hl]
    exact hK' _ _ hK
theorem wpListIn_loadL (hw : Region.wanted o (yielded ops a.tmps) = true) (T : TypeId) (x : Operand) (hop : o.op = .load T x) {p : Addr} (hx : a.eval x = .pointer (some p)) {v : Value} (hl : (Instr.loadAt T (.pointer (some p))).run P w = .ok v w)
    (hK : wpListIn F n P ops Q rest (a.put o.dst v) w) : wpListIn F n P ops Q (o :: rest) a w := by
  refine wpListIn_step fun K hK' => ?_
  rw [if_pos hw]
  unfold Oper.wpIn
  refine ⟨?_, ?_⟩
  · simp [Oper.about, hop]
  · rw [Oper.semAt_plain F _ _ (by rw [hop]; intro c hc'; cases hc')]
    simp only [execOp, hop, hx, Sem.run_bind, Sem.run_pure, Result.andThen_ok, hl]
    exact hK' _ _ hK
theorem wpListIn_storeL (hg : o.guard = none) (T : TypeId) (x y : Operand) (hop : o.op = .store T x y) {p : Addr} (hx : a.eval x = .pointer (some p)) {v : Value} (hy : a.eval y = v) (hl : (Instr.storeAt T (.pointer (some p)) v).run P w = .ok () w')
    (hK : wpListIn F n P ops Q rest (a.put o.dst undef) w') : wpListIn F n P ops Q (o :: rest) a w := by
  refine wpListIn_plain hg fun K hK' => ?_
  unfold Oper.wpIn
  refine ⟨?_, ?_⟩
  · simp [Oper.about, hop]
  · rw [Oper.semAt_plain F _ _ (by rw [hop]; intro c hc'; cases hc')]
    simp only [execOp, hop, hx, hy, Sem.run_bind, Sem.run_pure, Result.andThen_ok, hl]
    exact hK' _ _ hK
theorem wpListIn_stepL (hg : o.guard = none) (v : Value) (w' : World) (hd : ∀ c, o.op ≠ .defer c) (ha : o.about P w a.eval = none) (hl : (execOp a.eval o).run P w = .ok (.value v) w')
    (hK : wpListIn F n P ops Q rest (a.put o.dst v) w') : wpListIn F n P ops Q (o :: rest) a w := by
  refine wpListIn_plain hg fun K hK' => ?_
  unfold Oper.wpIn
  refine ⟨?_, ?_⟩
  · intro f hf; rw [ha] at hf; cases hf
  · rw [Oper.semAt_plain F _ _ hd]
    rw [hl]
    exact hK' _ _ hK
theorem wpIn_store_at {op : Oper} {K : Act → World → Prop} (T : TypeId) (x y : Operand) (ho : op.op = .store T x y) {p : Addr} {v : Value}
    (hx : a.eval x = .pointer (some p)) (hy : a.eval y = v) (hl : (Instr.storeAt T (.pointer (some p)) v).run P w = .ok () w') (h : K (a.put op.dst undef) w') : op.wpIn F n P a w K Q := by
  unfold Oper.wpIn
  refine ⟨?_, ?_⟩
  · simp [Oper.about, ho]
  · rw [Oper.semAt_plain F _ _ (by rw [ho]; intro c hc'; cases hc')]
    simp only [execOp, ho, hx, hy, Sem.run_bind, Sem.run_pure, Result.andThen_ok, hl]
    exact h
end
/-- A scope through which the run goes without a goto, outside of a round. -/
theorem wide_scope {P : Program} {n : Nat} {Q : Exit → Act → World → Prop} {a : Act} {w : World} {c : Code} (h : c.wpIn Fence.wide n P (Exit.noGoto Q) a w) : (Code.scope c).wpIn Fence.wide n P Q a w := wpIn_wide.2 (wp_scope_straight (wpIn_wide.1 h))

/-- The marks of two lists, the least first, and whose they are. -/
def restA (p : List Int × Int) (xs : List (List Int)) : List (List Int) := if p.2 = 2 then xs else xs.drop 1
def restB (p : List Int × Int) (ys : List (List Int)) : List (List Int) := if p.2 = 1 then ys else ys.drop 1
def mergeN : Nat → List (List Int) → List (List Int) → List (List Int × Int)
  | 0, _, _ => []
  | f + 1, xs, ys => if xs.length + ys.length = 0 then [] else leastM xs ys :: mergeN f (restA (leastM xs ys) xs) (restB (leastM xs ys) ys)
def mergeM (xs ys : List (List Int)) : List (List Int × Int) := mergeN (xs.length + ys.length) xs ys
abbrev z16 : List Int := List.replicate 16 0
def atP (L : List (List Int × Int)) (k : Nat) : List Int × Int := L[k]?.getD (z16, 1)
theorem mergeN_nil (f : Nat) (xs ys : List (List Int)) (h : xs.length + ys.length = 0) : mergeN f xs ys = [] := by
  cases f with
  | zero => rfl
  | succ f => unfold mergeN; rw [if_pos h]
theorem mergeN_step (f : Nat) (xs ys : List (List Int)) (h : ¬ xs.length + ys.length = 0) (hf : xs.length + ys.length ≤ f) :
    ∃ g, f = g + 1 ∧ mergeN f xs ys = leastM xs ys :: mergeN g (restA (leastM xs ys) xs) (restB (leastM xs ys) ys) := by
  cases f with
  | zero => omega
  | succ f => exact ⟨f, rfl, by rw [mergeN, if_neg h]⟩
theorem leastM_cons (a b : List Int) (xs ys : List (List Int)) : leastM (a :: xs) (b :: ys) = if lexI a b then (a, 1) else if lexI b a then (b, 2) else (a, 3) := rfl
theorem leastM_of (xs ys : List (List Int)) (h : ¬ xs.length + ys.length = 0) :
    ((leastM xs ys).2 = 1 ∧ ∃ a t, xs = a :: t ∧ (leastM xs ys).1 = a) ∨ ((leastM xs ys).2 = 2 ∧ ∃ b t, ys = b :: t ∧ (leastM xs ys).1 = b) ∨
      ((leastM xs ys).2 = 3 ∧ ∃ a t b u, xs = a :: t ∧ ys = b :: u ∧ (leastM xs ys).1 = a ∧ lexI a b = false ∧ lexI b a = false) := by
  cases xs with
  | nil =>
    cases ys with
    | nil => exact absurd rfl h
    | cons b ys => exact .inr (.inl ⟨rfl, b, ys, rfl, rfl⟩)
  | cons a xs =>
    cases ys with
    | nil => exact .inl ⟨rfl, a, xs, rfl, rfl⟩
    | cons b ys =>
      rw [leastM_cons]
      cases h1 : lexI a b with
      | true => exact .inl ⟨rfl, a, xs, rfl, rfl⟩
      | false =>
        cases h2 : lexI b a with
        | true => exact .inr (.inl ⟨rfl, b, ys, rfl, rfl⟩)
        | false => exact .inr (.inr ⟨rfl, a, xs, b, ys, rfl, rfl, rfl, h1, h2⟩)
theorem rest_len (xs ys : List (List Int)) (h : ¬ xs.length + ys.length = 0) :
    (restA (leastM xs ys) xs).length + (restB (leastM xs ys) ys).length < xs.length + ys.length := by
  unfold restA restB
  rcases leastM_of xs ys h with ⟨e, a, t, rfl, -⟩ | ⟨e, b, t, rfl, -⟩ | ⟨e, a, t, b, u, rfl, rfl, -⟩
  · rw [if_neg (by omega), if_pos e]; simp
  · rw [if_pos e, if_neg (by omega)]; simp
  · rw [if_neg (by omega), if_neg (by omega)]; simp; omega
theorem leastM_ok (xs ys : List (List Int)) (h : ¬ xs.length + ys.length = 0) (h1 : ∀ m ∈ xs, MarkOk m) (h2 : ∀ m ∈ ys, MarkOk m) : MarkOk (leastM xs ys).1 ∧ ((leastM xs ys).2 = 1 ∨ (leastM xs ys).2 = 2 ∨ (leastM xs ys).2 = 3) := by
  rcases leastM_of xs ys h with ⟨e, a, t, rfl, ha⟩ | ⟨e, b, t, rfl, ha⟩ | ⟨e, a, t, b, u, rfl, rfl, ha, -⟩
  · exact ⟨by rw [ha]; exact h1 _ (by simp), .inl e⟩
  · exact ⟨by rw [ha]; exact h2 _ (by simp), .inr (.inl e)⟩
  · exact ⟨by rw [ha]; exact h1 _ (by simp), .inr (.inr e)⟩
theorem mergeN_ok (f : Nat) : ∀ (xs ys : List (List Int)), (∀ m ∈ xs, MarkOk m) → (∀ m ∈ ys, MarkOk m) → ∀ p ∈ mergeN f xs ys, MarkOk p.1 ∧ (p.2 = 1 ∨ p.2 = 2 ∨ p.2 = 3) := by
  induction f with
  | zero => intro xs ys _ _ p hp; cases hp
  | succ f ih =>
    intro xs ys h1 h2 p hp
    unfold mergeN at hp
    split at hp
    · cases hp
    · rename_i hne
      rcases List.mem_cons.1 hp with rfl | hp
      · exact leastM_ok xs ys hne h1 h2
      · refine ih _ _ (fun m hm => h1 m ?_) (fun m hm => h2 m ?_) p hp
        · unfold restA at hm; split at hm
          · exact hm
          · exact List.mem_of_mem_drop hm
        · unfold restB at hm; split at hm
          · exact hm
          · exact List.mem_of_mem_drop hm
theorem atP_ok (xs ys : List (List Int)) (h1 : ∀ m ∈ xs, MarkOk m) (h2 : ∀ m ∈ ys, MarkOk m) (k : Nat) : MarkOk (atP (mergeM xs ys) k).1 ∧ ((atP (mergeM xs ys) k).2 = 1 ∨ (atP (mergeM xs ys) k).2 = 2 ∨ (atP (mergeM xs ys) k).2 = 3) := by
  unfold atP
  cases h : (mergeM xs ys)[k]? with
  | none => exact ⟨zero_ok, .inl rfl⟩
  | some p => exact mergeN_ok _ xs ys h1 h2 p (List.mem_of_getElem? h)

/-- Blocks that stay. -/
def KpB (S : Nat → Prop) (W W' : World) : Prop := W.heap.size ≤ W'.heap.size ∧ ∀ b, S b → W'.heap[b]? = W.heap[b]?
theorem KpB.refl (S : Nat → Prop) (W : World) : KpB S W W := ⟨Nat.le_refl _, fun _ _ => rfl⟩
theorem KpB.trans {S : Nat → Prop} {A B C : World} (h : KpB S A B) (k : KpB S B C) : KpB S A C := ⟨Nat.le_trans h.1 k.1, fun b hb => (k.2 b hb).trans (h.2 b hb)⟩
theorem KpB.nb {S : Nat → Prop} {W W' : World} (h : ∀ b, S b → b < W.heap.size) (k : Kp Nb W W') : KpB S W W' := ⟨k.size, fun b hb => k.heap (h b hb) (fun h => h)⟩
/-- A slice of marks that stays while those blocks stay. -/
def StM (S : Nat → Prop) (w : World) (v : Value) (ms : List (List Int)) : Prop := ∀ W, KpB S w W → MkSl W v ms
theorem StM.here {S : Nat → Prop} {w : World} {v : Value} {ms : List (List Int)} (h : StM S w v ms) : MkSl w v ms := h w (KpB.refl _ _)
theorem StM.on {S : Nat → Prop} {w w' : World} {v : Value} {ms : List (List Int)} (h : StM S w v ms) (k : KpB S w w') : StM S w' v ms := fun W q => h W (k.trans q)
theorem StM.start {S : Nat → Prop} {w : World} {v : Value} {ms : List (List Int)} (h : MkSl w v ms) (hS : ∀ g, v.ownBlock = some g → S g) : StM S w v ms := fun W k => by
  refine ⟨h.1, ?_⟩
  rcases h.2 with h | ⟨blk, off, cap, rfl, hc, hm, hr⟩
  · exact .inl h
  · exact .inr ⟨blk, off, cap, rfl, hc, hm, fun i hi j u hu => (World.cell?_of_block (k.2 blk (hS _ rfl))).trans (hr i hi j u hu)⟩
theorem StM.cut {S : Nat → Prop} {w : World} {v : Value} {ms : List (List Int)} (h : StM S w v ms) (h0 : 1 ≤ ms.length) :
    ∃ x d, (∀ W, (Instr.slice 22 v (some (.int .i64 1)) none none).run Try.prog W = .ok (.slice x (ms.length - 1) d) W) ∧ StM S w (.slice x (ms.length - 1) d) (ms.drop 1) := by
  obtain ⟨x, d, h1, -⟩ := h.here.cutL 1 h0
  refine ⟨x, d, h1, fun W k => ?_⟩
  obtain ⟨x', d', h1', h2'⟩ := (h W k).cutL 1 h0
  have e := (h1' w).symm.trans (h1 w)
  injection e with e _
  rw [← e]
  exact h2'
def lenS : Value → Nat
  | .slice _ n _ => n
  | _ => 0

set_option maxRecDepth 100000 in
set_option maxHeartbeats 4000000 in
theorem beside1_in (m : Nat) (hm : 1 ≤ m) (l B1 B2 : Nat) (va vb : Value) (xs ys : List (List Int)) (hx : xs.length ≤ 100000) (hy : ys.length ≤ 100000) (S : Nat → Prop) (J Jx : List Nat → World → Prop)
    (hJ : ∀ pre W W', J pre W → Kp Nb W W' → J pre W')
    (hY : ∀ (pre : List Nat) (x : Nat) (W : World), J pre W → pre.length < (mergeM xs ys).length → YieldAt Fence.wide (m - 1) Try.prog l #[markV (atP (mergeM xs ys) x).1, .int .i64 (atP (mergeM xs ys) x).2] W fun r W' =>
      KpB S W W' ∧ ((r = .returned (.bool true) ∧ J (pre ++ [x]) W') ∨ (r = .returned (.bool false) ∧ Jx (pre ++ [x]) W')))
    (W : World) (b1 : Boxed W B1 22 va) (b2 : Boxed W B2 22 vb) (hS : ∀ b, S b → b < W.heap.size) (ha : StM S W va xs) (hb : StM S W vb ys) (h0 : J [] W) :
    CallsIn Fence.wide m Try.prog 73 #[.func (.yield l) #[] #[], .pointer (some ⟨B1, 0, none⟩), .pointer (some ⟨B2, 0, none⟩)] W fun r W' => (∃ v, r = .returned v) ∧
      ((∃ ks, ks = List.range (mergeM xs ys).length ∧ J ks W') ∨ (∃ pre, (∃ k, k ≤ (mergeM xs ys).length ∧ pre = List.range k) ∧ Jx pre W')) := by
  obtain ⟨L, hL⟩ : ∃ L, mergeM xs ys = L := ⟨_, rfl⟩
  have H0 : Hid (L.drop 0 = mergeN (xs.length + ys.length) xs ys) := hid (by rw [← hL]; rfl)
  rw [hL] at hY ⊢
  have HY := hid hY
  have HJK := hid hJ
  have HJ := hid h0
  have HS := hid hS
  have HA0 := hid ha
  have HB0 := hid hb
  have HX := hid hx
  have HYY := hid hy
  have c1 := b1.cell
  have c2 := b2.cell
  have KD0 : Hid (Kp Nb W W.drew) := hid (Kp.refl Nb W).drew
  have KD : Hid (KpB S W W.drew) := hid ⟨KD0.out.size, fun b hb => KD0.out.heap (HS.out b hb) (fun h => h)⟩
  clear hL hY hJ h0 hS ha hb hx hy b1 b2
  refine callsIn_of_wp Try.func73 rfl trivial ?_ rfl
  simp only [Try.ntmps73, List.size_toArray, List.length_cons, List.length_nil, Nat.reduceAdd, Nat.reduceSub, Array.replicate_succ, Array.replicate_zero, List.push_toArray, List.append_toArray, List.nil_append, List.cons_append]
  gi_wp2
  refine wide_scope ?_
  gi_wp2
  gi_region
  all_goals
    gi_wp2
    refine wpIn_label ?_
    gi_wp2
    gi_loopw [4, 5] (fun u v wr => ∃ (k f : Nat) (xs' ys' : List (List Int)), Hid (L.drop k = mergeN f xs' ys') ∧ Hid (xs'.length + ys'.length ≤ f) ∧ Hid (xs'.length ≤ 100000 ∧ ys'.length ≤ 100000) ∧ Hid (k ≤ L.length) ∧ Hid (StM S wr u xs') ∧ Hid (StM S wr v ys') ∧ Hid (J (List.range k) wr) ∧ Hid (KpB S W wr)) (fun u v _ => lenS u + lenS v)
    case atStart => exact ⟨0, _, xs, ys, H0, hid (Nat.le_refl _), hid ⟨HX.out, HYY.out⟩, hid (Nat.zero_le _), hid (HA0.out.on KD.out), hid (HB0.out.on KD.out), hid (HJK.out _ _ _ HJ.out KD0.out), KD⟩
    case round =>
      obtain ⟨k, f, xs', ys', hD, hf, hxy, hk, hA, hB, hJk, hK⟩ := hrel
      obtain ⟨pa, da, rfl⟩ := hA.out.here.shape
      obtain ⟨pb, db, rfl⟩ := hB.out.here.shape
      obtain ⟨nA, hnA⟩ : ∃ n, xs'.length = n := ⟨_, rfl⟩
      obtain ⟨nB, hnB⟩ : ∃ n, ys'.length = n := ⟨_, rfl⟩
      have hbA : nA ≤ 100000 := by rw [← hnA]; exact hxy.out.1
      have hbB : nB ≤ 100000 := by rw [← hnB]; exact hxy.out.2
      rw [hnA, hnB]
      rw [hnA] at hA
      rw [hnB] at hB
      have HNA := hid hnA
      have HNB := hid hnB
      clear hnA hnB
      by_cases h0 : nA + nB = 0
      · obtain rfl : nA = 0 := by omega
        obtain rfl : nB = 0 := by omega
        have HE : Hid (k = L.length) := hid (by
          have h := hD.out
          rw [mergeN_nil _ _ _ (by rw [HNA.out, HNB.out])] at h
          have := congrArg List.length h
          rw [List.length_drop, List.length_nil] at this
          have := hk.out
          omega)
        gi_wp2
        go_end0
        exact ⟨⟨_, rfl⟩, .inl ⟨_, by rw [HE.out], hJk.out⟩⟩
      · have hpos : 0 < nA + nB := by omega
        have HZ : Hid (¬ xs'.length + ys'.length = 0) := hid (by rw [HNA.out, HNB.out]; exact h0)
        obtain ⟨g, hfg, hmr⟩ := mergeN_step f xs' ys' HZ.out hf.out
        have hlt := rest_len xs' ys' HZ.out
        have hok := leastM_ok xs' ys' HZ.out hA.out.here.ok hB.out.here.ok
        have hof := leastM_of xs' ys' HZ.out
        have hD1 := hD.out
        rw [hmr] at hD1
        have hCL := fun w' (ka : MkSl w' (.slice pa nA da) xs') (kb : MkSl w' (.slice pb nB db) ys') => least_any (.slice pa nA da) (.slice pb nB db) xs' ys' w' ka kb (fun h => HZ.out (by rw [h.1, h.2]; rfl))
        obtain ⟨⟨q, c⟩, hq⟩ : ∃ p, leastM xs' ys' = p := ⟨_, rfl⟩
        rw [hq] at hD1 hok hof hlt hCL
        dsimp only at hD1 hok hof hlt hCL
        have hLk : L[k]? = some (q, c) := by have h := congrArg (fun l => l[0]?) hD1; simpa using h
        have HQ : Hid (atP L k = (q, c)) := hid (by unfold atP; rw [hLk]; rfl)
        have HLEN : Hid ((List.range k).length < L.length) := hid (by rw [List.length_range]; exact (List.getElem?_eq_some_iff.1 hLk).1)
        have HDN : Hid (L.drop (k + 1) = mergeN g (restA (q, c) xs') (restB (q, c) ys')) := hid (by
          have := congrArg (List.drop 1) hD1
          rwa [List.drop_drop, List.drop_succ_cons, List.drop_zero] at this)
        have HKL : Hid (k + 1 ≤ L.length) := hid ((List.getElem?_eq_some_iff.1 hLk).1)
        have HFG : Hid ((restA (q, c) xs').length + (restB (q, c) ys').length ≤ g) := hid (by have := hf.out; omega)
        have HXY := hxy
        have HSB : Hid (∀ b, S b → b < wr.heap.size) := hid (fun b hb => Nat.lt_of_lt_of_le (HS.out b hb) hK.out.1)
        have MO := hid hok.1
        have HCL := hid (hCL wr hA.out.here hB.out.here)
        clear hD1 hlt hmr hfg hCL hq hLk h0
        have hc := hok.2
        clear hok
        rcases hc with rfl | rfl | rfl
        · have hA1 : 1 ≤ nA := by
            rcases hof with ⟨-, a, t, e, -⟩ | ⟨e, -⟩ | ⟨e, -⟩
            · rw [← HNA.out, e]; simp
            · cases e
            · cases e
          obtain ⟨xA, dA, cutA, NA0⟩ := hA.out.cut (by rw [HNA.out]; exact hA1)
          rw [HNA.out] at cutA NA0
          have NA : Hid (StM S wr (.slice xA (nA - 1) dA) (restA (q, 1) xs')) := hid NA0
          have NB : Hid (StM S wr (.slice pb nB db) (restB (q, 1) ys')) := hB
          clear NA0 hof
          gi_wp2_with (first
            | (refine wpListIn_stepL rfl _ _ (by intro c hc; cases hc) (by simp [Oper.about]) (exec_allocM rfl AL.out) ?_)
            | (refine wpListIn_storeL rfl 24 (.tmp 6) (.tmp 20) rfl (p := ⟨M5, 0, none⟩) (by rfl) (v := markV q) (by rfl) ST.out ?_)
            | (refine wpListIn_loadL (by first | rfl | kernel_rfl) 24 (.tmp 6) rfl (p := ⟨M5, 0, none⟩) (by rfl) HL5.out ?_)
            | (refine ⟨trivial, ?_⟩; gi_at_call 74; refine (callsIn_wide.2 HCL.out).mono ?_; rintro r w2 ⟨rfl, k2⟩; obtain ⟨W5, s1, s2, s3⟩ := mk_fresh w2 MO.out; have AL := hid (mk_new w2); obtain ⟨M5, hM5⟩ : ∃ n, w2.heap.size = n := ⟨_, rfl⟩; rw [hM5] at s1 s2 AL; have ST := hid s1; have HL5 := hid (load_mark MO.out (range_of s2)); have K5 := hid (k2.trans s3 (fun _ _ h => h)); obtain ⟨fn, tmps, assign, body, hy, hR⟩ := HY.out (List.range k) k W5 (HJK.out _ _ _ hJk.out K5.out) HLEN.out; rw [HQ.out] at hy; dsimp only at hy; have HRR := hid hR; clear k2 s1 s2 s3 hM5 hR))
          have KX5 := hid (KpB.nb HSB.out K5.out)
          refine HRR.out.mono ?_
          rintro r W3 ⟨kk, (⟨rfl, hJ3⟩ | ⟨rfl, hJx3⟩)⟩
          · have JX : Hid (J (List.range (k + 1)) W3) := hid (by rw [List.range_succ]; exact hJ3)
            have KX := hid (KX5.out.trans kk)
            clear hJ3 kk hy
            gi_wp2
            all_goals
              go_roundw
              case rel => exact ⟨k + 1, g, _, _, HDN, HFG, hid (by have := HXY.out; simp only [restA, restB] ; simp; omega), HKL, hid (NA.out.on KX.out), hid (NB.out.on KX.out), JX, hid (hK.out.trans KX.out)⟩
              case measure => simp [lenS]; omega
          · have JX : Hid (Jx (List.range (k + 1)) W3) := hid (by rw [List.range_succ]; exact hJx3)
            clear hJx3 kk hy
            gi_wp2
            dsimp only [Exit.noGoto]
            go_end0
            exact ⟨⟨_, rfl⟩, .inr ⟨_, ⟨k + 1, HKL.out, rfl⟩, JX.out⟩⟩
        · have hB1 : 1 ≤ nB := by
            rcases hof with ⟨e, -⟩ | ⟨-, a, t, e, -⟩ | ⟨e, -⟩
            · cases e
            · rw [← HNB.out, e]; simp
            · cases e
          obtain ⟨xB, dB, cutB, NB0⟩ := hB.out.cut (by rw [HNB.out]; exact hB1)
          rw [HNB.out] at cutB NB0
          have NA : Hid (StM S wr (.slice pa nA da) (restA (q, 2) xs')) := hA
          have NB : Hid (StM S wr (.slice xB (nB - 1) dB) (restB (q, 2) ys')) := hid NB0
          clear NB0 hof
          gi_wp2_with (first
            | (refine wpListIn_stepL rfl _ _ (by intro c hc; cases hc) (by simp [Oper.about]) (exec_allocM rfl AL.out) ?_)
            | (refine wpListIn_storeL rfl 24 (.tmp 6) (.tmp 20) rfl (p := ⟨M5, 0, none⟩) (by rfl) (v := markV q) (by rfl) ST.out ?_)
            | (refine wpListIn_loadL (by first | rfl | kernel_rfl) 24 (.tmp 6) rfl (p := ⟨M5, 0, none⟩) (by rfl) HL5.out ?_)
            | (refine ⟨trivial, ?_⟩; gi_at_call 74; refine (callsIn_wide.2 HCL.out).mono ?_; rintro r w2 ⟨rfl, k2⟩; obtain ⟨W5, s1, s2, s3⟩ := mk_fresh w2 MO.out; have AL := hid (mk_new w2); obtain ⟨M5, hM5⟩ : ∃ n, w2.heap.size = n := ⟨_, rfl⟩; rw [hM5] at s1 s2 AL; have ST := hid s1; have HL5 := hid (load_mark MO.out (range_of s2)); have K5 := hid (k2.trans s3 (fun _ _ h => h)); obtain ⟨fn, tmps, assign, body, hy, hR⟩ := HY.out (List.range k) k W5 (HJK.out _ _ _ hJk.out K5.out) HLEN.out; rw [HQ.out] at hy; dsimp only at hy; have HRR := hid hR; clear k2 s1 s2 s3 hM5 hR))
          have KX5 := hid (KpB.nb HSB.out K5.out)
          refine HRR.out.mono ?_
          rintro r W3 ⟨kk, (⟨rfl, hJ3⟩ | ⟨rfl, hJx3⟩)⟩
          · have JX : Hid (J (List.range (k + 1)) W3) := hid (by rw [List.range_succ]; exact hJ3)
            have KX := hid (KX5.out.trans kk)
            clear hJ3 kk hy
            gi_wp2
            all_goals
              go_roundw
              case rel => exact ⟨k + 1, g, _, _, HDN, HFG, hid (by have := HXY.out; simp only [restA, restB] ; simp; omega), HKL, hid (NA.out.on KX.out), hid (NB.out.on KX.out), JX, hid (hK.out.trans KX.out)⟩
              case measure => simp [lenS]; omega
          · have JX : Hid (Jx (List.range (k + 1)) W3) := hid (by rw [List.range_succ]; exact hJx3)
            clear hJx3 kk hy
            gi_wp2
            dsimp only [Exit.noGoto]
            go_end0
            exact ⟨⟨_, rfl⟩, .inr ⟨_, ⟨k + 1, HKL.out, rfl⟩, JX.out⟩⟩
        · obtain ⟨hA1, hB1⟩ : 1 ≤ nA ∧ 1 ≤ nB := by
            rcases hof with ⟨e, -⟩ | ⟨e, -⟩ | ⟨-, a, t, b, u, e, e2, -⟩
            · cases e
            · cases e
            · exact ⟨by rw [← HNA.out, e]; simp, by rw [← HNB.out, e2]; simp⟩
          obtain ⟨xA, dA, cutA, NA0⟩ := hA.out.cut (by rw [HNA.out]; exact hA1)
          obtain ⟨xB, dB, cutB, NB0⟩ := hB.out.cut (by rw [HNB.out]; exact hB1)
          rw [HNA.out] at cutA NA0
          rw [HNB.out] at cutB NB0
          have NA : Hid (StM S wr (.slice xA (nA - 1) dA) (restA (q, 3) xs')) := hid NA0
          have NB : Hid (StM S wr (.slice xB (nB - 1) dB) (restB (q, 3) ys')) := hid NB0
          clear NA0 NB0 hof
          gi_wp2_with (first
            | (refine wpListIn_stepL rfl _ _ (by intro c hc; cases hc) (by simp [Oper.about]) (exec_allocM rfl AL.out) ?_)
            | (refine wpListIn_storeL rfl 24 (.tmp 6) (.tmp 20) rfl (p := ⟨M5, 0, none⟩) (by rfl) (v := markV q) (by rfl) ST.out ?_)
            | (refine wpListIn_loadL (by first | rfl | kernel_rfl) 24 (.tmp 6) rfl (p := ⟨M5, 0, none⟩) (by rfl) HL5.out ?_)
            | (refine ⟨trivial, ?_⟩; gi_at_call 74; refine (callsIn_wide.2 HCL.out).mono ?_; rintro r w2 ⟨rfl, k2⟩; obtain ⟨W5, s1, s2, s3⟩ := mk_fresh w2 MO.out; have AL := hid (mk_new w2); obtain ⟨M5, hM5⟩ : ∃ n, w2.heap.size = n := ⟨_, rfl⟩; rw [hM5] at s1 s2 AL; have ST := hid s1; have HL5 := hid (load_mark MO.out (range_of s2)); have K5 := hid (k2.trans s3 (fun _ _ h => h)); obtain ⟨fn, tmps, assign, body, hy, hR⟩ := HY.out (List.range k) k W5 (HJK.out _ _ _ hJk.out K5.out) HLEN.out; rw [HQ.out] at hy; dsimp only at hy; have HRR := hid hR; clear k2 s1 s2 s3 hM5 hR))
          have KX5 := hid (KpB.nb HSB.out K5.out)
          refine HRR.out.mono ?_
          rintro r W3 ⟨kk, (⟨rfl, hJ3⟩ | ⟨rfl, hJx3⟩)⟩
          · have JX : Hid (J (List.range (k + 1)) W3) := hid (by rw [List.range_succ]; exact hJ3)
            have KX := hid (KX5.out.trans kk)
            clear hJ3 kk hy
            gi_wp2
            all_goals
              go_roundw
              case rel => exact ⟨k + 1, g, _, _, HDN, HFG, hid (by have := HXY.out; simp only [restA, restB] ; simp; omega), HKL, hid (NA.out.on KX.out), hid (NB.out.on KX.out), JX, hid (hK.out.trans KX.out)⟩
              case measure => simp [lenS]; omega
          · have JX : Hid (Jx (List.range (k + 1)) W3) := hid (by rw [List.range_succ]; exact hJx3)
            clear hJx3 kk hy
            gi_wp2
            dsimp only [Exit.noGoto]
            go_end0
            exact ⟨⟨_, rfl⟩, .inr ⟨_, ⟨k + 1, HKL.out, rfl⟩, JX.out⟩⟩

end Go.Proofs.Ytijlmfmpfjjlpaa
