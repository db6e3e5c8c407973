/-
  A region that draws its order, whose operations leave values that hang on what comes up on the way (a new block's number, a callee's answer): a ghost g holds what was chosen; each operation may choose more of it. One small obligation for each operation; the orders are never enumerated. Nothing of the program is named here. Condition: what 'okAll' checks of the operations (closed).
-/
import Derived.Test.YtbbfibgijackhaaGreatDoorVals
namespace Go.Proofs.YtbbfibgijackhaaGreatDoor
open Go.RowKit

/-- Which of the designated operations have come up. -/
def bitsAt (marks : List Nat) (L : Nat → Bool) : List Bool := marks.map L
theorem bitsAt_upd {marks : List Nat} {i : Nat} (h : marks.contains i = false) (L : Nat → Bool) : bitsAt marks (upd L i) = bitsAt marks L := by
  unfold bitsAt
  apply List.map_congr_left
  intro j hj
  unfold upd
  have : (j == i) = false := by
    rw [beq_eq_false_iff_ne]
    rintro rfl
    rw [List.contains_iff_mem.2 hj] at h
    cases h
  rw [this, Bool.or_false]

section
variable {G : Type} {P : Program} {ops : Array Oper} {Q : Exit → Act → World → Prop} {marks : List Nat} {S : List Bool → G → World → Prop} {wr : List (Option Nat)} {vals : G → List Value} {reads : List (List (Nat × Option Nat))} {a0 : Act}

/-- What stands behind an operation: its value, and the others' as they were. -/
def GNext (marks : List Nat) (S : List Bool → G → World → Prop) (vals : G → List Value) (i : Nat) (L : Nat → Bool) (g : G) (u : Value) (g' : G) (w' : World) : Prop :=
  (vals g').getD i undef = u ∧ (∀ j, L j = true → (vals g').getD j undef = (vals g).getD j undef) ∧ S (bitsAt marks (upd L i)) g' w'
def GStep (P : Program) (ops : Array Oper) (marks : List Nat) (S : List Bool → G → World → Prop) (vals : G → List Value) (reads : List (List (Nat × Option Nat))) (a0 : Act) (i : Nat) : Prop :=
  ∀ (o : Oper) (L : Nat → Bool) (g : G) (w : World), ops[i]? = some o → L i = false → (∀ j, aft o j = true → L j = true) → (∀ (j : Nat) (oj : Oper), ops[j]? = some oj → L j = true → ∀ k, aft oj k = true → L k = true) → S (bitsAt marks L) g w →
    ((match o.guard with | none => True | some (x, b) => (vals g).getD x undef = .bool b) ∧
      ∀ ev : Operand → Value, EvOk ev → (∀ p ∈ reads.getD i [], ev (.tmp p.1) = srcV a0 (vals g) p) →
        (∃ u g' w', (execOp ev o).run P w = .ok (.value u) w' ∧ GNext marks S vals i L g u g' w') ∨
        (∃ g' w', (execOp ev o).run P w = .ok .skip w' ∧ GNext marks S vals i L g undef g' w') ∨
        ∃ f args, (execOp ev o).run P w = .ok (.enter f args) w ∧ Calls P f args w fun e w' => ∃ u g', e = .returned u ∧ GNext marks S vals i L g u g' w') ∨
    ((match o.guard with | none => False | some (x, b) => (vals g).getD x undef = .bool (!b)) ∧ ∃ g', GNext marks S vals i L g undef g' w)

structure InvG (S : List Bool → G → World → Prop) (marks : List Nat) (ops : Array Oper) (wr : List (Option Nat)) (vals : G → List Value) (a0 : Act) (L : Nat → Bool) (g : G) (a : Act) (w : World) : Prop where
  s : S (bitsAt marks L) g w
  size : a.tmps.size = a0.tmps.size
  defers : a.defers = a0.defers
  closed : ∀ i o, ops[i]? = some o → L i = true → ∀ e ∈ o.after, Region.binds .any e = true → L e.on = true
  slot : ∀ s, a.eval (.tmp s) = curV wr (vals g) a0 L s

theorem ghost_step {L : Nat → Bool} {a : Act} {w : World} {i : Nat} {o : Oper} {g : G} {K : Act → World → Prop} (hok : okAll ops wr a0.tmps.size reads = true) (hI : InvG S marks ops wr vals a0 L g a w) (ho : ops[i]? = some o) (hu : L i = false) (hdep : ∀ e ∈ o.after, Region.binds .any e = true → L e.on = true)
    (hstep : GStep P ops marks S vals reads a0 i) (hK : ∀ g' a' w', InvG S marks ops wr vals a0 (upd L i) g' a' w' → K a' w') : wpOp P ops Q i K a w := by
  have hlt : i < ops.size := (Array.getElem?_eq_some_iff.1 ho).1
  have h := okAll_one hok ho
  unfold okOne at h
  rw [ho] at h
  dsimp only at h
  rw [Bool.and_eq_true, Bool.and_eq_true, Bool.and_eq_true] at h
  obtain ⟨⟨⟨h1, h2⟩, h3⟩, h4⟩ := h
  have hafter : ∀ j, aft o j = true → L j = true := fun j hj => by
    obtain ⟨e, he, hb, rfl⟩ := aft_spec hj
    exact hdep e he hb
  -- what stands in the slots that are read
  have hread : ∀ p ∈ reads.getD i [], a.eval (.tmp p.1) = srcV a0 (vals g) p := by
    rintro ⟨s, src⟩ hp
    have hp' := List.all_eq_true.1 h4 _ hp
    dsimp only at hp'
    rw [hI.slot s]
    unfold curV
    cases src with
    | some j =>
      rw [Bool.and_eq_true] at hp'
      have e1 : wr.getD s none = some j := by simpa using hp'.1
      rw [e1]
      simp only [hafter j hp'.2, if_true]
      rfl
    | none =>
      dsimp only at hp'
      split at hp'
      · rename_i e1
        first | rfl | (rw [e1]; rfl)
      · rename_i j e1
        split at hp'
        · rename_i oj hoj
          obtain ⟨e, he, hb, hon⟩ := aft_spec hp'
          have hj : L j = false := by
            cases hLj : L j with
            | false => rfl
            | true =>
              have := hI.closed j oj hoj hLj e he hb
              rw [hon, hu] at this
              cases this
          first | (simp [hj]; rfl) | (rw [e1]; simp [hj]; rfl)
        · cases hp'
  -- the invariant behind it
  have hnext : ∀ u g' w', GNext marks S vals i L g u g' w' → InvG S marks ops wr vals a0 (upd L i) g' (a.put o.dst u) w' := fun u g' w' hw' => by
    obtain ⟨hui, hold, hSn⟩ := hw'
    have hcur : ∀ s, (∀ j, wr.getD s none = some j → (j == i) = false) → curV wr (vals g') a0 (upd L i) s = curV wr (vals g) a0 L s := fun s hs => by
      unfold curV
      cases hws : wr.getD s none with
      | none => rfl
      | some j =>
        have hne := hs j hws
        simp only [upd, hne, Bool.or_false]
        cases hLj : L j with
        | false => rfl
        | true => simp only [if_true]; exact hold j hLj
    refine ⟨hSn, by rw [size_put]; exact hI.size, ?_, ?_, ?_⟩
    · rw [← hI.defers]; unfold Act.put; split <;> rfl
    · intro j oj hoj hLj e he hb
      unfold upd at hLj ⊢
      rw [Bool.or_eq_true] at hLj
      rcases hLj with hLj | hLj
      · rw [hI.closed j oj hoj hLj e he hb]; rfl
      · have : j = i := by simpa using hLj
        subst this
        rw [ho] at hoj
        injection hoj with hoj
        subst hoj
        rw [hdep e he hb]; rfl
    · intro s
      cases hd : o.dst with
      | none =>
        show a.eval (.tmp s) = _
        rw [hI.slot s]
        refine (hcur s (fun j hws => ?_)).symm
        rw [beq_eq_false_iff_ne]
        rintro rfl
        obtain ⟨oj, hoj, hdj⟩ := okAll_wr hok hws
        rw [ho] at hoj
        injection hoj with hoj
        subst hoj
        rw [hd] at hdj
        cases hdj
      | some d =>
        rw [hd] at h2
        dsimp only at h2
        rw [Bool.and_eq_true] at h2
        have hdN : d < a.tmps.size := by rw [hI.size]; exact of_decide_eq_true h2.1
        have hwd : wr.getD d none = some i := by simpa using h2.2
        by_cases hsd : d = s
        · subst hsd
          rw [eval_put_same a d _ hdN]
          unfold curV
          rw [hwd]
          have hii : upd L i i = true := by simp [upd]
          simp only [hii, if_true, hui]
        · rw [eval_put_ne a d s _ hsd, hI.slot s]
          refine (hcur s (fun j hws => ?_)).symm
          rw [beq_eq_false_iff_ne]
          rintro rfl
          obtain ⟨oj, hoj, hdj⟩ := okAll_wr hok hws
          rw [ho] at hoj
          injection hoj with hoj
          subst hoj
          rw [hd] at hdj
          injection hdj with hdj
          exact hsd hdj
  -- what the guard says
  have hguard : ∀ x b, o.guard = some (x, b) → ∀ c, (vals g).getD x undef = .bool c → yielded ops a.tmps x = some c := fun x b hg c hc => by
    rw [hg] at h3
    dsimp only at h3
    rw [Bool.and_eq_true] at h3
    split at h3
    · rename_i og hog
      obtain ⟨d, hd⟩ := Option.isSome_iff_exists.1 h3.2
      have hgo := okAll_one hok hog
      unfold okOne at hgo
      rw [hog] at hgo
      dsimp only at hgo
      rw [Bool.and_eq_true, Bool.and_eq_true, Bool.and_eq_true, hd] at hgo
      dsimp only at hgo
      rw [Bool.and_eq_true] at hgo
      have hdN : d < a.tmps.size := by rw [hI.size]; exact of_decide_eq_true hgo.1.1.2.1
      have hwd : wr.getD d none = some x := by simpa using hgo.1.1.2.2
      have he : a.eval (.tmp d) = .bool c := by
        rw [hI.slot d]
        unfold curV
        rw [hwd]
        simp only [hafter x h3.1, if_true, hc]
      have ht : a.tmps[d]? = some (.bool c) := by
        rw [Array.getElem?_eq_getElem hdN]
        congr 1
        rw [← he]
        simp [Act.eval, hdN]
      unfold yielded
      rw [hog]
      simp [hd, ht]
    · cases h3.2
  rcases hstep o L g w ho hu hafter (fun j oj hoj hLj k hk => by
      obtain ⟨e, he, hb, rfl⟩ := aft_spec hk
      exact hI.closed j oj hoj hLj e he hb) hI.s with ⟨hg, hrun⟩ | ⟨hskip, g', hn⟩
  · have hw : Region.wanted o (yielded ops a.tmps) = true := by
      unfold Region.wanted
      cases hgd : o.guard with
      | none => rfl
      | some gb =>
        obtain ⟨x, b⟩ := gb
        rw [hgd] at hg
        dsimp only at hg ⊢
        rw [hguard x b hgd b hg]
        simp
    unfold wpOp
    rw [ho]
    simp only [hw, if_true]
    refine .inl ?_
    rcases hrun a.eval ⟨fun _ => rfl, fun _ => rfl⟩ hread with ⟨u, g', w', hr, hn⟩ | ⟨g', w', hr, hn⟩ | ⟨f, args, hr, hc⟩
    · unfold Oper.wp
      rw [hr]
      exact hK _ _ _ (hnext u g' w' hn)
    · unfold Oper.wp
      rw [hr]
      exact hK _ _ _ (hnext undef g' w' hn)
    · unfold Oper.wp
      rw [hr]
      exact hc.mono fun e w' ⟨u, g', he, hn⟩ => by subst he; exact hK _ _ _ (hnext u g' w' hn)
  · cases hgd : o.guard with
    | none => rw [hgd] at hskip; exact hskip.elim
    | some gb =>
      obtain ⟨x, b⟩ := gb
      rw [hgd] at hskip
      dsimp only at hskip
      have hw : Region.wanted o (yielded ops a.tmps) = false := by
        unfold Region.wanted
        rw [hgd]
        dsimp only
        rw [hguard x b hgd _ hskip]
        cases b <;> rfl
      unfold wpOp
      rw [ho]
      simp only [hw, Bool.false_eq_true, if_false]
      exact hK _ _ _ (hnext undef g' w hn)
theorem ghost_end {L : Nat → Bool} {a : Act} {w : World} {g : G} (hI : InvG S marks ops wr vals a0 L g a w) (hall : ∀ i s, wr.getD s none = some i → L i = true) (aF : Act) (hF : aF.tmps.toList = (List.range a0.tmps.size).map fun s => match wr.getD s none with | none => a0.eval (.tmp s) | some i => (vals g).getD i undef) (hD : aF.defers = a0.defers) : a = aF := by
  obtain ⟨t, d⟩ := a
  obtain ⟨tF, dF⟩ := aF
  have h1 : t = tF := by
    apply Array.toList_inj.1
    rw [hF]
    have hsz : t.toList.length = a0.tmps.size := hI.size
    apply List.ext_getElem?
    intro s
    rw [List.getElem?_map]
    rcases Nat.lt_or_ge s a0.tmps.size with hs | hs
    · rw [List.getElem?_range hs]
      have e := hI.slot s
      have hts : s < t.size := by rw [show t.size = a0.tmps.size from hI.size]; exact hs
      have e2 : t[s]? = some ((Act.mk t d).eval (.tmp s)) := by
        rw [Array.getElem?_eq_getElem hts]
        simp [Act.eval, hts]
      show t.toList[s]? = _
      rw [Array.getElem?_toList, e2, e]
      unfold curV
      cases hws : wr.getD s none with
      | none => simp only [Option.map_some, hws]
      | some i =>
        simp only [Option.map_some, hws, hall i s hws, if_true]
    · rw [List.getElem?_eq_none (by omega), List.getElem?_eq_none (by simpa using hs)]
      rfl
  have h2 : d = dF := by
    have := hI.defers
    simp only at this hD
    rw [this, hD]
  rw [h1, h2]
theorem region_ghost {rid : Nat} {w : World} {g0 : G} (wr : List (Option Nat)) (reads : List (List (Nat × Option Nat))) (dsts : List (Option Nat)) (vals : G → List Value) (marks : List Nat) (S : List Bool → G → World → Prop) (hm : P.follows .mixedOrders = true) (hok : okAll ops wr a0.tmps.size reads = true)
    (hF : ∀ g, (putAll dsts (vals g) a0).tmps.toList = (List.range a0.tmps.size).map fun s => match wr.getD s none with | none => a0.eval (.tmp s) | some i => (vals g).getD i undef) (hmk : (marks.all fun i => decide (i < ops.size)) = true)
    (hS : S (marks.map fun _ => false) g0 w.drew) (hstep : ∀ i, i < ops.size → GStep P ops marks S vals reads a0 i) (hend : ∀ g w, S (marks.map fun _ => true) g w → Q .normal (putAll dsts (vals g) a0) w) : (Code.region rid ops true).wp P Q a0 w := by
  refine region_inv0 hm (okAll_up hok) (fun L a w => ∃ g, InvG S marks ops wr vals a0 L g a w) ⟨g0, hS, rfl, rfl, fun i o _ h => (by cases h), fun s => ?_⟩ ?_ ?_
  · unfold curV
    split <;> simp
  · rintro L a w i o ⟨g, hI⟩ ho hu hdep
    exact ghost_step hok hI ho hu hdep (hstep i (Array.getElem?_eq_some_iff.1 ho).1) (fun g' _ _ h => ⟨g', h⟩)
  · rintro L a w ⟨g, hI⟩ hall
    have ha : a = putAll dsts (vals g) a0 := ghost_end hI (fun i s hws => by
      obtain ⟨o, ho, _⟩ := okAll_wr hok hws
      exact hall i (Array.getElem?_eq_some_iff.1 ho).1) _ (hF g) (putAll_defers dsts (vals g) a0)
    rw [ha]
    refine hend g w ?_
    have hb : bitsAt marks L = marks.map fun _ => true := by
      unfold bitsAt
      apply List.map_congr_left
      intro j hj
      exact hall j (of_decide_eq_true (List.all_eq_true.1 hmk j hj))
    rw [← hb]
    exact hI.s

/-- Steps: an operation that leaves a value known ahead and turns nothing (i is not designated). -/
theorem GStep.val {i : Nat} (o : Oper) (ho : ops[i]? = some o) (hi : marks.contains i = false) (rd : List (Nat × Option Nat)) (hrd : reads.getD i [] = rd) (u : G → Value) (hu : ∀ g, (vals g).getD i undef = u g) (hg : ∀ g, match o.guard with | none => True | some (x, b) => (vals g).getD x undef = .bool b)
    (h : ∀ (bs : List Bool) (g : G) (ev : Operand → Value) (w : World), S bs g w → EvOk ev → (∀ p ∈ rd, ev (.tmp p.1) = srcV a0 (vals g) p) → (execOp ev o).run P w = .ok (.value (u g)) w) : GStep P ops marks S vals reads a0 i := by
  intro o' L g w ho' hL hd hcl hS
  rw [ho] at ho'
  injection ho' with ho'
  subst ho' hrd
  refine .inl ⟨hg g, fun ev he hr => .inl ⟨u g, g, w, h _ g ev w hS he hr, hu g, fun _ _ => rfl, ?_⟩⟩
  rw [bitsAt_upd hi L]
  exact hS
/-- A call whose answer is known ahead (i is not designated). -/
theorem GStep.call {i : Nat} (o : Oper) (ho : ops[i]? = some o) (hi : marks.contains i = false) (rd : List (Nat × Option Nat)) (hrd : reads.getD i [] = rd) (u : G → Value) (hu : ∀ g, (vals g).getD i undef = u g) (hg : ∀ g, match o.guard with | none => True | some (x, b) => (vals g).getD x undef = .bool b) (f : FuncId) (args : G → Array Value)
    (h : ∀ (bs : List Bool) (g : G) (ev : Operand → Value) (w : World), S bs g w → EvOk ev → (∀ p ∈ rd, ev (.tmp p.1) = srcV a0 (vals g) p) → (execOp ev o).run P w = .ok (.enter f (args g)) w)
    (hc : ∀ (L : Nat → Bool) (g : G) (w : World), (∀ j, aft o j = true → L j = true) → L i = false → S (bitsAt marks L) g w → Calls P f (args g) w fun e w' => e = .returned (u g) ∧ S (bitsAt marks L) g w') : GStep P ops marks S vals reads a0 i := by
  intro o' L g w ho' hL hd hcl hS
  rw [ho] at ho'
  injection ho' with ho'
  subst ho' hrd
  refine .inl ⟨hg g, fun ev he hr => .inr (.inr ⟨f, args g, h _ g ev w hS he hr, (hc L g w hd hL hS).mono fun e w' ⟨h1, h2⟩ => ⟨u g, g, h1, hu g, fun _ _ => rfl, ?_⟩⟩)⟩
  rw [bitsAt_upd hi L]
  exact h2
/-- A designated operation that leaves a value and makes memory (a made slice). -/
theorem GStep.make {i : Nat} (o : Oper) (ho : ops[i]? = some o) (rd : List (Nat × Option Nat)) (hrd : reads.getD i [] = rd) (hg : ∀ g, match o.guard with | none => True | some (x, b) => (vals g).getD x undef = .bool b)
    (h : ∀ (L : Nat → Bool) (g : G) (ev : Operand → Value) (w : World), L i = false → (∀ j, aft o j = true → L j = true) → (∀ (j : Nat) (oj : Oper), ops[j]? = some oj → L j = true → ∀ k, aft oj k = true → L k = true) → S (bitsAt marks L) g w → EvOk ev → (∀ p ∈ rd, ev (.tmp p.1) = srcV a0 (vals g) p) →
      ∃ u g' w', (execOp ev o).run P w = .ok (.value u) w' ∧ GNext marks S vals i L g u g' w') : GStep P ops marks S vals reads a0 i := by
  intro o' L g w ho' hL hd hcl hS
  rw [ho] at ho'
  injection ho' with ho'
  subst ho' hrd
  exact .inl ⟨hg g, fun ev he hr => .inl (h L g ev w hL hd hcl hS he hr)⟩
/-- A designated call. -/
theorem GStep.callm {i : Nat} (o : Oper) (ho : ops[i]? = some o) (rd : List (Nat × Option Nat)) (hrd : reads.getD i [] = rd) (hg : ∀ g, match o.guard with | none => True | some (x, b) => (vals g).getD x undef = .bool b) (f : FuncId) (args : G → Array Value)
    (h : ∀ (bs : List Bool) (g : G) (ev : Operand → Value) (w : World), S bs g w → EvOk ev → (∀ p ∈ rd, ev (.tmp p.1) = srcV a0 (vals g) p) → (execOp ev o).run P w = .ok (.enter f (args g)) w)
    (hc : ∀ (L : Nat → Bool) (g : G) (w : World), L i = false → (∀ j, aft o j = true → L j = true) → (∀ (j : Nat) (oj : Oper), ops[j]? = some oj → L j = true → ∀ k, aft oj k = true → L k = true) → S (bitsAt marks L) g w → Calls P f (args g) w fun e w' => ∃ u g', e = .returned u ∧ GNext marks S vals i L g u g' w') : GStep P ops marks S vals reads a0 i := by
  intro o' L g w ho' hL hd hcl hS
  rw [ho] at ho'
  injection ho' with ho'
  subst ho' hrd
  exact .inl ⟨hg g, fun ev he hr => .inr (.inr ⟨f, args g, h _ g ev w hS he hr, hc L g w hL hd hcl hS⟩)⟩
theorem GStep.skip {i : Nat} (o : Oper) (ho : ops[i]? = some o) (hi : marks.contains i = false) (hu : ∀ g, (vals g).getD i undef = undef) (hg : ∀ g, match o.guard with | none => False | some (x, b) => (vals g).getD x undef = .bool (!b)) : GStep P ops marks S vals reads a0 i := by
  intro o' L g w ho' hL hd hcl hS
  rw [ho] at ho'
  injection ho' with ho'
  subst ho'
  refine .inr ⟨hg g, g, hu g, fun _ _ => rfl, ?_⟩
  rw [bitsAt_upd hi L]
  exact hS
def GFrom (P : Program) (ops : Array Oper) (marks : List Nat) (S : List Bool → G → World → Prop) (vals : G → List Value) (reads : List (List (Nat × Option Nat))) (a0 : Act) (k n : Nat) : Prop := ∀ i, k ≤ i → i < n → GStep P ops marks S vals reads a0 i
theorem GFrom.cons {k n : Nat} (h : GStep P ops marks S vals reads a0 k) (t : GFrom P ops marks S vals reads a0 (k + 1) n) : GFrom P ops marks S vals reads a0 k n := fun i h1 h2 => by
  by_cases e : i = k
  · subst e; exact h
  · exact t i (by omega) h2
theorem GFrom.nil {n : Nat} : GFrom P ops marks S vals reads a0 n n := fun i h1 h2 => by omega
theorem GFrom.all {n : Nat} (hn : ops.size = n) (h : GFrom P ops marks S vals reads a0 0 n) : ∀ i, i < ops.size → GStep P ops marks S vals reads a0 i := fun i hi => h i (Nat.zero_le _) (by rw [← hn]; exact hi)
end

end Go.Proofs.YtbbfibgijackhaaGreatDoor
