/-
  Of the texts Ghost, Vars, GhostL, DtA, DtB, DtC, DtD, DtE, DtF, DtG, DtHa what is used. No condition but what each says.
-/
import Derived.Test.YtogoophofgkboaaGreatDoorRc
import Derived.Test.YtogoophofgkboaaGreatDoorRa
import Derived.RangeFuncCalls
import Derived.StillTailTactics
import Derived.BigQuiet
import Derived.Deep.DeepCutAuto
import Derived.IntWalk
import Derived.Lib.Walk
import Derived.Deep.RegionHeld3
import Derived.Deep.QuietTactic
import Derived.WalkMore
namespace Go.Proofs.YtogoophofgkboaaGreatDoor
section
open Go.RowKit
/-- Which of the designated operations have come up. -/
def bitsAt (marks : List Nat) (L : Nat → Bool) : List Bool := marks.map L
theorem bitsAt_upd {marks : List Nat} {i : Nat} (h : marks.contains i = false) (L : Nat → Bool) : bitsAt marks (upd L i) = bitsAt marks L := by
  unfold bitsAt
  apply List.map_congr_left
  intro j hj
  unfold upd
  have : (j == i) = false := by
    rw [beq_eq_false_iff_ne]
    rintro rfl
    rw [List.contains_iff_mem.2 hj] at h
    cases h
  rw [this, Bool.or_false]
section
variable {G : Type} {P : Program} {ops : Array Oper} {Q : Exit → Act → World → Prop} {marks : List Nat} {S : List Bool → G → World → Prop} {wr : List (Option Nat)} {vals : G → List Value} {reads : List (List (Nat × Option Nat))} {a0 : Act}
/-- What stands behind an operation: its value, and the others' as they were. -/
def GNext (marks : List Nat) (S : List Bool → G → World → Prop) (vals : G → List Value) (i : Nat) (L : Nat → Bool) (g : G) (u : Value) (g' : G) (w' : World) : Prop :=
  (vals g').getD i undef = u ∧ (∀ j, L j = true → (vals g').getD j undef = (vals g).getD j undef) ∧ S (bitsAt marks (upd L i)) g' w'
def GStep (P : Program) (ops : Array Oper) (marks : List Nat) (S : List Bool → G → World → Prop) (vals : G → List Value) (reads : List (List (Nat × Option Nat))) (a0 : Act) (i : Nat) : Prop :=
  ∀ (o : Oper) (L : Nat → Bool) (g : G) (w : World), ops[i]? = some o → L i = false → (∀ j, aft o j = true → L j = true) → (∀ (j : Nat) (oj : Oper), ops[j]? = some oj → L j = true → ∀ k, aft oj k = true → L k = true) → S (bitsAt marks L) g w →
    ((match o.guard with | none => True | some (x, b) => (vals g).getD x undef = .bool b) ∧
      ∀ ev : Operand → Value, EvOk ev → (∀ p ∈ reads.getD i [], ev (.tmp p.1) = srcV a0 (vals g) p) →
        (∃ u g' w', (execOp ev o).run P w = .ok (.value u) w' ∧ GNext marks S vals i L g u g' w') ∨
        (∃ g' w', (execOp ev o).run P w = .ok .skip w' ∧ GNext marks S vals i L g undef g' w') ∨
        ∃ f args, (execOp ev o).run P w = .ok (.enter f args) w ∧ Calls P f args w fun e w' => ∃ u g', e = .returned u ∧ GNext marks S vals i L g u g' w') ∨
    ((match o.guard with | none => False | some (x, b) => (vals g).getD x undef = .bool (!b)) ∧ ∃ g', GNext marks S vals i L g undef g' w)
structure InvG (S : List Bool → G → World → Prop) (marks : List Nat) (ops : Array Oper) (wr : List (Option Nat)) (vals : G → List Value) (a0 : Act) (L : Nat → Bool) (g : G) (a : Act) (w : World) : Prop where
  s : S (bitsAt marks L) g w
  size : a.tmps.size = a0.tmps.size
  defers : a.defers = a0.defers
  closed : ∀ i o, ops[i]? = some o → L i = true → ∀ e ∈ o.after, Region.binds .any e = true → L e.on = true
  slot : ∀ s, a.eval (.tmp s) = curV wr (vals g) a0 L s
theorem ghost_step {L : Nat → Bool} {a : Act} {w : World} {i : Nat} {o : Oper} {g : G} {K : Act → World → Prop} (hok : okAll ops wr a0.tmps.size reads = true) (hI : InvG S marks ops wr vals a0 L g a w) (ho : ops[i]? = some o) (hu : L i = false) (hdep : ∀ e ∈ o.after, Region.binds .any e = true → L e.on = true)
    (hstep : GStep P ops marks S vals reads a0 i) (hK : ∀ g' a' w', InvG S marks ops wr vals a0 (upd L i) g' a' w' → K a' w') : wpOp P ops Q i K a w := by
  have hlt : i < ops.size := (Array.getElem?_eq_some_iff.1 ho).1
  have h := okAll_one hok ho
  unfold okOne at h
  rw [ho] at h
  dsimp only at h
  rw [Bool.and_eq_true, Bool.and_eq_true, Bool.and_eq_true] at h
  obtain ⟨⟨⟨h1, h2⟩, h3⟩, h4⟩ := h
  have hafter : ∀ j, aft o j = true → L j = true := fun j hj => by
    obtain ⟨e, he, hb, rfl⟩ := aft_spec hj
    exact hdep e he hb
  -- what stands in the slots that are read
  have hread : ∀ p ∈ reads.getD i [], a.eval (.tmp p.1) = srcV a0 (vals g) p := by
    rintro ⟨s, src⟩ hp
    have hp' := List.all_eq_true.1 h4 _ hp
    dsimp only at hp'
    rw [hI.slot s]
    unfold curV
    cases src with
    | some j =>
      rw [Bool.and_eq_true] at hp'
      have e1 : wr.getD s none = some j := by simpa using hp'.1
      rw [e1]
      simp only [hafter j hp'.2, if_true]
      rfl
    | none =>
      dsimp only at hp'
      split at hp'
      · rename_i e1
        first | rfl | (rw [e1]; rfl)
      · rename_i j e1
        split at hp'
        · rename_i oj hoj
          obtain ⟨e, he, hb, hon⟩ := aft_spec hp'
          have hj : L j = false := by
            cases hLj : L j with
            | false => rfl
            | true =>
              have := hI.closed j oj hoj hLj e he hb
              rw [hon, hu] at this
              cases this
          first | (simp [hj]; rfl) | (rw [e1]; simp [hj]; rfl)
        · cases hp'
  -- the invariant behind it
  have hnext : ∀ u g' w', GNext marks S vals i L g u g' w' → InvG S marks ops wr vals a0 (upd L i) g' (a.put o.dst u) w' := fun u g' w' hw' => by
    obtain ⟨hui, hold, hSn⟩ := hw'
    have hcur : ∀ s, (∀ j, wr.getD s none = some j → (j == i) = false) → curV wr (vals g') a0 (upd L i) s = curV wr (vals g) a0 L s := fun s hs => by
      unfold curV
      cases hws : wr.getD s none with
      | none => rfl
      | some j =>
        have hne := hs j hws
        simp only [upd, hne, Bool.or_false]
        cases hLj : L j with
        | false => rfl
        | true => simp only [if_true]; exact hold j hLj
    refine ⟨hSn, by rw [size_put]; exact hI.size, ?_, ?_, ?_⟩
    · rw [← hI.defers]; unfold Act.put; split <;> rfl
    · intro j oj hoj hLj e he hb
      unfold upd at hLj ⊢
      rw [Bool.or_eq_true] at hLj
      rcases hLj with hLj | hLj
      · rw [hI.closed j oj hoj hLj e he hb]; rfl
      · have : j = i := by simpa using hLj
        subst this
        rw [ho] at hoj
        injection hoj with hoj
        subst hoj
        rw [hdep e he hb]; rfl
    · intro s
      cases hd : o.dst with
      | none =>
        show a.eval (.tmp s) = _
        rw [hI.slot s]
        refine (hcur s (fun j hws => ?_)).symm
        rw [beq_eq_false_iff_ne]
        rintro rfl
        obtain ⟨oj, hoj, hdj⟩ := okAll_wr hok hws
        rw [ho] at hoj
        injection hoj with hoj
        subst hoj
        rw [hd] at hdj
        cases hdj
      | some d =>
        rw [hd] at h2
        dsimp only at h2
        rw [Bool.and_eq_true] at h2
        have hdN : d < a.tmps.size := by rw [hI.size]; exact of_decide_eq_true h2.1
        have hwd : wr.getD d none = some i := by simpa using h2.2
        by_cases hsd : d = s
        · subst hsd
          rw [eval_put_same a d _ hdN]
          unfold curV
          rw [hwd]
          have hii : upd L i i = true := by simp [upd]
          simp only [hii, if_true, hui]
        · rw [eval_put_ne a d s _ hsd, hI.slot s]
          refine (hcur s (fun j hws => ?_)).symm
          rw [beq_eq_false_iff_ne]
          rintro rfl
          obtain ⟨oj, hoj, hdj⟩ := okAll_wr hok hws
          rw [ho] at hoj
          injection hoj with hoj
          subst hoj
          rw [hd] at hdj
          injection hdj with hdj
          exact hsd hdj
  -- what the guard says
  have hguard : ∀ x b, o.guard = some (x, b) → ∀ c, (vals g).getD x undef = .bool c → yielded ops a.tmps x = some c := fun x b hg c hc => by
    rw [hg] at h3
    dsimp only at h3
    rw [Bool.and_eq_true] at h3
    split at h3
    · rename_i og hog
      obtain ⟨d, hd⟩ := Option.isSome_iff_exists.1 h3.2
      have hgo := okAll_one hok hog
      unfold okOne at hgo
      rw [hog] at hgo
      dsimp only at hgo
      rw [Bool.and_eq_true, Bool.and_eq_true, Bool.and_eq_true, hd] at hgo
      dsimp only at hgo
      rw [Bool.and_eq_true] at hgo
      have hdN : d < a.tmps.size := by rw [hI.size]; exact of_decide_eq_true hgo.1.1.2.1
      have hwd : wr.getD d none = some x := by simpa using hgo.1.1.2.2
      have he : a.eval (.tmp d) = .bool c := by
        rw [hI.slot d]
        unfold curV
        rw [hwd]
        simp only [hafter x h3.1, if_true, hc]
      have ht : a.tmps[d]? = some (.bool c) := by
        rw [Array.getElem?_eq_getElem hdN]
        congr 1
        rw [← he]
        simp [Act.eval, hdN]
      unfold yielded
      rw [hog]
      simp [hd, ht]
    · cases h3.2
  rcases hstep o L g w ho hu hafter (fun j oj hoj hLj k hk => by
      obtain ⟨e, he, hb, rfl⟩ := aft_spec hk
      exact hI.closed j oj hoj hLj e he hb) hI.s with ⟨hg, hrun⟩ | ⟨hskip, g', hn⟩
  · have hw : Region.wanted o (yielded ops a.tmps) = true := by
      unfold Region.wanted
      cases hgd : o.guard with
      | none => rfl
      | some gb =>
        obtain ⟨x, b⟩ := gb
        rw [hgd] at hg
        dsimp only at hg ⊢
        rw [hguard x b hgd b hg]
        simp
    unfold wpOp
    rw [ho]
    simp only [hw, if_true]
    refine .inl ?_
    rcases hrun a.eval ⟨fun _ => rfl, fun _ => rfl⟩ hread with ⟨u, g', w', hr, hn⟩ | ⟨g', w', hr, hn⟩ | ⟨f, args, hr, hc⟩
    · unfold Oper.wp
      rw [hr]
      exact hK _ _ _ (hnext u g' w' hn)
    · unfold Oper.wp
      rw [hr]
      exact hK _ _ _ (hnext undef g' w' hn)
    · unfold Oper.wp
      rw [hr]
      exact hc.mono fun e w' ⟨u, g', he, hn⟩ => by subst he; exact hK _ _ _ (hnext u g' w' hn)
  · cases hgd : o.guard with
    | none => rw [hgd] at hskip; exact hskip.elim
    | some gb =>
      obtain ⟨x, b⟩ := gb
      rw [hgd] at hskip
      dsimp only at hskip
      have hw : Region.wanted o (yielded ops a.tmps) = false := by
        unfold Region.wanted
        rw [hgd]
        dsimp only
        rw [hguard x b hgd _ hskip]
        cases b <;> rfl
      unfold wpOp
      rw [ho]
      simp only [hw, Bool.false_eq_true, if_false]
      exact hK _ _ _ (hnext undef g' w hn)
theorem ghost_end {L : Nat → Bool} {a : Act} {w : World} {g : G} (hI : InvG S marks ops wr vals a0 L g a w) (hall : ∀ i s, wr.getD s none = some i → L i = true) (aF : Act) (hF : aF.tmps.toList = (List.range a0.tmps.size).map fun s => match wr.getD s none with | none => a0.eval (.tmp s) | some i => (vals g).getD i undef) (hD : aF.defers = a0.defers) : a = aF := by
  obtain ⟨t, d⟩ := a
  obtain ⟨tF, dF⟩ := aF
  have h1 : t = tF := by
    apply Array.toList_inj.1
    rw [hF]
    have hsz : t.toList.length = a0.tmps.size := hI.size
    apply List.ext_getElem?
    intro s
    rw [List.getElem?_map]
    rcases Nat.lt_or_ge s a0.tmps.size with hs | hs
    · rw [List.getElem?_range hs]
      have e := hI.slot s
      have hts : s < t.size := by rw [show t.size = a0.tmps.size from hI.size]; exact hs
      have e2 : t[s]? = some ((Act.mk t d).eval (.tmp s)) := by
        rw [Array.getElem?_eq_getElem hts]
        simp [Act.eval, hts]
      show t.toList[s]? = _
      rw [Array.getElem?_toList, e2, e]
      unfold curV
      cases hws : wr.getD s none with
      | none => simp only [Option.map_some, hws]
      | some i =>
        simp only [Option.map_some, hws, hall i s hws, if_true]
    · rw [List.getElem?_eq_none (by omega), List.getElem?_eq_none (by simpa using hs)]
      rfl
  have h2 : d = dF := by
    have := hI.defers
    simp only at this hD
    rw [this, hD]
  rw [h1, h2]
theorem region_ghost {rid : Nat} {w : World} {g0 : G} (wr : List (Option Nat)) (reads : List (List (Nat × Option Nat))) (dsts : List (Option Nat)) (vals : G → List Value) (marks : List Nat) (S : List Bool → G → World → Prop) (hm : P.follows .mixedOrders = true) (hok : okAll ops wr a0.tmps.size reads = true)
    (hF : ∀ g, (putAll dsts (vals g) a0).tmps.toList = (List.range a0.tmps.size).map fun s => match wr.getD s none with | none => a0.eval (.tmp s) | some i => (vals g).getD i undef) (hmk : (marks.all fun i => decide (i < ops.size)) = true)
    (hS : S (marks.map fun _ => false) g0 w.drew) (hstep : ∀ i, i < ops.size → GStep P ops marks S vals reads a0 i) (hend : ∀ g w, S (marks.map fun _ => true) g w → Q .normal (putAll dsts (vals g) a0) w) : (Code.region rid ops true).wp P Q a0 w := by
  refine region_inv0 hm (okAll_up hok) (fun L a w => ∃ g, InvG S marks ops wr vals a0 L g a w) ⟨g0, hS, rfl, rfl, fun i o _ h => (by cases h), fun s => ?_⟩ ?_ ?_
  · unfold curV
    split <;> simp
  · rintro L a w i o ⟨g, hI⟩ ho hu hdep
    exact ghost_step hok hI ho hu hdep (hstep i (Array.getElem?_eq_some_iff.1 ho).1) (fun g' _ _ h => ⟨g', h⟩)
  · rintro L a w ⟨g, hI⟩ hall
    have ha : a = putAll dsts (vals g) a0 := ghost_end hI (fun i s hws => by
      obtain ⟨o, ho, _⟩ := okAll_wr hok hws
      exact hall i (Array.getElem?_eq_some_iff.1 ho).1) _ (hF g) (putAll_defers dsts (vals g) a0)
    rw [ha]
    refine hend g w ?_
    have hb : bitsAt marks L = marks.map fun _ => true := by
      unfold bitsAt
      apply List.map_congr_left
      intro j hj
      exact hall j (of_decide_eq_true (List.all_eq_true.1 hmk j hj))
    rw [← hb]
    exact hI.s
/-- Steps: an operation that leaves a value known ahead and turns nothing (i is not designated). -/
theorem GStep.val {i : Nat} (o : Oper) (ho : ops[i]? = some o) (hi : marks.contains i = false) (rd : List (Nat × Option Nat)) (hrd : reads.getD i [] = rd) (u : G → Value) (hu : ∀ g, (vals g).getD i undef = u g) (hg : ∀ g, match o.guard with | none => True | some (x, b) => (vals g).getD x undef = .bool b)
    (h : ∀ (bs : List Bool) (g : G) (ev : Operand → Value) (w : World), S bs g w → EvOk ev → (∀ p ∈ rd, ev (.tmp p.1) = srcV a0 (vals g) p) → (execOp ev o).run P w = .ok (.value (u g)) w) : GStep P ops marks S vals reads a0 i := by
  intro o' L g w ho' hL hd hcl hS
  rw [ho] at ho'
  injection ho' with ho'
  subst ho' hrd
  refine .inl ⟨hg g, fun ev he hr => .inl ⟨u g, g, w, h _ g ev w hS he hr, hu g, fun _ _ => rfl, ?_⟩⟩
  rw [bitsAt_upd hi L]
  exact hS
/-- A call whose answer is known ahead (i is not designated). -/
theorem GStep.call {i : Nat} (o : Oper) (ho : ops[i]? = some o) (hi : marks.contains i = false) (rd : List (Nat × Option Nat)) (hrd : reads.getD i [] = rd) (u : G → Value) (hu : ∀ g, (vals g).getD i undef = u g) (hg : ∀ g, match o.guard with | none => True | some (x, b) => (vals g).getD x undef = .bool b) (f : FuncId) (args : G → Array Value)
    (h : ∀ (bs : List Bool) (g : G) (ev : Operand → Value) (w : World), S bs g w → EvOk ev → (∀ p ∈ rd, ev (.tmp p.1) = srcV a0 (vals g) p) → (execOp ev o).run P w = .ok (.enter f (args g)) w)
    (hc : ∀ (L : Nat → Bool) (g : G) (w : World), (∀ j, aft o j = true → L j = true) → L i = false → S (bitsAt marks L) g w → Calls P f (args g) w fun e w' => e = .returned (u g) ∧ S (bitsAt marks L) g w') : GStep P ops marks S vals reads a0 i := by
  intro o' L g w ho' hL hd hcl hS
  rw [ho] at ho'
  injection ho' with ho'
  subst ho' hrd
  refine .inl ⟨hg g, fun ev he hr => .inr (.inr ⟨f, args g, h _ g ev w hS he hr, (hc L g w hd hL hS).mono fun e w' ⟨h1, h2⟩ => ⟨u g, g, h1, hu g, fun _ _ => rfl, ?_⟩⟩)⟩
  rw [bitsAt_upd hi L]
  exact h2
/-- A designated operation that leaves a value and makes memory (a made slice). -/
theorem GStep.make {i : Nat} (o : Oper) (ho : ops[i]? = some o) (rd : List (Nat × Option Nat)) (hrd : reads.getD i [] = rd) (hg : ∀ g, match o.guard with | none => True | some (x, b) => (vals g).getD x undef = .bool b)
    (h : ∀ (L : Nat → Bool) (g : G) (ev : Operand → Value) (w : World), L i = false → (∀ j, aft o j = true → L j = true) → (∀ (j : Nat) (oj : Oper), ops[j]? = some oj → L j = true → ∀ k, aft oj k = true → L k = true) → S (bitsAt marks L) g w → EvOk ev → (∀ p ∈ rd, ev (.tmp p.1) = srcV a0 (vals g) p) →
      ∃ u g' w', (execOp ev o).run P w = .ok (.value u) w' ∧ GNext marks S vals i L g u g' w') : GStep P ops marks S vals reads a0 i := by
  intro o' L g w ho' hL hd hcl hS
  rw [ho] at ho'
  injection ho' with ho'
  subst ho' hrd
  exact .inl ⟨hg g, fun ev he hr => .inl (h L g ev w hL hd hcl hS he hr)⟩
/-- A designated call. -/
theorem GStep.callm {i : Nat} (o : Oper) (ho : ops[i]? = some o) (rd : List (Nat × Option Nat)) (hrd : reads.getD i [] = rd) (hg : ∀ g, match o.guard with | none => True | some (x, b) => (vals g).getD x undef = .bool b) (f : FuncId) (args : G → Array Value)
    (h : ∀ (bs : List Bool) (g : G) (ev : Operand → Value) (w : World), S bs g w → EvOk ev → (∀ p ∈ rd, ev (.tmp p.1) = srcV a0 (vals g) p) → (execOp ev o).run P w = .ok (.enter f (args g)) w)
    (hc : ∀ (L : Nat → Bool) (g : G) (w : World), L i = false → (∀ j, aft o j = true → L j = true) → (∀ (j : Nat) (oj : Oper), ops[j]? = some oj → L j = true → ∀ k, aft oj k = true → L k = true) → S (bitsAt marks L) g w → Calls P f (args g) w fun e w' => ∃ u g', e = .returned u ∧ GNext marks S vals i L g u g' w') : GStep P ops marks S vals reads a0 i := by
  intro o' L g w ho' hL hd hcl hS
  rw [ho] at ho'
  injection ho' with ho'
  subst ho' hrd
  exact .inl ⟨hg g, fun ev he hr => .inr (.inr ⟨f, args g, h _ g ev w hS he hr, hc L g w hL hd hcl hS⟩)⟩
theorem GStep.skip {i : Nat} (o : Oper) (ho : ops[i]? = some o) (hi : marks.contains i = false) (hu : ∀ g, (vals g).getD i undef = undef) (hg : ∀ g, match o.guard with | none => False | some (x, b) => (vals g).getD x undef = .bool (!b)) : GStep P ops marks S vals reads a0 i := by
  intro o' L g w ho' hL hd hcl hS
  rw [ho] at ho'
  injection ho' with ho'
  subst ho'
  refine .inr ⟨hg g, g, hu g, fun _ _ => rfl, ?_⟩
  rw [bitsAt_upd hi L]
  exact hS
def GFrom (P : Program) (ops : Array Oper) (marks : List Nat) (S : List Bool → G → World → Prop) (vals : G → List Value) (reads : List (List (Nat × Option Nat))) (a0 : Act) (k n : Nat) : Prop := ∀ i, k ≤ i → i < n → GStep P ops marks S vals reads a0 i
theorem GFrom.cons {k n : Nat} (h : GStep P ops marks S vals reads a0 k) (t : GFrom P ops marks S vals reads a0 (k + 1) n) : GFrom P ops marks S vals reads a0 k n := fun i h1 h2 => by
  by_cases e : i = k
  · subst e; exact h
  · exact t i (by omega) h2
theorem GFrom.nil {n : Nat} : GFrom P ops marks S vals reads a0 n n := fun i h1 h2 => by omega
theorem GFrom.all {n : Nat} (hn : ops.size = n) (h : GFrom P ops marks S vals reads a0 0 n) : ∀ i, i < ops.size → GStep P ops marks S vals reads a0 i := fun i hi => h i (Nat.zero_le _) (by rw [← hn]; exact hi)
end
end
section
open Go.RowKit
theorem exec_store {P : Program} {ev : Operand → Value} {o : Oper} {T : TypeId} {x y : Operand} {a : Addr} {v : Value} {w w' : World} (ho : o.op = .store T x y) (hx : ev x = .pointer (some a)) (hy : ev y = v) (hl : (Instr.storeAt T (.pointer (some a)) v).run P w = .ok () w') : (execOp ev o).run P w = .ok .skip w' := by
  unfold execOp
  simp only [ho, hx, hy, Sem.run_bind, Sem.run_pure, Result.andThen_ok, hl]
/-- One operation of a plain region, by what its run is. -/
theorem wpList_val {P : Program} {ops : Array Oper} {rest : List Oper} {op : Oper} {a : Act} {w : World} {Q : Exit → Act → World → Prop} (hgd : op.guard = none) (v : Value) (w' : World) (h1 : (execOp a.eval op).run P w = .ok (.value v) w')
    (h : wpList P ops Q rest (a.put op.dst v) w') : wpList P ops Q (op :: rest) a w := wpList_plain hgd fun _ hK => by
  unfold Oper.wp
  rw [h1]
  exact hK _ _ h
variable {W : World} {n : Nat} {ts : Nat → TypeId} {zs vs : Nat → List Value} {bs : List Bool} {g : Nat → Nat} {w : World}
section
variable {P : Program} {ops : Array Oper} {marks : List Nat} {vals : (Nat → Nat) → List Value} {reads : List (List (Nat × Option Nat))} {a0 : Act} {i : Nat}
end
end
section
open Go.RowKit
section
variable {G : Type} {P : Program} {ops : Array Oper} {Q : Exit → Act → World → Prop} {a0 : Act}
theorem GFrom.start {marks : List Nat} {S : List Bool → G → World → Prop} {vals : G → List Value} {reads : List (List (Nat × Option Nat))} {n : Nat} (h : GFrom P ops marks S vals reads a0 0 n) : ∀ i, i < n → GStep P ops marks S vals reads a0 i := fun i hi => h i (Nat.zero_le _) hi
/-- A designated operation that leaves no value (a store). -/
theorem GStep.storem {marks : List Nat} {S : List Bool → G → World → Prop} {vals : G → List Value} {reads : List (List (Nat × Option Nat))} {i : Nat} (o : Oper) (ho : ops[i]? = some o) (rd : List (Nat × Option Nat)) (hrd : reads.getD i [] = rd) (hu : ∀ g, (vals g).getD i undef = undef) (hg : ∀ g, match o.guard with | none => True | some (x, b) => (vals g).getD x undef = .bool b)
    (h : ∀ (L : Nat → Bool) (g : G) (ev : Operand → Value) (w : World), L i = false → (∀ j, aft o j = true → L j = true) → (∀ (j : Nat) (oj : Oper), ops[j]? = some oj → L j = true → ∀ k, aft oj k = true → L k = true) → S (bitsAt marks L) g w → EvOk ev → (∀ p ∈ rd, ev (.tmp p.1) = srcV a0 (vals g) p) →
      ∃ w', (execOp ev o).run P w = .ok .skip w' ∧ S (bitsAt marks (upd L i)) g w') : GStep P ops marks S vals reads a0 i := by
  intro o' L g w ho' hL hd hcl hS
  rw [ho] at ho'
  injection ho' with ho'
  subst ho' hrd
  refine .inl ⟨hg g, fun ev he hr => .inr (.inl ?_)⟩
  obtain ⟨w', h1, h2⟩ := h L g ev w hL hd hcl hS he hr
  exact ⟨g, w', h1, hu g, fun _ _ => rfl, h2⟩
end
end
section
open Go.RowKit
abbrev RunQ := Int × Int × Int
abbrev runL (q : RunQ) : List Value := [.int .i64 q.1, .int .i64 q.2.1, .int .i64 q.2.2]
abbrev runV (q : RunQ) : Value := .agg #[.int .i64 q.1, .int .i64 q.2.1, .int .i64 q.2.2]
abbrev dotV (n d : Int) : Value := .agg #[.int .i64 n, .int .i64 d]
def I64 (z : Int) : Prop := -9223372036854775808 ≤ z ∧ z < 9223372036854775808
def RunOk (q : RunQ) : Prop := I64 q.1 ∧ I64 q.2.1 ∧ I64 q.2.2
def goodB (n d : Int) : Bool := decide (0 ≤ n ∧ n ≤ 7 ∧ 1 ≤ d ∧ d ≤ 1099511627776)
theorem goodB_of {n d : Int} : goodB n d = true ↔ 0 ≤ n ∧ n ≤ 7 ∧ 1 ≤ d ∧ d ≤ 1099511627776 := by unfold goodB; exact decide_eq_true_iff
def goodR (q : RunQ) : Bool := decide (0 ≤ q.1 ∧ q.1 ≤ 7 ∧ 1 ≤ q.2.1 ∧ q.2.1 ≤ q.2.2 ∧ q.2.2 ≤ 1099511627776)
theorem goodR_of {q : RunQ} : goodR q = true ↔ 0 ≤ q.1 ∧ q.1 ≤ 7 ∧ 1 ≤ q.2.1 ∧ q.2.1 ≤ q.2.2 ∧ q.2.2 ≤ 1099511627776 := by unfold goodR; exact decide_eq_true_iff
set_option maxHeartbeats 400000 in
theorem good_any (n d : Int) (w : World) : Calls Tryz.prog 44 #[dotV n d] w fun e w' => e = .returned (.bool (goodB n d)) ∧ Kp Nb w w' := by
  have K := hid ((Kp.refl Nb w).alloc (.cells #[.int .i64 n, .int .i64 d] 23))
  by_cases h1 : 0 ≤ n
  · by_cases h2 : n ≤ 7
    · by_cases h3 : 1 ≤ d
      · obtain ⟨b, hb⟩ : ∃ b, decide (d ≤ 1099511627776) = b := ⟨_, rfl⟩
        have HG : Hid (goodB n d = b) := hid (by unfold goodB; rw [← hb]; simp [h1, h2, h3])
        go_enter Tryz.func44, Tryz.ntmps44
        go_wp2
        go_ret
        exact ⟨by rw [HG.out, ← hb]; rfl, K.out⟩
      · have HG : Hid (goodB n d = false) := hid (by unfold goodB; simp [h3])
        go_enter Tryz.func44, Tryz.ntmps44
        go_wp2
        go_ret
        exact ⟨by rw [HG.out]; rfl, K.out⟩
    · have HG : Hid (goodB n d = false) := hid (by unfold goodB; simp [h2])
      go_enter Tryz.func44, Tryz.ntmps44
      go_wp2
      go_ret
      exact ⟨by rw [HG.out]; rfl, K.out⟩
  · have HG : Hid (goodB n d = false) := hid (by unfold goodB; simp [h1])
    go_enter Tryz.func44, Tryz.ntmps44
    go_wp2
    go_ret
    exact ⟨by rw [HG.out]; rfl, K.out⟩
set_option maxHeartbeats 400000 in
theorem goodrun_any (q : RunQ) (w : World) : Calls Tryz.prog 82 #[runV q] w fun e w' => e = .returned (.bool (goodR q)) ∧ Kp Nb w w' := by
  obtain ⟨n, f, t⟩ := q
  have K := hid ((Kp.refl Nb w).alloc (.cells #[.int .i64 n, .int .i64 f, .int .i64 t] 38))
  obtain ⟨W, hW⟩ : ∃ W, W = w.alloc (.cells #[.int .i64 n, .int .i64 f, .int .i64 t] 38) := ⟨_, rfl⟩
  obtain ⟨N, hN⟩ : ∃ N, w.heap.size = N := ⟨_, rfl⟩
  have HB : Hid (Blk W N 38 [.int .i64 n, .int .i64 f, .int .i64 t]) := hid (by rw [hW, ← hN]; exact Blk.new w _ _)
  rw [← hW] at K
  obtain ⟨b1, hb1⟩ : ∃ b, goodB n f = b := ⟨_, rfl⟩
  obtain ⟨b2, hb2⟩ : ∃ b, goodB n t = b := ⟨_, rfl⟩
  have HB1 := hid hb1
  have HB2 := hid hb2
  go_enter Tryz.func82, Tryz.ntmps82
  go_upto_region 1 with fail
  rw [← hW]
  clear hW hN hb1 hb2
  have c0 : W.cell? ⟨N, 0, none⟩ = some (.int .i64 n) := HB.out.cell 0
  have c1 : W.cell? ⟨N, 1, none⟩ = some (.int .i64 f) := HB.out.cell 1
  have c2 : W.cell? ⟨N, 2, none⟩ = some (.int .i64 t) := HB.out.cell 2
  go_wp2_with fail
  refine (good_any n f W).mono ?_
  rintro r w1 ⟨rfl, k1⟩
  rw [HB1.out]
  clear c0 c1 c2
  have HB' := hid (HB.out.kept k1 (fun h => h))
  have K1 := hid (K.out.trans k1 (fun _ _ h => h))
  have c0 : w1.cell? ⟨N, 0, none⟩ = some (.int .i64 n) := HB'.out.cell 0
  have c1 : w1.cell? ⟨N, 1, none⟩ = some (.int .i64 f) := HB'.out.cell 1
  have c2 : w1.cell? ⟨N, 2, none⟩ = some (.int .i64 t) := HB'.out.cell 2
  clear k1
  cases b1 with
  | false =>
    have HG : Hid (goodR (n, f, t) = false) := hid (Bool.eq_false_iff.2 fun h => by
      have h := goodR_of.1 h
      dsimp only at h
      have h2 := HB1.out
      rw [goodB_of.2 (by omega)] at h2
      cases h2)
    go_wp2
    go_ret
    exact ⟨by rw [HG.out]; rfl, K1.out⟩
  | true =>
    have h1 := goodB_of.1 HB1.out
    go_wp2_with fail
    refine (good_any n t w1).mono ?_
    rintro r w2 ⟨rfl, k2⟩
    rw [HB2.out]
    clear c0 c1 c2
    have HB3 := hid (HB'.out.kept k2 (fun h => h))
    have K2 := hid (K1.out.trans k2 (fun _ _ h => h))
    have c0 : w2.cell? ⟨N, 0, none⟩ = some (.int .i64 n) := HB3.out.cell 0
    have c1 : w2.cell? ⟨N, 1, none⟩ = some (.int .i64 f) := HB3.out.cell 1
    have c2 : w2.cell? ⟨N, 2, none⟩ = some (.int .i64 t) := HB3.out.cell 2
    clear k2
    cases b2 with
    | false =>
      have HG : Hid (goodR (n, f, t) = false) := hid (Bool.eq_false_iff.2 fun h => by
        have h := goodR_of.1 h
        dsimp only at h
        have h2 := HB2.out
        rw [goodB_of.2 (by omega)] at h2
        cases h2)
      go_wp2
      go_ret
      exact ⟨by rw [HG.out]; rfl, K2.out⟩
    | true =>
      have h2 := goodB_of.1 HB2.out
      obtain ⟨b, hb⟩ : ∃ b, decide (f ≤ t) = b := ⟨_, rfl⟩
      have HG : Hid (goodR (n, f, t) = b) := hid (by
        unfold goodR
        rw [← hb]
        dsimp only
        apply decide_eq_decide.2
        constructor
        · intro h; omega
        · intro h; omega)
      go_wp2
      go_ret
      exact ⟨by rw [HG.out, ← hb]; rfl, K2.out⟩
end
section
open Go.RowKit
def runAt (c : List RunQ) (i : Nat) : RunQ := c[i]?.getD (0, 0, 0)
def ClSl (w : World) (v : Value) (c : List RunQ) : Prop := (∀ i, RunOk (runAt c i)) ∧ RowsSl runL (0, 0, 0) 3 w v c
theorem ClSl.kept {w w' : World} {v : Value} {c : List RunQ} (h : ClSl w v c) (k : Kp Nb w w') : ClSl w' v c := ⟨h.1, h.2.kept k⟩
theorem ClSl.shape {w : World} {v : Value} {c : List RunQ} (h : ClSl w v c) : ∃ y d, v = .slice y c.length d := h.2.shape
theorem run_zero_ok : RunOk (0, 0, 0) := by unfold RunOk I64; decide
theorem ClSl.ok {w : World} {v : Value} {c : List RunQ} (h : ClSl w v c) : ∀ q ∈ c, RunOk q := fun q hq => by
  obtain ⟨i, hi, rfl⟩ := List.mem_iff_getElem.1 hq
  have := h.1 i
  unfold runAt at this
  rwa [List.getElem?_eq_getElem hi] at this
theorem runAt_ok {c : List RunQ} (h : ∀ q ∈ c, RunOk q) (i : Nat) : RunOk (runAt c i) := by
  unfold runAt
  cases e : c[i]? with
  | none => exact run_zero_ok
  | some q => exact h q (List.mem_of_getElem? e)
/-- A clock's slice, with its place. -/
theorem cl_shape {w : World} {v : Value} {c : List RunQ} (h : ClSl w v c) (h0 : c ≠ []) : ∃ blk off cap, v = .slice (some ⟨blk, off, none⟩) c.length cap ∧ c.length ≤ cap ∧ cap ≤ maxLen ∧ ∀ i, i < c.length → w.rangeAt blk (off + i * 3) (runL (runAt c i)) := by
  rcases h.2 with ⟨_, e⟩ | ⟨blk, off, cap, e, h1, h2, h3⟩
  · exact absurd e h0
  · exact ⟨blk, off, cap, e, h1, h2, h3⟩
theorem under_run : ∃ fs, Tryz.prog.underlying 38 = some (.struct fs) := ⟨_, Tryz.underlying38⟩
theorem run_info : (Tryz.prog.info? 38).map (·.size) = some 3 := by kernel_rfl
theorem run_infoL (q : RunQ) : (Tryz.prog.info? 38).map (·.size) = some (runL q).length := run_info
theorem run_infoA (q : RunQ) : (Tryz.prog.info? 38).map (·.size) = some (runL q).toArray.size := run_info
theorem run_one (q : RunQ) : (runL q).toArray.all (·.oneCell') = true := by simp [runL, Value.oneCell']
theorem run_one' (q : RunQ) : ∀ u ∈ runL q, u.oneCell' = true := fun u hu => by
  simp only [runL, List.mem_cons, List.not_mem_nil, or_false] at hu
  rcases hu with rfl | rfl | rfl <;> rfl
theorem load_run {w : World} {B o : Nat} {q : RunQ} (h : w.rangeAt B o (runL q)) : (Instr.loadAt 38 (.pointer (some ⟨B, o, none⟩))).run Tryz.prog w = .ok (runV q) w := by
  obtain ⟨fs, hu⟩ := under_run
  exact run_loadAt_mid w B o 38 (runL q) _ h hu rfl (run_infoL q)
theorem range_ofR {w : World} {B : Nat} {t : TypeId} {vs : List Value} (h : Blk w B t vs) : w.rangeAt B 0 vs := h.range 0 vs (fun j _ => by rw [Nat.zero_add])
theorem range_keptR {S : Nat → Prop} {w w' : World} {B o : Nat} {vs : List Value} (h : w.rangeAt B o vs) (k : Kp S w w') (hS : ¬ S B) : w'.rangeAt B o vs := fun j u hu => k.cell (h j u hu) hS
theorem run_there {w : World} {B : Nat} {t : TypeId} {p q : RunQ} (h : Blk w B t (runL p)) : w.there B 0 (runL q).toArray.size := h.there 0 3 (by simp)
/-- Is the second run behind the first one, with a gap? -/
def gapB (p q : RunQ) : Bool := !(decide (q.1 < p.1) || (decide (q.1 = p.1) && decide (q.2.1 < p.2.2 + 2)))
def rightC (c : List RunQ) : Bool := (List.range c.length).all fun i => goodR (runAt c i) && (decide (i = 0) || gapB (runAt c (i - 1)) (runAt c i))
theorem rightC_of {c : List RunQ} : rightC c = true ↔ ∀ i, i < c.length → goodR (runAt c i) = true ∧ (0 < i → gapB (runAt c (i - 1)) (runAt c i) = true) := by
  unfold rightC
  rw [List.all_eq_true]
  constructor
  · intro h i hi
    have := h i (List.mem_range.2 hi)
    rw [Bool.and_eq_true, Bool.or_eq_true, decide_eq_true_iff] at this
    exact ⟨this.1, fun h0 => this.2.resolve_left (by omega)⟩
  · intro h i hi
    have := h i (List.mem_range.1 hi)
    rw [Bool.and_eq_true, Bool.or_eq_true, decide_eq_true_iff]
    refine ⟨this.1, ?_⟩
    rcases Nat.eq_zero_or_pos i with h0 | h0
    · exact .inl h0
    · exact .inr (this.2 h0)
theorem rightC_not {c : List RunQ} (i : Nat) (hi : i < c.length) (h : goodR (runAt c i) = false ∨ (0 < i ∧ gapB (runAt c (i - 1)) (runAt c i) = false)) : rightC c = false := by
  cases e : rightC c with
  | false => rfl
  | true =>
    have := rightC_of.1 e i hi
    rcases h with h | ⟨h0, h⟩
    · rw [this.1] at h; cases h
    · rw [this.2 h0] at h; cases h
def RigR (w : World) (N : Nat) (c : List RunQ) (i : Value) (wr : World) : Prop := ∃ k : Nat, k ≤ c.length ∧ i = .int .i64 k ∧ Hid (∀ j, j < k → goodR (runAt c j) = true ∧ (0 < j → gapB (runAt c (j - 1)) (runAt c j) = true)) ∧ Hid (∃ p, Blk wr N 38 (runL p) ∧ (0 < k → p = runAt c (k - 1))) ∧ Hid (Kp Nb w wr)
set_option maxRecDepth 100000 in
set_option maxHeartbeats 4000000 in
theorem dright_any (v : Value) (c : List RunQ) (w : World) (hs : ClSl w v c) (hbig : c.length ≤ 1099511627776) : Calls Tryz.prog 45 #[v] w fun e w' => e = .returned (.bool (rightC c)) ∧ Kp Nb w w' := by
  obtain ⟨y, d, rfl⟩ := hs.shape
  obtain ⟨L, hL⟩ : ∃ L, c.length = L := ⟨_, rfl⟩
  obtain ⟨N, hN⟩ : ∃ N, w.heap.size = N := ⟨_, rfl⟩
  obtain ⟨W, hW⟩ : ∃ W, W = w.alloc (.cells (runL (0, 0, 0)).toArray 38) := ⟨_, rfl⟩
  have HB0 : Hid (Blk W N 38 (runL (0, 0, 0))) := hid (by rw [hW, ← hN]; exact Blk.new w _ _)
  have K0 : Hid (Kp Nb w W) := hid (by rw [hW]; exact (Kp.refl Nb w).alloc _)
  have HLE := hid hL
  have HNE := hid hN
  rw [hL] at hs hbig ⊢
  have HS := hid hs
  clear hL hs
  go_enter Tryz.func45, Tryz.ntmps45
  go_wp2_with fail
  rw [show w.alloc (.cells #[.int .i64 0, .int .i64 0, .int .i64 0] 38) = W from hW.symm]
  clear hW hN
  go_loopw [8] (RigR w N c) (fun i _ => L - (intOf i).toNat)
  case atStart => exact ⟨0, Nat.zero_le _, rfl, hid (fun j hj => absurd hj (Nat.not_lt_zero _)), hid ⟨_, HB0.out, fun h => absurd h (Nat.lt_irrefl _)⟩, K0⟩
  case round =>
    clear HB0 K0
    obtain ⟨k, hk, rfl, HJ, HP, HK⟩ := hrel
    rw [HLE.out] at hk
    by_cases hlt : k < L
    · obtain ⟨p, hp, hpk⟩ := HP.out
      have HBP := hid hp
      have HPK := hid hpk
      obtain ⟨blk, off, cap, e1, hc, hm, hcell⟩ := cl_shape (HS.out.kept HK.out) (by intro h; have := HLE.out; rw [h, List.length_nil] at this; omega)
      rw [HLE.out] at e1 hc hcell
      injection e1 with e1 _ e2
      subst e1 e2
      have HR := hid (hcell k hlt)
      have HOK := HS.out.1 k
      obtain ⟨q, hq⟩ : ∃ q, runAt c k = q := ⟨_, rfl⟩
      rw [hq] at HR HOK
      have HQ := hid hq
      obtain ⟨M, hM⟩ : ∃ M, wr.heap.size = M := ⟨_, rfl⟩
      obtain ⟨W2, hW2⟩ : ∃ W, W = (wr.alloc (.cells (runL (0, 0, 0)).toArray 38)).setCells M 0 (runL q) := ⟨_, rfl⟩
      have hz := Blk.new wr 38 (runL (0, 0, 0))
      rw [hM] at hz
      have kW : Kp Nb wr W2 := by rw [hW2]; exact Kp.setCells (fun h => absurd h (by omega)) _ 0 _ ((Kp.refl Nb wr).alloc _)
      have TH := hid (run_there (q := q) hz)
      have HZ : Hid (Blk W2 M 38 (runL q)) := hid (by rw [hW2]; exact row_set hz rfl)
      have HBP2 := hid (HBP.out.kept kW (fun h => h))
      have HK2 := hid (HK.out.trans kW (fun _ _ h => h))
      have HMN : Hid (N ≠ M) := hid (by have := HBP.out.lt; omega)
      unfold maxLen at hm
      clear hz kW hcell hp hpk hq
      obtain ⟨fs, hfs⟩ := under_run
      go_upto_region 5 with (first
        | (refine wpList_load_mid (by rfl) 38 (.tmp 11) (by rfl) blk (off + k * 3) (by rfl) (runL q) _ HR.out hfs rfl (run_infoL q) ?_)
        | (refine wpList_store_mid (by rfl) 38 (.tmp 5) (.tmp 12) (by rfl) M 0 (runL q).toArray (by rfl) (by rfl) TH.out (run_infoA q) (run_one q) ?_))
      rw [show (wr.alloc (.cells #[.int .i64 0, .int .i64 0, .int .i64 0] 38)).setCells M 0 (runL q) = W2 from hW2.symm]
      clear hW2 TH
      obtain ⟨qn, qf, qt⟩ := q
      obtain ⟨pn, pf, pt⟩ := p
      have c0 : W2.cell? ⟨M, 0, none⟩ = some (.int .i64 qn) := HZ.out.cell 0
      have c1 : W2.cell? ⟨M, 1, none⟩ = some (.int .i64 qf) := HZ.out.cell 1
      have c2 : W2.cell? ⟨M, 2, none⟩ = some (.int .i64 qt) := HZ.out.cell 2
      obtain ⟨gq, hgq⟩ : ∃ b, goodR (qn, qf, qt) = b := ⟨_, rfl⟩
      have HGQ := hid hgq
      clear hgq
      go_wp2_with fail
      refine (goodrun_any (qn, qf, qt) W2).mono ?_
      rintro r w5 ⟨rfl, k5⟩
      rw [HGQ.out]
      clear c0 c1 c2
      have HZ5 := hid (HZ.out.kept k5 (fun h => h))
      have HBP5 := hid (HBP2.out.kept k5 (fun h => h))
      have HK5 := hid (HK2.out.trans k5 (fun _ _ h => h))
      have c0 : w5.cell? ⟨M, 0, none⟩ = some (.int .i64 qn) := HZ5.out.cell 0
      have c1 : w5.cell? ⟨M, 1, none⟩ = some (.int .i64 qf) := HZ5.out.cell 1
      have c2 : w5.cell? ⟨M, 2, none⟩ = some (.int .i64 qt) := HZ5.out.cell 2
      have d0 : w5.cell? ⟨N, 0, none⟩ = some (.int .i64 pn) := HBP5.out.cell 0
      have d1 : w5.cell? ⟨N, 1, none⟩ = some (.int .i64 pf) := HBP5.out.cell 1
      have d2 : w5.cell? ⟨N, 2, none⟩ = some (.int .i64 pt) := HBP5.out.cell 2
      have HB6 : Hid (Blk (w5.setCells N 0 (runL (qn, qf, qt))) N 38 (runL (qn, qf, qt))) := hid (row_set HBP5.out rfl)
      have HK6 : Hid (Kp Nb w (w5.setCells N 0 (runL (qn, qf, qt)))) := hid (Kp.setCells (fun h => by have := HNE.out; omega) _ 0 _ HK5.out)
      clear k5 HZ HBP2 HK2
      cases gq with
      | false =>
        have HF : Hid (rightC c = false) := hid (rightC_not k (by rw [HLE.out]; exact hlt) (.inl (by rw [HQ.out]; exact HGQ.out)))
        go_wp2
        go_ret
        exact ⟨by rw [HF.out]; rfl, HK5.out⟩
      | true =>
        by_cases hk0 : k = 0
        · subst hk0
          have NXJ : Hid (∀ j, j < 0 + 1 → goodR (runAt c j) = true ∧ (0 < j → gapB (runAt c (j - 1)) (runAt c j) = true)) := hid (fun j hj => by
            obtain rfl : j = 0 := by omega
            exact ⟨by rw [HQ.out]; exact HGQ.out, fun h => absurd h (Nat.lt_irrefl _)⟩)
          go_upto_region 7 with fail
          go_wp2_with (first
            | (refine wpList_load_mid (by rfl) 38 (.tmp 5) (by rfl) M 0 (by rfl) (runL (qn, qf, qt)) _ (range_ofR HZ5.out) hfs rfl (run_infoL (qn, qf, qt)) ?_)
            | (refine wpList_store_mid (by rfl) 38 (.tmp 3) (.tmp 42) (by rfl) N 0 (runL (qn, qf, qt)).toArray (by rfl) (by rfl) (run_there (q := (qn, qf, qt)) HBP5.out) (run_infoA (qn, qf, qt)) (run_one (qn, qf, qt)) ?_))
          go_roundw
          case rel => exact ⟨0 + 1, by rw [HLE.out]; omega, by go_num, NXJ, hid ⟨(qn, qf, qt), HB6.out, fun _ => by rw [Nat.add_sub_cancel]; exact HQ.out.symm⟩, HK6⟩
          case measure => simp [intOf]; omega
        · have hk1 : 0 < k := by omega
          have hpp := HPK.out hk1
          have hpg := (HJ.out (k - 1) (by omega)).1
          rw [← hpp] at hpg
          have hpb := goodR_of.1 hpg
          dsimp only at hpb
          obtain ⟨gp, hgp⟩ : ∃ b, gapB (pn, pf, pt) (qn, qf, qt) = b := ⟨_, rfl⟩
          have hgu := hgp
          unfold gapB at hgu
          dsimp only at hgu
          have HF : Hid (gp = false → rightC c = false) := hid (fun h => rightC_not k (by rw [HLE.out]; exact hlt) (.inr ⟨hk1, by rw [HQ.out, ← hpp, hgp, h]⟩))
          have NXJ : Hid (gp = true → ∀ j, j < k + 1 → goodR (runAt c j) = true ∧ (0 < j → gapB (runAt c (j - 1)) (runAt c j) = true)) := hid (fun h j hj => by
            by_cases hj2 : j < k
            · exact HJ.out j hj2
            · obtain rfl : j = k := by omega
              exact ⟨by rw [HQ.out]; exact HGQ.out, fun _ => by rw [HQ.out, ← hpp, hgp, h]⟩)
          clear hpg hpp hgp
          by_cases h1 : qn < pn
          · have HF := hid (HF.out (by rw [← hgu]; simp [h1]))
            go_wp2
            go_ret
            exact ⟨by rw [HF.out]; rfl, HK5.out⟩
          · by_cases h2 : qn = pn
            · subst h2
              by_cases h3 : qf < pt + 2
              · have HF := hid (HF.out (by rw [← hgu]; simp [h3]))
                go_wp2
                go_ret
                exact ⟨by rw [HF.out]; rfl, HK5.out⟩
              · have NXJ := hid (NXJ.out (by rw [← hgu]; simp [h3]))
                go_upto_region 7 with fail
                go_wp2_with (first
                  | (refine wpList_load_mid (by rfl) 38 (.tmp 5) (by rfl) M 0 (by rfl) (runL (qn, qf, qt)) _ (range_ofR HZ5.out) hfs rfl (run_infoL (qn, qf, qt)) ?_)
                  | (refine wpList_store_mid (by rfl) 38 (.tmp 3) (.tmp 42) (by rfl) N 0 (runL (qn, qf, qt)).toArray (by rfl) (by rfl) (run_there (q := (qn, qf, qt)) HBP5.out) (run_infoA (qn, qf, qt)) (run_one (qn, qf, qt)) ?_))
                go_roundw
                case rel => exact ⟨k + 1, by rw [HLE.out]; omega, by go_num, NXJ, hid ⟨(qn, qf, qt), HB6.out, fun _ => by rw [Nat.add_sub_cancel]; exact HQ.out.symm⟩, HK6⟩
                case measure => simp [intOf]; omega
            · have NXJ := hid (NXJ.out (by rw [← hgu]; simp [h1, h2]))
              go_upto_region 7 with fail
              go_wp2_with (first
                | (refine wpList_load_mid (by rfl) 38 (.tmp 5) (by rfl) M 0 (by rfl) (runL (qn, qf, qt)) _ (range_ofR HZ5.out) hfs rfl (run_infoL (qn, qf, qt)) ?_)
                | (refine wpList_store_mid (by rfl) 38 (.tmp 3) (.tmp 42) (by rfl) N 0 (runL (qn, qf, qt)).toArray (by rfl) (by rfl) (run_there (q := (qn, qf, qt)) HBP5.out) (run_infoA (qn, qf, qt)) (run_one (qn, qf, qt)) ?_))
              go_roundw
              case rel => exact ⟨k + 1, by rw [HLE.out]; omega, by go_num, NXJ, hid ⟨(qn, qf, qt), HB6.out, fun _ => by rw [Nat.add_sub_cancel]; exact HQ.out.symm⟩, HK6⟩
              case measure => simp [intOf]; omega
    · obtain rfl : k = L := by omega
      have HT : Hid (rightC c = true) := hid (rightC_of.2 fun j hj => HJ.out j (by rw [HLE.out] at hj; exact hj))
      go_wp2
      go_ret
      exact ⟨by rw [HT.out]; rfl, HK.out⟩
end
section
open Go.RowKit
def inR (r q : RunQ) : Bool := decide (r.1 = q.1 ∧ r.2.1 ≤ q.2.1 ∧ q.2.2 ≤ r.2.2)
def withinB (c : List RunQ) (q : RunQ) : Bool := c.any fun r => inR r q
theorem runAt_mem {c : List RunQ} {i : Nat} (hi : i < c.length) : runAt c i ∈ c := by unfold runAt; rw [List.getElem?_eq_getElem hi]; exact List.getElem_mem hi
theorem withinB_yes {c : List RunQ} {q : RunQ} {k : Nat} (hk : k < c.length) (h : inR (runAt c k) q = true) : withinB c q = true := List.any_eq_true.2 ⟨_, runAt_mem hk, h⟩
theorem withinB_no {c : List RunQ} {q : RunQ} (h : ∀ j, j < c.length → inR (runAt c j) q = false) : withinB c q = false := by
  cases e : withinB c q with
  | false => rfl
  | true =>
    obtain ⟨r, hr, hi⟩ := List.any_eq_true.1 e
    obtain ⟨i, hl, rfl⟩ := List.mem_iff_getElem.1 hr
    have := h i hl
    unfold runAt at this
    rw [List.getElem?_eq_getElem hl, Option.getD_some] at this
    rw [this] at hi
    cases hi
def hasC (c : List RunQ) (n d : Int) : Bool := rightC c && goodB n d && withinB c (n, d, d)
def WiR (w : World) (N : Nat) (c : List RunQ) (q : RunQ) (i : Value) (wr : World) : Prop := ∃ k : Nat, k ≤ c.length ∧ i = .int .i64 k ∧ Hid (∀ j, j < k → inR (runAt c j) q = false) ∧ Hid (Blk wr N 38 (runL q)) ∧ Hid (Kp Nb w wr)
set_option maxRecDepth 100000 in
set_option maxHeartbeats 4000000 in
theorem within_any (v : Value) (c : List RunQ) (q : RunQ) (w : World) (hs : ClSl w v c) (hbig : c.length ≤ 1048576) : Calls Tryz.prog 83 #[v, runV q] w fun e w' => e = .returned (.bool (withinB c q)) ∧ Kp Nb w w' := by
  obtain ⟨an, af, aT⟩ := q
  obtain ⟨y, d, rfl⟩ := hs.shape
  obtain ⟨L, hL⟩ : ∃ L, c.length = L := ⟨_, rfl⟩
  obtain ⟨N, hN⟩ : ∃ N, w.heap.size = N := ⟨_, rfl⟩
  obtain ⟨W, hW⟩ : ∃ W, W = w.alloc (.cells (runL (an, af, aT)).toArray 38) := ⟨_, rfl⟩
  have HB0 : Hid (Blk W N 38 (runL (an, af, aT))) := hid (by rw [hW, ← hN]; exact Blk.new w _ _)
  have K0 : Hid (Kp Nb w W) := hid (by rw [hW]; exact (Kp.refl Nb w).alloc _)
  have HLE := hid hL
  rw [hL] at hs hbig ⊢
  have HS := hid hs
  clear hL hs
  go_enter Tryz.func83, Tryz.ntmps83
  go_wp2_with fail
  rw [show w.alloc (.cells #[.int .i64 an, .int .i64 af, .int .i64 aT] 38) = W from hW.symm]
  clear hW hN
  go_loopw [9] (WiR w N c (an, af, aT)) (fun i _ => L - (intOf i).toNat)
  case atStart => exact ⟨0, Nat.zero_le _, rfl, hid (fun j hj => absurd hj (Nat.not_lt_zero _)), HB0, K0⟩
  case round =>
    clear HB0 K0
    obtain ⟨k, hk, rfl, HJ, HBQ, HK⟩ := hrel
    rw [HLE.out] at hk
    by_cases hlt : k < L
    · obtain ⟨blk, off, cap, e1, hc, hm, hcell⟩ := cl_shape (HS.out.kept HK.out) (by intro h; have := HLE.out; rw [h, List.length_nil] at this; omega)
      rw [HLE.out] at e1 hc hcell
      injection e1 with e1 _ e2
      subst e1 e2
      have HR := hid (hcell k hlt)
      obtain ⟨⟨qn, qf, qt⟩, hq⟩ : ∃ q, runAt c k = q := ⟨_, rfl⟩
      have HOK := HS.out.1 k
      rw [hq] at HR HOK
      have HQ := hid hq
      obtain ⟨M, hM⟩ : ∃ M, wr.heap.size = M := ⟨_, rfl⟩
      obtain ⟨W2, hW2⟩ : ∃ W, W = (wr.alloc (.cells (runL (0, 0, 0)).toArray 38)).setCells M 0 (runL (qn, qf, qt)) := ⟨_, rfl⟩
      have hz := Blk.new wr 38 (runL (0, 0, 0))
      rw [hM] at hz
      have KW : Hid (Kp Nb wr W2) := hid (by rw [hW2]; exact Kp.setCells (fun h => absurd h (by omega)) _ 0 _ ((Kp.refl Nb wr).alloc _))
      have HMW : Hid (wr.heap.size = M) := hid hM
      have TH := hid (run_there (q := (qn, qf, qt)) hz)
      have HZ : Hid (Blk W2 M 38 (runL (qn, qf, qt))) := hid (by rw [hW2]; exact row_set hz rfl)
      have HK2 := hid (HK.out.trans KW.out (fun _ _ h => h))
      unfold maxLen at hm
      obtain ⟨fs, hfs⟩ := under_run
      clear hz hcell hq
      go_upto_region 4 with (first
        | (refine wpList_load_mid (by rfl) 38 (.tmp 11) (by rfl) blk (off + k * 3) (by rfl) (runL (qn, qf, qt)) _ HR.out hfs rfl (run_infoL (qn, qf, qt)) ?_)
        | (refine wpList_store_mid (by rfl) 38 (.tmp 6) (.tmp 12) (by rfl) M 0 (runL (qn, qf, qt)).toArray (by rfl) (by rfl) TH.out (run_infoA (qn, qf, qt)) (run_one (qn, qf, qt)) ?_))
      rw [show (wr.alloc (.cells #[.int .i64 0, .int .i64 0, .int .i64 0] 38)).setCells M 0 (runL (qn, qf, qt)) = W2 from hW2.symm]
      clear hW2 TH hM
      have c0 : W2.cell? ⟨M, 0, none⟩ = some (.int .i64 qn) := HZ.out.cell 0
      have c1 : W2.cell? ⟨M, 1, none⟩ = some (.int .i64 qf) := HZ.out.cell 1
      have c2 : W2.cell? ⟨M, 2, none⟩ = some (.int .i64 qt) := HZ.out.cell 2
      have HBQ2 := hid (HBQ.out.kept KW.out (fun h => h))
      have d0 : World.cell? W2 ⟨N, 0, none⟩ = some (.int .i64 an) := HBQ2.out.cell 0
      have d1 : World.cell? W2 ⟨N, 1, none⟩ = some (.int .i64 af) := HBQ2.out.cell 1
      have d2 : World.cell? W2 ⟨N, 2, none⟩ = some (.int .i64 aT) := HBQ2.out.cell 2
      have NX : Hid (inR (qn, qf, qt) (an, af, aT) = false → ∀ j, j < k + 1 → inR (runAt c j) (an, af, aT) = false) := hid (fun h j hj => by
        by_cases hj2 : j < k
        · exact HJ.out j hj2
        · obtain rfl : j = k := by omega
          rw [HQ.out]; exact h)
      clear KW
      by_cases h1 : qn = an
      · subst h1
        by_cases h2 : qf ≤ af
        · by_cases h3 : aT ≤ qt
          · have HY : Hid (withinB c (qn, af, aT) = true) := hid (withinB_yes (by rw [HLE.out]; exact hlt) (by rw [HQ.out]; unfold inR; simp [h2, h3]))
            go_wp2
            go_ret
            exact ⟨by rw [HY.out]; rfl, HK2.out⟩
          · have NX := hid (NX.out (by unfold inR; simp [h3]))
            go_wp2
            go_roundw
            case rel => exact ⟨k + 1, by rw [HLE.out]; omega, by go_num, NX, HBQ2, HK2⟩
            case measure => simp [intOf]; omega
        · have NX := hid (NX.out (by unfold inR; simp [h2]))
          go_wp2
          go_roundw
          case rel => exact ⟨k + 1, by rw [HLE.out]; omega, by go_num, NX, HBQ2, HK2⟩
          case measure => simp [intOf]; omega
      · have NX := hid (NX.out (by unfold inR; simp [h1]))
        go_wp2
        go_roundw
        case rel => exact ⟨k + 1, by rw [HLE.out]; omega, by go_num, NX, HBQ2, HK2⟩
        case measure => simp [intOf]; omega
    · obtain rfl : k = L := by omega
      have HT : Hid (withinB c (an, af, aT) = false) := hid (withinB_no fun j hj => HJ.out j (by rw [HLE.out] at hj; exact hj))
      go_wp2
      go_ret
      exact ⟨by rw [HT.out]; rfl, HK.out⟩
set_option maxRecDepth 100000 in
set_option maxHeartbeats 1000000 in
theorem has_any (v : Value) (c : List RunQ) (n d : Int) (w : World) (hs : ClSl w v c) (hbig : c.length ≤ 1048576) : Calls Tryz.prog 47 #[v, dotV n d] w fun e w' => e = .returned (.bool (hasC c n d)) ∧ Kp Nb w w' := by
  obtain ⟨y, dc, rfl⟩ := hs.shape
  obtain ⟨L, hL⟩ : ∃ L, c.length = L := ⟨_, rfl⟩
  obtain ⟨N, hN⟩ : ∃ N, w.heap.size = N := ⟨_, rfl⟩
  obtain ⟨W, hW⟩ : ∃ W, W = w.alloc (.cells #[.int .i64 n, .int .i64 d] 23) := ⟨_, rfl⟩
  have HB0 : Hid (Blk W N 23 [.int .i64 n, .int .i64 d]) := hid (by rw [hW, ← hN]; exact Blk.new w _ _)
  have K0 : Hid (Kp Nb w W) := hid (by rw [hW]; exact (Kp.refl Nb w).alloc _)
  have HLE := hid hL
  rw [hL] at hs hbig ⊢
  have HS := hid (hs.kept K0.out)
  have HBG := hid hbig
  obtain ⟨rb, hrb⟩ : ∃ b, rightC c = b := ⟨_, rfl⟩
  obtain ⟨gb, hgb⟩ : ∃ b, goodB n d = b := ⟨_, rfl⟩
  obtain ⟨wb, hwb⟩ : ∃ b, withinB c (n, d, d) = b := ⟨_, rfl⟩
  have HH : Hid (hasC c n d = (rb && gb && wb)) := hid (by unfold hasC; rw [hrb, hgb, hwb])
  have HRB := hid hrb
  have HGB := hid hgb
  have HWB := hid hwb
  clear hL hs hrb hgb hwb
  go_enter Tryz.func47, Tryz.ntmps47
  go_upto_region 1 with fail
  rw [← hW]
  clear hW hN
  go_wp2_with fail
  refine (dright_any _ c W HS.out (by have := HBG.out; have := HLE.out; omega)).mono ?_
  rintro r w1 ⟨rfl, k1⟩
  rw [HRB.out]
  have HB1 := hid (HB0.out.kept k1 (fun h => h))
  have K1 := hid (K0.out.trans k1 (fun _ _ h => h))
  have HS1 := hid (HS.out.kept k1)
  clear k1
  have c0 : w1.cell? ⟨N, 0, none⟩ = some (.int .i64 n) := HB1.out.cell 0
  have c1 : w1.cell? ⟨N, 1, none⟩ = some (.int .i64 d) := HB1.out.cell 1
  cases rb with
  | false =>
    go_wp2
    go_ret
    exact ⟨by rw [HH.out]; rfl, K1.out⟩
  | true =>
    go_wp2_with fail
    refine (good_any n d w1).mono ?_
    rintro r w2 ⟨rfl, k2⟩
    rw [HGB.out]
    have HB2 := hid (HB1.out.kept k2 (fun h => h))
    have K2 := hid (K1.out.trans k2 (fun _ _ h => h))
    have HS2 := hid (HS1.out.kept k2)
    clear k2 c0 c1
    have c0 : w2.cell? ⟨N, 0, none⟩ = some (.int .i64 n) := HB2.out.cell 0
    have c1 : w2.cell? ⟨N, 1, none⟩ = some (.int .i64 d) := HB2.out.cell 1
    cases gb with
    | false =>
      go_wp2
      go_ret
      exact ⟨by rw [HH.out]; rfl, K2.out⟩
    | true =>
      go_wp2_with fail
      refine (within_any _ c (n, d, d) w2 HS2.out (by have := HBG.out; have := HLE.out; omega)).mono ?_
      rintro r w3 ⟨rfl, k3⟩
      rw [HWB.out]
      have K3 := hid (K2.out.trans k3 (fun _ _ h => h))
      clear k3
      go_wp2
      go_ret
      exact ⟨by rw [HH.out]; cases wb <;> rfl, K3.out⟩
end
section
open Go.RowKit
theorem exec_buildSliceD {P : Program} {ev : Operand → Value} {o : Oper} {T : TypeId} {n : Nat} {ps : Array (Nat × Operand)} {qs : Array (Nat × Value)} {v : Value} {w w' : World} (ho : o.op = .buildSlice T n ps) (hq : (ps.map fun (i, x) => (i, ev x)) = qs) (hl : (Instr.buildSlice T n qs).run P w = .ok v w') : (execOp ev o).run P w = .ok (.value v) w' := by
  unfold execOp
  simp only [ho, hq, Sem.run_bind, Sem.run_pure, Result.andThen_ok, hl]
theorem make_run1 (w : World) (n f t : Int) : (Instr.buildSlice 25 1 #[(0, .agg #[.int .i64 n, .int .i64 f, .int .i64 t])]).run Tryz.prog w = .ok (.slice (some ⟨w.heap.size, 0, none⟩) 1 1) (w.alloc (.cells #[.int .i64 n, .int .i64 f, .int .i64 t] 38 (0, 0))) := by kernel_rfl
theorem rows_oneR {W : World} {B : Nat} {q : RunQ} (h : Blk W B 38 (runL q)) : RowsSl runL (0, 0, 0) 3 W (.slice (some ⟨B, 0, none⟩) 1 1) [q] := by
  refine .inr ⟨B, 0, 1, rfl, Nat.le_refl _, by unfold maxLen; omega, fun i hi => ?_⟩
  have e : i = 0 := by simp at hi; omega
  subst e
  exact h.range 0 _ (fun j _ => by rw [Nat.zero_add]; rfl)
theorem run_infoF : (Tryz.prog.info? 38).map (fun i => (i.zero, i.size, i.bytes)) = some (some (.agg #[.int .i64 0, .int .i64 0, .int .i64 0]), 3, 24) := by kernel_rfl
theorem run_info3 : ∃ i z, Tryz.prog.info? 38 = some i ∧ i.zero = some z ∧ i.size = 3 ∧ i.bytes = 24 ∧ z.cells.size = 3 := by
  obtain ⟨i, h1, h2, h3, h4⟩ := info_parts run_infoF
  exact ⟨i, _, h1, h2, h3, h4, rfl⟩
theorem under_clock : Tryz.prog.underlying 25 = some (.slice 38) := Tryz.underlying25
theorem cl_owned {w : World} {base : Nat} {v : Value} {c : List RunQ} (h : w.ownsRow base 38 3 v c.length (flatR runL c)) (hok : ∀ q ∈ c, RunOk q) : ClSl w v c := ⟨runAt_ok hok, rows_owned h (fun _ _ => rfl)⟩
theorem ownsRow_kpD {w w' : World} {base e size k : Nat} {v : Value} {xs : List Value} (h : w.ownsRow base e size v k xs) (hk : Kp Nb w w') : w'.ownsRow base e size v k xs :=
  ownsRow_same h (fun g hg => by obtain ⟨-, o, ho, -⟩ := row_cells h hg; exact hk.heap (Array.getElem?_eq_some_iff.1 ho).1 (fun h => h))
def OwnV (w : World) (v : Value) (w' : World) : Prop := ∀ g, v.ownBlock = some g → w.heap.size ≤ g ∧ g < w'.heap.size
theorem own_of {w w' : World} {e size k : Nat} {v : Value} {xs : List Value} (h : w'.ownsRow w.heap.size e size v k xs) : OwnV w v w' := fun g hg => by obtain ⟨h1, o, ho, -⟩ := row_cells h hg; exact ⟨h1, (Array.getElem?_eq_some_iff.1 ho).1⟩
theorem cl_nil (w : World) : ClSl w (.slice none 0 0) [] := ⟨runAt_ok (by simp), .inl ⟨⟨_, _, rfl⟩, rfl⟩⟩
theorem take_snocR (c : List RunQ) (k : Nat) (hk : k < c.length) : c.take (k + 1) = c.take k ++ [runAt c k] := by
  unfold runAt
  rw [List.take_succ_eq_append_getElem hk, List.getElem?_eq_getElem hk]
  rfl
def ofF (c : List RunQ) (n : Int) : List RunQ := c.filter fun r => decide (r.1 = n)
theorem ofF_snoc (c : List RunQ) (n : Int) (k : Nat) (hk : k < c.length) : ofF (c.take (k + 1)) n = ofF (c.take k) n ++ (if (runAt c k).1 = n then [runAt c k] else []) := by
  rw [take_snocR c k hk]
  unfold ofF
  rw [List.filter_append]
  congr 1
  by_cases h : (runAt c k).1 = n
  · simp [h]
  · simp [h]
end
section
open Go.RowKit
/-- The nodes of a right clock rise. -/
theorem right_nodes {c : List RunQ} (h : rightC c = true) : ∀ (i d : Nat), i + d < c.length → (runAt c i).1 ≤ (runAt c (i + d)).1 := by
  intro i d
  induction d with
  | zero => intro _; exact Int.le_refl _
  | succ d ih =>
    intro hl
    have h1 := ih (by omega)
    have h2 := (rightC_of.1 h (i + (d + 1)) hl).2 (by omega)
    rw [show i + (d + 1) - 1 = i + d by omega] at h2
    unfold gapB at h2
    simp only [Bool.not_eq_true', Bool.or_eq_false_iff, decide_eq_false_iff_not] at h2
    have := h2.1
    omega
def topF (c : List RunQ) (n : Int) : Int := match (ofF c n).getLast? with
  | none => 0
  | some r => r.2.2
def topC (c : List RunQ) (n : Int) : Int := if rightC c then topF c n else 0
theorem topF_eq (c : List RunQ) (n : Int) (k : Nat) (hk : k < c.length) (h : (runAt c k).1 = n) : topF (c.take (k + 1)) n = (runAt c k).2.2 := by
  unfold topF
  rw [ofF_snoc c n k hk, if_pos h, List.getLast?_concat]
theorem topF_ne (c : List RunQ) (n : Int) (k : Nat) (hk : k < c.length) (h : ¬ (runAt c k).1 = n) : topF (c.take (k + 1)) n = topF (c.take k) n := by
  unfold topF
  rw [ofF_snoc c n k hk, if_neg h, List.append_nil]
theorem topF_past {c : List RunQ} {n : Int} (hr : rightC c = true) (k : Nat) (hk : k < c.length) (h : n < (runAt c k).1) : topF c n = topF (c.take k) n := by
  have key : ∀ d, k + d ≤ c.length → topF (c.take (k + d)) n = topF (c.take k) n := by
    intro d
    induction d with
    | zero => intro _; rfl
    | succ d ih =>
      intro hl
      rw [show k + (d + 1) = k + d + 1 by omega, topF_ne c n (k + d) (by omega) (fun e => by have := right_nodes hr k d (by omega); omega)]
      exact ih (by omega)
  have := key (c.length - k) (by omega)
  rw [show k + (c.length - k) = c.length by omega, List.take_length] at this
  exact this
def ToR (w1 : World) (c : List RunQ) (n : Int) (s i : Value) (wr : World) : Prop := ∃ k : Nat, k ≤ c.length ∧ s = .int .i64 (topF (c.take k) n) ∧ i = .int .i64 k ∧ Hid (Kp Nb w1 wr)
set_option maxRecDepth 100000 in
set_option maxHeartbeats 4000000 in
theorem top_any (v : Value) (c : List RunQ) (n : Int) (w : World) (hs : ClSl w v c) (hbig : c.length ≤ 1048576) : Calls Tryz.prog 46 #[v, .int .i64 n] w fun e w' => e = .returned (.int .i64 (topC c n)) ∧ Kp Nb w w' := by
  obtain ⟨y, d, rfl⟩ := hs.shape
  obtain ⟨L, hL⟩ : ∃ L, c.length = L := ⟨_, rfl⟩
  have HLE := hid hL
  rw [hL] at hs hbig ⊢
  have HS0 := hid hs
  have hb20 : L ≤ 1048576 := hbig
  obtain ⟨rb, hrb⟩ : ∃ b, rightC c = b := ⟨_, rfl⟩
  have HRB := hid hrb
  clear hL hs hrb
  go_enter Tryz.func46, Tryz.ntmps46
  go_wp2
  refine wp_scope_straight ?_
  go_wp2_with fail
  refine (dright_any _ c w HS0.out (by have := HLE.out; omega)).mono ?_
  rintro r w1 ⟨rfl, k1⟩
  rw [HRB.out]
  have K1 := hid k1
  have HS := hid (HS0.out.kept k1)
  clear k1
  cases rb with
  | false =>
    have HE : Hid (topC c n = 0) := hid (by unfold topC; rw [HRB.out]; rfl)
    go_wp2
    dsimp only [Exit.noGoto]
    go_ret
    exact ⟨by rw [HE.out]; rfl, K1.out⟩
  | true =>
    have HE : Hid (topC c n = topF c n) := hid (by unfold topC; rw [HRB.out]; rfl)
    go_wp2
    refine wp_label ?_
    go_wp2
    go_loopw [5, 13] (ToR w1 c n) (fun _ i _ => L - (intOf i).toNat)
    case atStart => exact ⟨0, Nat.zero_le _, by rw [List.take_zero]; rfl, rfl, hid (Kp.refl _ _)⟩
    case round =>
      obtain ⟨k, hk, rfl, rfl, HK⟩ := hrel
      rw [HLE.out] at hk
      by_cases hlt : k < L
      · obtain ⟨blk, off, cap, e1, hc, hm, hcell⟩ := cl_shape (HS.out.kept HK.out) (by intro h; have := HLE.out; rw [h, List.length_nil] at this; omega)
        rw [HLE.out] at e1 hc hcell
        injection e1 with e1 _ e2
        subst e1 e2
        have HR := hid (hcell k hlt)
        obtain ⟨⟨qn, qf, qt⟩, hq⟩ : ∃ q, runAt c k = q := ⟨_, rfl⟩
        have HOK := HS.out.1 k
        rw [hq] at HR HOK
        have HQ := hid hq
        obtain ⟨M, hM⟩ : ∃ M, wr.heap.size = M := ⟨_, rfl⟩
        obtain ⟨W2, hW2⟩ : ∃ W, W = (wr.alloc (.cells (runL (0, 0, 0)).toArray 38)).setCells M 0 (runL (qn, qf, qt)) := ⟨_, rfl⟩
        have hz := Blk.new wr 38 (runL (0, 0, 0))
        rw [hM] at hz
        have KW : Hid (Kp Nb wr W2) := hid (by rw [hW2]; exact Kp.setCells (fun h => absurd h (by omega)) _ 0 _ ((Kp.refl Nb wr).alloc _))
        have HMW : Hid (wr.heap.size = M) := hid hM
        have TH := hid (run_there (q := (qn, qf, qt)) hz)
        have HZ : Hid (Blk W2 M 38 (runL (qn, qf, qt))) := hid (by rw [hW2]; exact row_set hz rfl)
        have HK2 := hid (HK.out.trans KW.out (fun _ _ h => h))
        unfold maxLen at hm
        obtain ⟨fs, hfs⟩ := under_run
        clear hz hcell hq
        go_upto_region 7 with (first
          | (refine wpList_load_mid (by rfl) 38 (.tmp 15) (by rfl) blk (off + k * 3) (by rfl) (runL (qn, qf, qt)) _ HR.out hfs rfl (run_infoL (qn, qf, qt)) ?_)
          | (refine wpList_store_mid (by rfl) 38 (.tmp 7) (.tmp 16) (by rfl) M 0 (runL (qn, qf, qt)).toArray (by rfl) (by rfl) TH.out (run_infoA (qn, qf, qt)) (run_one (qn, qf, qt)) ?_))
        rw [show (wr.alloc (.cells #[.int .i64 0, .int .i64 0, .int .i64 0] 38)).setCells M 0 (runL (qn, qf, qt)) = W2 from hW2.symm]
        clear hW2 TH hM
        have c0 : W2.cell? ⟨M, 0, none⟩ = some (.int .i64 qn) := HZ.out.cell 0
        have c1 : W2.cell? ⟨M, 1, none⟩ = some (.int .i64 qf) := HZ.out.cell 1
        have c2 : W2.cell? ⟨M, 2, none⟩ = some (.int .i64 qt) := HZ.out.cell 2
        have he := fun h => topF_eq c n k (by rw [HLE.out]; exact hlt) (by rw [HQ.out]; exact h)
        have hne := fun h => topF_ne c n k (by rw [HLE.out]; exact hlt) (by rw [HQ.out]; exact h)
        have hpa := fun h => topF_past (n := n) HRB.out k (by rw [HLE.out]; exact hlt) (by rw [HQ.out]; exact h)
        rw [HQ.out] at he
        dsimp only at he hne hpa
        have HEQ := hid he
        have HNEQ := hid hne
        have HPA := hid hpa
        obtain ⟨S, hS⟩ : ∃ S, topF (c.take k) n = S := ⟨_, rfl⟩
        have HSS := hid hS
        rw [hS]
        clear he hne hpa hS KW
        by_cases h1 : qn < n
        · have HN := hid (HNEQ.out (by omega))
          go_wp2
          go_roundw
          case rel => exact ⟨k + 1, by rw [HLE.out]; omega, by rw [HN.out, HSS.out], by go_num, HK2⟩
          case measure => simp [intOf]; omega
        · by_cases h2 : n < qn
          · have HN := hid (HPA.out h2)
            go_wp2
            go_ret
            exact ⟨by rw [HE.out, HN.out, HSS.out]; rfl, K1.out.trans HK2.out (fun _ _ h => h)⟩
          · have HN := hid (HEQ.out (by omega))
            go_wp2
            go_roundw
            case rel => exact ⟨k + 1, by rw [HLE.out]; omega, by rw [HN.out], by go_num, HK2⟩
            case measure => simp [intOf]; omega
      · obtain rfl : k = L := by omega
        have ht : c.take k = c := List.take_of_length_le (by rw [HLE.out]; exact Nat.le_refl _)
        rw [ht]
        go_wp2
        dsimp only [Exit.noGoto]
        go_ret
        exact ⟨by rw [HE.out]; rfl, K1.out.trans HK.out (fun _ _ h => h)⟩
end
section
open Go.RowKit
/-- An own row with its block. -/
theorem rowblk {w : World} {base e size n : Nat} {v : Value} {xs : List Value} (h : w.ownsRow base e size v n xs) (hn : 0 < n) : ∃ g cap vs, v = .slice (some ⟨g, 0, none⟩) n cap ∧ base ≤ g ∧ Blk w g e vs ∧ n ≤ cap ∧ cap ≤ maxLen ∧ vs.length = cap * size ∧ vs.take (n * size) = xs := by
  rcases h.2 with ⟨_, h0⟩ | ⟨g, cap, cur, rfl, hb, hg, hnc, hm, hs, ht⟩
  · omega
  · exact ⟨g, cap, cur.toList, rfl, hb, by unfold Blk; simpa using hg, hnc, hm, by simpa using hs, ht⟩
end
section
open Go.RowKit
theorem exec_loadD {P : Program} {ev : Operand → Value} {o : Oper} {T : TypeId} {x : Operand} {a : Addr} {v : Value} {w : World} (ho : o.op = .load T x) (hx : ev x = .pointer (some a)) (hl : (Instr.loadAt T (.pointer (some a))).run P w = .ok v w) : (execOp ev o).run P w = .ok (.value v) w := by
  unfold execOp
  simp only [ho, hx, Sem.run_bind, Sem.run_pure, Result.andThen_ok, hl]
theorem cell_lt {w : World} {a : Addr} {v : Value} (h : w.cell? a = some v) : a.block < w.heap.size := by
  unfold World.cell? at h
  cases hx : w.heap[a.block]? with
  | none => rw [hx] at h; cases h
  | some o => exact (Array.getElem?_eq_some_iff.1 hx).1
end
section
open Go.RowKit
theorem right_good {c : List RunQ} (h : rightC c = true) : ∀ q ∈ c, goodR q = true := fun q hq => by
  obtain ⟨i, hi, rfl⟩ := List.mem_iff_getElem.1 hq
  have := (rightC_of.1 h i hi).1
  unfold runAt at this
  rwa [List.getElem?_eq_getElem hi] at this
end

end Go.Proofs.YtogoophofgkboaaGreatDoor
