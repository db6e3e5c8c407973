/-
  As region_ghost, in a round of a range over a function (the region's calls by their plain contracts). Nothing of the program is named here. Condition: what 'okAll' checks of the operations (closed); none of them is a defer statement.
-/
import Derived.Test.YtbbfibgijackhaaGreatDoorGhostL
import Derived.RangeFuncCalls
namespace Go.Proofs.YtbbfibgijackhaaGreatDoor
open Go.RowKit

theorem Oper.wpIn_of_wp {l n : Nat} {P : Program} {o : Oper} {a : Act} {w : World} {K : Act → World → Prop} {Q : Exit → Act → World → Prop} (hd : ∀ c, o.op ≠ .defer c) (h : o.wp P a w K Q) : o.wpIn (Fence.wide.inRound l) n P a w K Q := by
  unfold Oper.wpIn
  refine ⟨fun _ _ => trivial, ?_⟩
  rw [Oper.semAt_plain (Fence.wide.inRound l) _ _ hd]
  unfold Oper.wp at h
  cases hr : (execOp a.eval o).run P w with
  | ok x w' =>
    rw [hr] at h
    cases x with
    | value v => exact h
    | skip => exact h
    | defer d => exact h
    | enter f args => exact ⟨(fun hh => by cases hh), CallsIn.inRound l (callsIn_wide.2 h)⟩
    | row r args => exact ⟨(fun hh => by cases hh), fun c cs _ => (h c cs).imp fun v h => h.imp fun w'' h => ⟨h.1, stepsIn_wide.2 h.2⟩⟩
    | _ => exact h.elim
  | halt x w' =>
    rw [hr] at h
    cases x with
    | panic v => exact h
    | _ => exact h.elim
/-- No defer statement is among them. -/
def noDefer (ops : Array Oper) : Bool := ops.toList.all fun o => match o.op with | .defer _ => false | _ => true
theorem noDefer_spec {ops : Array Oper} (h : noDefer ops = true) {i : Nat} {o : Oper} (ho : ops[i]? = some o) : ∀ c, o.op ≠ .defer c := by
  intro c hc
  have := List.all_eq_true.1 h o (by rw [← Array.getElem?_toList] at ho; exact List.mem_of_getElem? ho)
  rw [hc] at this
  cases this

section
variable {G : Type} {P : Program} {ops : Array Oper} {Q : Exit → Act → World → Prop} {marks : List Nat} {S : List Bool → G → World → Prop} {wr : List (Option Nat)} {vals : G → List Value} {reads : List (List (Nat × Option Nat))} {a0 : Act}

theorem ghost_stepR {l n : Nat} (hnd : noDefer ops = true) {L : Nat → Bool} {a : Act} {w : World} {i : Nat} {o : Oper} {g : G} {K : Act → World → Prop} (hok : okAll ops wr a0.tmps.size reads = true) (hI : InvG S marks ops wr vals a0 L g a w) (ho : ops[i]? = some o) (hu : L i = false) (hdep : ∀ e ∈ o.after, Region.binds .any e = true → L e.on = true)
    (hstep : GStep P ops marks S vals reads a0 i) (hK : ∀ g' a' w', InvG S marks ops wr vals a0 (upd L i) g' a' w' → K a' w') : wpOpIn (Fence.wide.inRound l) n P ops Q i K a w := by
  have hlt : i < ops.size := (Array.getElem?_eq_some_iff.1 ho).1
  have h := okAll_one hok ho
  unfold okOne at h
  rw [ho] at h
  dsimp only at h
  rw [Bool.and_eq_true, Bool.and_eq_true, Bool.and_eq_true] at h
  obtain ⟨⟨⟨h1, h2⟩, h3⟩, h4⟩ := h
  have hafter : ∀ j, aft o j = true → L j = true := fun j hj => by
    obtain ⟨e, he, hb, rfl⟩ := aft_spec hj
    exact hdep e he hb
  -- what stands in the slots that are read
  have hread : ∀ p ∈ reads.getD i [], a.eval (.tmp p.1) = srcV a0 (vals g) p := by
    rintro ⟨s, src⟩ hp
    have hp' := List.all_eq_true.1 h4 _ hp
    dsimp only at hp'
    rw [hI.slot s]
    unfold curV
    cases src with
    | some j =>
      rw [Bool.and_eq_true] at hp'
      have e1 : wr.getD s none = some j := by simpa using hp'.1
      rw [e1]
      simp only [hafter j hp'.2, if_true]
      rfl
    | none =>
      dsimp only at hp'
      split at hp'
      · rename_i e1
        first | rfl | (rw [e1]; rfl)
      · rename_i j e1
        split at hp'
        · rename_i oj hoj
          obtain ⟨e, he, hb, hon⟩ := aft_spec hp'
          have hj : L j = false := by
            cases hLj : L j with
            | false => rfl
            | true =>
              have := hI.closed j oj hoj hLj e he hb
              rw [hon, hu] at this
              cases this
          first | (simp [hj]; rfl) | (rw [e1]; simp [hj]; rfl)
        · cases hp'
  -- the invariant behind it
  have hnext : ∀ u g' w', GNext marks S vals i L g u g' w' → InvG S marks ops wr vals a0 (upd L i) g' (a.put o.dst u) w' := fun u g' w' hw' => by
    obtain ⟨hui, hold, hSn⟩ := hw'
    have hcur : ∀ s, (∀ j, wr.getD s none = some j → (j == i) = false) → curV wr (vals g') a0 (upd L i) s = curV wr (vals g) a0 L s := fun s hs => by
      unfold curV
      cases hws : wr.getD s none with
      | none => rfl
      | some j =>
        have hne := hs j hws
        simp only [upd, hne, Bool.or_false]
        cases hLj : L j with
        | false => rfl
        | true => simp only [if_true]; exact hold j hLj
    refine ⟨hSn, by rw [size_put]; exact hI.size, ?_, ?_, ?_⟩
    · rw [← hI.defers]; unfold Act.put; split <;> rfl
    · intro j oj hoj hLj e he hb
      unfold upd at hLj ⊢
      rw [Bool.or_eq_true] at hLj
      rcases hLj with hLj | hLj
      · rw [hI.closed j oj hoj hLj e he hb]; rfl
      · have : j = i := by simpa using hLj
        subst this
        rw [ho] at hoj
        injection hoj with hoj
        subst hoj
        rw [hdep e he hb]; rfl
    · intro s
      cases hd : o.dst with
      | none =>
        show a.eval (.tmp s) = _
        rw [hI.slot s]
        refine (hcur s (fun j hws => ?_)).symm
        rw [beq_eq_false_iff_ne]
        rintro rfl
        obtain ⟨oj, hoj, hdj⟩ := okAll_wr hok hws
        rw [ho] at hoj
        injection hoj with hoj
        subst hoj
        rw [hd] at hdj
        cases hdj
      | some d =>
        rw [hd] at h2
        dsimp only at h2
        rw [Bool.and_eq_true] at h2
        have hdN : d < a.tmps.size := by rw [hI.size]; exact of_decide_eq_true h2.1
        have hwd : wr.getD d none = some i := by simpa using h2.2
        by_cases hsd : d = s
        · subst hsd
          rw [eval_put_same a d _ hdN]
          unfold curV
          rw [hwd]
          have hii : upd L i i = true := by simp [upd]
          simp only [hii, if_true, hui]
        · rw [eval_put_ne a d s _ hsd, hI.slot s]
          refine (hcur s (fun j hws => ?_)).symm
          rw [beq_eq_false_iff_ne]
          rintro rfl
          obtain ⟨oj, hoj, hdj⟩ := okAll_wr hok hws
          rw [ho] at hoj
          injection hoj with hoj
          subst hoj
          rw [hd] at hdj
          injection hdj with hdj
          exact hsd hdj
  -- what the guard says
  have hguard : ∀ x b, o.guard = some (x, b) → ∀ c, (vals g).getD x undef = .bool c → yielded ops a.tmps x = some c := fun x b hg c hc => by
    rw [hg] at h3
    dsimp only at h3
    rw [Bool.and_eq_true] at h3
    split at h3
    · rename_i og hog
      obtain ⟨d, hd⟩ := Option.isSome_iff_exists.1 h3.2
      have hgo := okAll_one hok hog
      unfold okOne at hgo
      rw [hog] at hgo
      dsimp only at hgo
      rw [Bool.and_eq_true, Bool.and_eq_true, Bool.and_eq_true, hd] at hgo
      dsimp only at hgo
      rw [Bool.and_eq_true] at hgo
      have hdN : d < a.tmps.size := by rw [hI.size]; exact of_decide_eq_true hgo.1.1.2.1
      have hwd : wr.getD d none = some x := by simpa using hgo.1.1.2.2
      have he : a.eval (.tmp d) = .bool c := by
        rw [hI.slot d]
        unfold curV
        rw [hwd]
        simp only [hafter x h3.1, if_true, hc]
      have ht : a.tmps[d]? = some (.bool c) := by
        rw [Array.getElem?_eq_getElem hdN]
        congr 1
        rw [← he]
        simp [Act.eval, hdN]
      unfold yielded
      rw [hog]
      simp [hd, ht]
    · cases h3.2
  rcases hstep o L g w ho hu hafter (fun j oj hoj hLj k hk => by
      obtain ⟨e, he, hb, rfl⟩ := aft_spec hk
      exact hI.closed j oj hoj hLj e he hb) hI.s with ⟨hg, hrun⟩ | ⟨hskip, g', hn⟩
  · have hw : Region.wanted o (yielded ops a.tmps) = true := by
      unfold Region.wanted
      cases hgd : o.guard with
      | none => rfl
      | some gb =>
        obtain ⟨x, b⟩ := gb
        rw [hgd] at hg
        dsimp only at hg ⊢
        rw [hguard x b hgd b hg]
        simp
    unfold wpOpIn
    rw [ho]
    simp only [hw, if_true]
    refine Oper.wpIn_of_wp (noDefer_spec hnd ho) ?_
    rcases hrun a.eval ⟨fun _ => rfl, fun _ => rfl⟩ hread with ⟨u, g', w', hr, hn⟩ | ⟨g', w', hr, hn⟩ | ⟨f, args, hr, hc⟩
    · unfold Oper.wp
      rw [hr]
      exact hK _ _ _ (hnext u g' w' hn)
    · unfold Oper.wp
      rw [hr]
      exact hK _ _ _ (hnext undef g' w' hn)
    · unfold Oper.wp
      rw [hr]
      exact hc.mono fun e w' ⟨u, g', he, hn⟩ => by subst he; exact hK _ _ _ (hnext u g' w' hn)
  · cases hgd : o.guard with
    | none => rw [hgd] at hskip; exact hskip.elim
    | some gb =>
      obtain ⟨x, b⟩ := gb
      rw [hgd] at hskip
      dsimp only at hskip
      have hw : Region.wanted o (yielded ops a.tmps) = false := by
        unfold Region.wanted
        rw [hgd]
        dsimp only
        rw [hguard x b hgd _ hskip]
        cases b <;> rfl
      unfold wpOpIn
      rw [ho]
      simp only [hw, Bool.false_eq_true, if_false]
      exact ⟨fun _ _ => trivial, hK _ _ _ (hnext undef g' w hn)⟩
theorem region_ghostR {rid l n : Nat} (hnd : noDefer ops = true) {w : World} {g0 : G} (wr : List (Option Nat)) (reads : List (List (Nat × Option Nat))) (dsts : List (Option Nat)) (vals : G → List Value) (marks : List Nat) (S : List Bool → G → World → Prop) (hm : P.follows .mixedOrders = true) (hok : okAll ops wr a0.tmps.size reads = true)
    (hF : ∀ g, (putAll dsts (vals g) a0).tmps.toList = (List.range a0.tmps.size).map fun s => match wr.getD s none with | none => a0.eval (.tmp s) | some i => (vals g).getD i undef) (hmk : (marks.all fun i => decide (i < ops.size)) = true)
    (hS : S (marks.map fun _ => false) g0 w.drew) (hstep : ∀ i, i < ops.size → GStep P ops marks S vals reads a0 i) (hend : ∀ g w, S (marks.map fun _ => true) g w → Q .normal (putAll dsts (vals g) a0) w) : (Code.region rid ops true).wpIn (Fence.wide.inRound l) n P Q a0 w := by
  refine region_inv hm (okAll_up hok) (fun L a w => ∃ g, InvG S marks ops wr vals a0 L g a w) ⟨g0, hS, rfl, rfl, fun i o _ h => (by cases h), fun s => ?_⟩ ?_ ?_
  · unfold curV
    split <;> simp
  · rintro L a w i o ⟨g, hI⟩ ho hu hdep
    exact ghost_stepR hnd hok hI ho hu hdep (hstep i (Array.getElem?_eq_some_iff.1 ho).1) (fun g' _ _ h => ⟨g', h⟩)
  · rintro L a w ⟨g, hI⟩ hall
    have ha : a = putAll dsts (vals g) a0 := ghost_end hI (fun i s hws => by
      obtain ⟨o, ho, _⟩ := okAll_wr hok hws
      exact hall i (Array.getElem?_eq_some_iff.1 ho).1) _ (hF g) (putAll_defers dsts (vals g) a0)
    rw [ha]
    refine hend g w ?_
    have hb : bitsAt marks L = marks.map fun _ => true := by
      unfold bitsAt
      apply List.map_congr_left
      intro j hj
      exact hall j (of_decide_eq_true (List.all_eq_true.1 hmk j hj))
    rw [← hb]
    exact hI.s

end

end Go.Proofs.YtbbfibgijackhaaGreatDoor
