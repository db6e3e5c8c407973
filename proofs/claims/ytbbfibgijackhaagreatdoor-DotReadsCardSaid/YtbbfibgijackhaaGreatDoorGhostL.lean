/-
  As region_ghost, but the last operation (which waits for all the others) is met at the frame that they leave. Nothing of the program is named here. Condition: what 'okAll' checks (closed).
-/
import Derived.Test.YtbbfibgijackhaaGreatDoorGhost
namespace Go.Proofs.YtbbfibgijackhaaGreatDoor
open Go.RowKit

section
variable {G : Type} {P : Program} {ops : Array Oper} {Q : Exit → Act → World → Prop} {a0 : Act}
theorem region_ghost_last {rid n : Nat} {w : World} {g0 : G} (wr : List (Option Nat)) (reads : List (List (Nat × Option Nat))) (dsts : List (Option Nat)) (vals : G → List Value) (marks : List Nat) (S : List Bool → G → World → Prop) (hm : P.follows .mixedOrders = true) (hok : okAll ops wr a0.tmps.size reads = true)
    (hF : ∀ g, (putAll dsts (vals g) a0).tmps.toList = (List.range a0.tmps.size).map fun s => match wr.getD s none with | none => a0.eval (.tmp s) | some i => (vals g).getD i undef)
    (hmk : (marks.all fun i => decide (i < n)) = true)
    (hn : ops.size = n + 1) (ol : Oper) (hol : ops[n]? = some ol) (hgl : ol.guard = none) (hwr : (wr.all fun x => x != some n) = true) (haft : ((List.range n).all fun i => aft ol i) = true)
    (hS : S (marks.map fun _ => false) g0 w.drew) (hstep : ∀ i, i < n → GStep P ops marks S vals reads a0 i) (hend : ∀ g a w, Hid (a = putAll dsts (vals g) a0) → S (marks.map fun _ => true) g w → Oper.wp P ol a w (fun a w => Q .normal a w) Q) : (Code.region rid ops true).wp P Q a0 w := by
  have hall : ∀ (L : Nat → Bool), (∀ e ∈ ol.after, Region.binds .any e = true → L e.on = true) → ∀ i, i < n → L i = true := fun L hd i hi => by
    obtain ⟨e, he, hb, rfl⟩ := aft_spec (List.all_eq_true.1 haft i (List.mem_range.2 hi))
    exact hd e he hb
  refine region_inv0 hm (okAll_up hok) (fun L a w => (L n = false → ∃ g, InvG S marks ops wr vals a0 L g a w) ∧ (L n = true → (∀ i, i < n → L i = true) ∧ Q .normal a w)) ⟨fun _ => ⟨g0, hS, rfl, rfl, fun i o _ h => (by cases h), fun s => ?_⟩, fun h => by cases h⟩ ?_ ?_
  · unfold curV
    split <;> simp
  · intro L a w i o hI ho hu hdep
    have hlt : i < n + 1 := by rw [← hn]; exact (Array.getElem?_eq_some_iff.1 ho).1
    by_cases hin : i = n
    · subst hin
      rw [hol] at ho
      injection ho with ho
      subst ho
      have h1 := hall L hdep
      obtain ⟨g, hV⟩ := hI.1 hu
      have ha : a = putAll dsts (vals g) a0 := ghost_end hV (fun j s hws => by
        obtain ⟨oj, hoj, _⟩ := okAll_wr hok hws
        have hj : j < i + 1 := by rw [← hn]; exact (Array.getElem?_eq_some_iff.1 hoj).1
        have hne : j ≠ i := by
          rintro rfl
          have hmem : some j ∈ wr := by
            rw [List.getD_eq_getElem?_getD] at hws
            cases hg : wr[s]? with
            | none => rw [hg] at hws; cases hws
            | some x =>
              rw [hg] at hws
              simp only [Option.getD_some] at hws
              subst hws
              exact List.mem_of_getElem? hg
          have := List.all_eq_true.1 hwr _ hmem
          simp at this
        exact h1 j (by omega)) _ (hF g) (putAll_defers dsts (vals g) a0)
      have hb : bitsAt marks L = marks.map fun _ => true := by
        unfold bitsAt
        apply List.map_congr_left
        intro j hj
        exact h1 j (of_decide_eq_true (List.all_eq_true.1 hmk j hj))
      have hs := hV.s
      rw [hb] at hs
      unfold wpOp
      rw [hol]
      have hw : Region.wanted ol (yielded ops a.tmps) = true := by simp [Region.wanted, hgl]
      simp only [hw, if_true]
      refine .inl ?_
      refine Oper.wp_mono (fun a' w' h => ⟨fun hf => ?_, fun _ => ⟨fun j hj => ?_, h⟩⟩) (hend g a w ha hs)
      · unfold upd at hf; simp at hf
      · unfold upd; rw [h1 j hj]; rfl
    · have hi : i < n := by omega
      have hLn : L n = false := by
        cases hL : L n with
        | false => rfl
        | true =>
          have := (hI.2 hL).1 i hi
          rw [hu] at this
          cases this
      obtain ⟨g, hV⟩ := hI.1 hLn
      refine ghost_step hok hV ho hu hdep (hstep i hi) (fun g' a' w' h => ⟨fun _ => ⟨g', h⟩, fun hf => ?_⟩)
      unfold upd at hf
      rw [hLn, Bool.false_or] at hf
      exact absurd (by simpa using hf : n = i) (fun e => hin e.symm)
  · intro L a w hI hd
    exact (hI.2 (hd n (by omega))).2
theorem GFrom.start {marks : List Nat} {S : List Bool → G → World → Prop} {vals : G → List Value} {reads : List (List (Nat × Option Nat))} {n : Nat} (h : GFrom P ops marks S vals reads a0 0 n) : ∀ i, i < n → GStep P ops marks S vals reads a0 i := fun i hi => h i (Nat.zero_le _) hi
/-- A designated operation that leaves no value (a store). -/
theorem GStep.storem {marks : List Nat} {S : List Bool → G → World → Prop} {vals : G → List Value} {reads : List (List (Nat × Option Nat))} {i : Nat} (o : Oper) (ho : ops[i]? = some o) (rd : List (Nat × Option Nat)) (hrd : reads.getD i [] = rd) (hu : ∀ g, (vals g).getD i undef = undef) (hg : ∀ g, match o.guard with | none => True | some (x, b) => (vals g).getD x undef = .bool b)
    (h : ∀ (L : Nat → Bool) (g : G) (ev : Operand → Value) (w : World), L i = false → (∀ j, aft o j = true → L j = true) → (∀ (j : Nat) (oj : Oper), ops[j]? = some oj → L j = true → ∀ k, aft oj k = true → L k = true) → S (bitsAt marks L) g w → EvOk ev → (∀ p ∈ rd, ev (.tmp p.1) = srcV a0 (vals g) p) →
      ∃ w', (execOp ev o).run P w = .ok .skip w' ∧ S (bitsAt marks (upd L i)) g w') : GStep P ops marks S vals reads a0 i := by
  intro o' L g w ho' hL hd hcl hS
  rw [ho] at ho'
  injection ho' with ho'
  subst ho' hrd
  refine .inl ⟨hg g, fun ev he hr => .inr (.inl ?_)⟩
  obtain ⟨w', h1, h2⟩ := h L g ev w hL hd hcl hS he hr
  exact ⟨g, w', h1, hu g, fun _ _ => rfl, h2⟩
end

end Go.Proofs.YtbbfibgijackhaaGreatDoor
