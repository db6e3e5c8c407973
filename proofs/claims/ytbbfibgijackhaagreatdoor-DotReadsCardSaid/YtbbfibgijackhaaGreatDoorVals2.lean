/-
  A drawn region by known values whose last operation waits for all the others, be it by way of another one. Nothing of the program is named here. Condition: what it asks.
-/
import Derived.Test.YtbbfibgijackhaaGreatDoorVals
namespace Go.Proofs.YtbbfibgijackhaaGreatDoor
open Go.RowKit

section
variable {P : Program} {ops : Array Oper} {Q : Exit → Act → World → Prop} {S : World → Prop} {wr : List (Option Nat)} {vals : List Value} {reads : List (List (Nat × Option Nat))} {a0 : Act}
theorem region_vals_lastT {rid n : Nat} {w : World} (wr : List (Option Nat)) (reads : List (List (Nat × Option Nat))) (dsts : List (Option Nat)) (vals : List Value) (S : World → Prop) (hm : P.follows .mixedOrders = true) (hok : okAll ops wr a0.tmps.size reads = true)
    (hF : (putAll dsts vals a0).tmps.toList = (List.range a0.tmps.size).map fun s => match wr.getD s none with | none => a0.eval (.tmp s) | some i => vals.getD i undef)
    (hn : ops.size = n + 1) (ol : Oper) (hol : ops[n]? = some ol) (hgl : ol.guard = none) (hwr : (wr.all fun x => x != some n) = true) (haft : ((List.range n).all fun i => aft ol i || (List.range n).any fun j => aft ol j && (match ops[j]? with | some oj => aft oj i | none => false)) = true) (hS : S w.drew)
    (hstep : ∀ i, i < n → VStep P S ops a0 vals reads i) (hend : ∀ a w, Hid (a = putAll dsts vals a0) → S w → Oper.wp P ol a w (fun a w => Q .normal a w) Q) : (Code.region rid ops true).wp P Q a0 w := by
  have hall : ∀ (L : Nat → Bool), (∀ e ∈ ol.after, Region.binds .any e = true → L e.on = true) → (∀ i o, ops[i]? = some o → L i = true → ∀ e ∈ o.after, Region.binds .any e = true → L e.on = true) → ∀ i, i < n → L i = true := fun L hd hcl i hi => by
    have h := List.all_eq_true.1 haft i (List.mem_range.2 hi)
    rw [Bool.or_eq_true] at h
    rcases h with h | h
    · obtain ⟨e, he, hb, rfl⟩ := aft_spec h
      exact hd e he hb
    · obtain ⟨j, -, h⟩ := List.any_eq_true.1 h
      rw [Bool.and_eq_true] at h
      obtain ⟨e, he, hb, rfl⟩ := aft_spec h.1
      have hj := hd e he hb
      have h2 := h.2
      cases ho : ops[e.on]? with
      | none => rw [ho] at h2; cases h2
      | some oj =>
        rw [ho] at h2
        obtain ⟨e2, he2, hb2, rfl⟩ := aft_spec h2
        exact hcl _ _ ho hj e2 he2 hb2
  refine region_inv0 hm (okAll_up hok) (fun L a w => (L n = false → InvV S ops wr vals a0 L a w) ∧ (L n = true → (∀ i, i < n → L i = true) ∧ Q .normal a w)) ⟨fun _ => vals_init hS, fun h => by cases h⟩ ?_ ?_
  · intro L a w i o hI ho hu hdep
    have hlt : i < n + 1 := by rw [← hn]; exact (Array.getElem?_eq_some_iff.1 ho).1
    by_cases hin : i = n
    · subst hin
      rw [hol] at ho
      injection ho with ho
      subst ho
      have hV := hI.1 hu
      have h1 := hall L hdep hV.closed
      have ha : a = putAll dsts vals a0 := vals_end hV (fun j s hws => by
        obtain ⟨oj, hoj, _⟩ := okAll_wr hok hws
        have hj : j < i + 1 := by rw [← hn]; exact (Array.getElem?_eq_some_iff.1 hoj).1
        have hne : j ≠ i := by
          rintro rfl
          have hmem : some j ∈ wr := by
            rw [List.getD_eq_getElem?_getD] at hws
            cases hg : wr[s]? with
            | none => rw [hg] at hws; cases hws
            | some x =>
              rw [hg] at hws
              simp only [Option.getD_some] at hws
              subst hws
              exact List.mem_of_getElem? hg
          have := List.all_eq_true.1 hwr _ hmem
          simp at this
        exact h1 j (by omega)) _ hF (putAll_defers dsts vals a0)
      unfold wpOp
      rw [hol]
      have hw : Region.wanted ol (yielded ops a.tmps) = true := by simp [Region.wanted, hgl]
      simp only [hw, if_true]
      refine .inl ?_
      refine Oper.wp_mono (fun a' w' h => ⟨fun hf => ?_, fun _ => ⟨fun j hj => ?_, h⟩⟩) (hend a w ha hV.s)
      · unfold upd at hf; simp at hf
      · unfold upd; rw [h1 j hj]; rfl
    · have hi : i < n := by omega
      have hLn : L n = false := by
        cases hL : L n with
        | false => rfl
        | true =>
          have := (hI.2 hL).1 i hi
          rw [hu] at this
          cases this
      refine vals_step hok (hI.1 hLn) ho hu hdep (hstep i hi) (fun a' w' h => ⟨fun _ => h, fun hf => ?_⟩)
      unfold upd at hf
      rw [hLn, Bool.false_or] at hf
      exact absurd (by simpa using hf : n = i) (fun e => hin e.symm)
  · intro L a w hI hd
    exact (hI.2 (hd n (by omega))).2
end

end Go.Proofs.YtbbfibgijackhaaGreatDoor
