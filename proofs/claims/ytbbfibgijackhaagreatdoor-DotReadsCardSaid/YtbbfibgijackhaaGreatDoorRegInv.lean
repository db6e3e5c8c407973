/-
  A region that draws its order of evaluation, by an invariant over which of its operations have been carried out: one step for each operation, whatever the order. Nothing of the program is named here. Condition: each operation waits for earlier ones alone.
-/
import Derived.WalkKit
import Derived.OwnWalkIn
import Derived.OrdersIn
namespace Go.Proofs.YtbbfibgijackhaaGreatDoor
open Go.RowKit

section
variable {F : Fence} {n : Nat} {P : Program} {ops : Array Oper} {Q : Exit → Act → World → Prop}

def bitsOf (listed : Array Bool) : Nat → Bool := fun i => listed.getD i false
def upd (L : Nat → Bool) (i : Nat) : Nat → Bool := fun j => L j || j == i

theorem bitsOf_set (listed : Array Bool) (i : Nat) (h : i < listed.size) : bitsOf (listed.setIfInBounds i true) = upd (bitsOf listed) i := by
  funext j
  unfold bitsOf upd
  by_cases hij : i = j
  · subst hij
    simp [h]
  · rw [getD_set_ne false hij]
    have : (j == i) = false := by rw [beq_eq_false_iff_ne]; exact fun e => hij e.symm
    rw [this, Bool.or_false]
theorem bits_done (listed : Array Bool) (hs : listed.size = ops.size) (hup : ∀ (i : Nat) (o : Oper), ops[i]? = some o → ∀ e ∈ o.after, Region.binds .any e = true → e.on < i) (hr : Region.ready .any ops listed = []) :
    ∀ i, i < ops.size → bitsOf listed i = true := by
  intro i
  induction i using Nat.strongRecOn with
  | ind i ih =>
    intro hi
    cases hb : bitsOf listed i with
    | true => rfl
    | false =>
      exfalso
      have ho : ops[i]? = some ops[i] := Array.getElem?_eq_getElem hi
      have hm : i ∈ Region.ready .any ops listed := by
        rw [mem_ready]
        refine ⟨?_, ops[i], ho, fun e he hb' => ?_⟩
        · unfold bitsOf at hb
          rw [Array.getD_eq_getD_getElem?, Array.getElem?_eq_getElem (by omega)] at hb ⊢
          exact hb
        · have hlt := hup i _ ho e he hb'
          exact ih e.on hlt (by omega)
      rw [hr] at hm
      cases hm
theorem countP_snoc (listed : Array Bool) (i : Nat) (h : i < listed.size) (hf : listed.getD i true = false) :
    (listed.setIfInBounds i true).toList.countP id = listed.toList.countP id + 1 := by
  rw [Array.toList_setIfInBounds, List.countP_set (by simpa using h)]
  have : listed.toList[i]'(by simpa using h) = false := by
    rw [Array.getD_eq_getD_getElem?, Array.getElem?_eq_getElem h] at hf
    simpa using hf
  rw [this]
  simp

theorem region_inv {rid : Nat} {a : Act} {w : World} (hm : P.follows .mixedOrders = true) (hup : ∀ (i : Nat) (o : Oper), ops[i]? = some o → ∀ e ∈ o.after, Region.binds .any e = true → e.on < i)
    (Inv : (Nat → Bool) → Act → World → Prop) (h0 : Inv (fun _ => false) a w.drew)
    (hstep : ∀ (L : Nat → Bool) (a : Act) (w : World) (i : Nat) (o : Oper), Inv L a w → ops[i]? = some o → L i = false → (∀ e ∈ o.after, Region.binds .any e = true → L e.on = true) → wpOpIn F n P ops Q i (Inv (upd L i)) a w)
    (hend : ∀ (L : Nat → Bool) (a : Act) (w : World), Inv L a w → (∀ i, i < ops.size → L i = true) → Q .normal a w) : (Code.region rid ops true).wpIn F n P Q a w := by
  have key : ∀ (fuel : Nat) (listed : Array Bool) (a : Act) (w : World), listed.size = ops.size → ops.size ≤ fuel + listed.toList.countP id → Inv (bitsOf listed) a w → wpAnyIn F n P .any ops Q fuel listed a w := by
    intro fuel
    induction fuel with
    | zero =>
      intro listed a w hs hc hi
      have hall : ∀ b ∈ listed.toList, b = true := by
        have h1 : listed.toList.countP id ≤ listed.toList.length := List.countP_le_length
        have h2 : listed.toList.length = listed.size := Array.length_toList
        have h3 : listed.toList.countP id = listed.toList.length := by omega
        intro b hb
        exact List.countP_eq_length.1 h3 b hb
      have hr : Region.ready .any ops listed = [] := by
        apply List.eq_nil_iff_forall_not_mem.2
        intro j hj
        have h1 := (mem_ready.1 hj).1
        rw [Array.getD_eq_getD_getElem?] at h1
        cases hg : listed[j]? with
        | none => rw [hg] at h1; cases h1
        | some b =>
          rw [hg] at h1
          have : b ∈ listed.toList := by simpa using Array.mem_of_getElem? hg
          rw [hall b this] at h1
          cases h1
      exact ⟨hr, hend _ a w hi (bits_done listed hs hup hr)⟩
    | succ fuel ih =>
      intro listed a w hs hc hi
      refine ⟨fun hr => hend _ a w hi (bits_done listed hs hup hr), fun i hr => ?_⟩
      obtain ⟨h1, o, ho, hall⟩ := mem_ready.1 hr
      have hlt : i < listed.size := by have := (Array.getElem?_eq_some_iff.1 ho).1; omega
      have hb : bitsOf listed i = false := by
        unfold bitsOf
        rw [Array.getD_eq_getD_getElem?, Array.getElem?_eq_getElem hlt] at h1 ⊢
        exact h1
      refine wpOpIn_mono (fun a' w' h => ih _ a' w' (by simpa using hs) ?_ ?_) (hstep _ a w i o hi ho hb hall)
      · rw [countP_snoc listed i hlt h1]; omega
      · rw [bitsOf_set listed i hlt]; exact h
  refine wpIn_region_any hm (key _ _ _ _ (by simp) (by omega) ?_)
  have : bitsOf (Array.replicate ops.size false) = fun _ => false := by
    funext i
    unfold bitsOf
    rw [Array.getD_eq_getD_getElem?, Array.getElem?_replicate]
    split <;> rfl
  rw [this]
  exact h0

/-- An operation that is neither a call of a Go function nor a defer statement, and yields a value. -/
theorem wpOpIn_value {i : Nat} {o : Oper} {a : Act} {w w' : World} {v : Value} {K : Act → World → Prop} (ho : ops[i]? = some o) (hg : o.guard = none) (hd : ∀ c, o.op ≠ .defer c) (hab : o.about P w a.eval = none)
    (hr : (execOp a.eval o).run P w = .ok (.value v) w') (hK : K (a.put o.dst v) w') : wpOpIn F n P ops Q i K a w := by
  unfold wpOpIn
  rw [ho]
  have hw : Region.wanted o (yielded ops a.tmps) = true := by simp [Region.wanted, hg]
  simp only [hw, if_true]
  refine ⟨fun f hf => (by rw [hab] at hf; cases hf), ?_⟩
  rw [Oper.semAt_plain F _ _ hd, hr]
  exact hK
theorem wpOpIn_skip {i : Nat} {o : Oper} {a : Act} {w w' : World} {K : Act → World → Prop} (ho : ops[i]? = some o) (hg : o.guard = none) (hd : ∀ c, o.op ≠ .defer c) (hab : o.about P w a.eval = none)
    (hr : (execOp a.eval o).run P w = .ok .skip w') (hK : K (a.put o.dst undef) w') : wpOpIn F n P ops Q i K a w := by
  unfold wpOpIn
  rw [ho]
  have hw : Region.wanted o (yielded ops a.tmps) = true := by simp [Region.wanted, hg]
  simp only [hw, if_true]
  refine ⟨fun f hf => (by rw [hab] at hf; cases hf), ?_⟩
  rw [Oper.semAt_plain F _ _ hd, hr]
  exact hK
theorem eval_put_same (a : Act) (d : Tmp) (v : Value) (h : d < a.tmps.size) : (a.put (some d) v).eval (.tmp d) = v := by
  simp [Act.put, Act.eval, h]
theorem eval_put_ne (a : Act) (d e : Tmp) (v : Value) (h : d ≠ e) : (a.put (some d) v).eval (.tmp e) = a.eval (.tmp e) := by
  simp [Act.put, Act.eval, Array.getElem?_setIfInBounds_ne h]
theorem size_put (a : Act) (d : Option Tmp) (v : Value) : (a.put d v).tmps.size = a.tmps.size := by
  cases d <;> simp [Act.put]
end

end Go.Proofs.YtbbfibgijackhaaGreatDoor
