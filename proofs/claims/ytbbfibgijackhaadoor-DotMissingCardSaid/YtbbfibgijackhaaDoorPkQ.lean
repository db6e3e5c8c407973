/-
  Layer 3: the dots of a clock in their order; which are missing (plain). No condition but that clocks are right.
  A range over a function whose elements are made afresh while it runs: the iterator's contract says at its end what holds of the elements in the world that it leaves (the kit's own contract, SeqStopsK, says of the world only what the caller's invariant does); the loop's law over it. Nothing of the program is named here. Condition: what the contract and the invariants ask.
  Layer 3: the missing dots: the iterator, and Missing itself. Conditions: at most 100,000 runs a list.
  Layer 3: Missing, and the law's own some. Conditions: at most 1,000 runs a list; at most 100 dots asked for.
  Layer 3: the law's after; the reference's Right. Conditions: at most 1,000 runs.
-/
import Derived.Test.YtbbfibgijackhaaDoorPkY
import Derived.RangeFuncNested
import Derived.RangeFuncBound
import Derived.RangeFuncCalls
import Derived.RangeFuncLeaves
import Derived.Shelf.Abstract
import Derived.Shelf.RegionOpen
import Derived.OwnWalkIn
import Derived.TacticsInMore
import Derived.LoopNIn
import Derived.LoopIn
namespace Go.Proofs.YtbbfibgijackhaaDoor
open Go.RowKit

def dotsR (r : RunQ) : List DotQ := (List.range (r.2.2 - r.2.1 + 1).toNat).map fun (i : Nat) => ((r.1, r.2.1 + (i : Int)) : DotQ)
def dotsOf (c : List RunQ) : List DotQ := c.flatMap dotsR
def LtD (p q : DotQ) : Prop := p.1 < q.1 ∨ (p.1 = q.1 ∧ p.2 < q.2)
theorem ltD_irr (p : DotQ) : ¬ LtD p p := by unfold LtD; omega
theorem ltD_asym {p q : DotQ} (h : LtD p q) : ¬ LtD q p := by unfold LtD at *; omega
theorem dotsR_mem {r : RunQ} {x : DotQ} : x ∈ dotsR r ↔ In1 r x.1 x.2 := by
  obtain ⟨n, d⟩ := x
  unfold dotsR In1
  rw [List.mem_map]
  constructor
  · rintro ⟨i, hi, e⟩
    have hi := List.mem_range.1 hi
    injection e with e1 e2
    subst e1 e2
    refine ⟨rfl, ?_, ?_⟩ <;> dsimp only <;> omega
  · rintro ⟨h1, h2, h3⟩
    dsimp only at h1 h2 h3
    refine ⟨(d - r.2.1).toNat, List.mem_range.2 (by omega), ?_⟩
    rw [h1, show r.2.1 + (((d - r.2.1).toNat : Nat) : Int) = d by omega]
theorem dots_mem {c : List RunQ} {x : DotQ} : x ∈ dotsOf c ↔ InC c x.1 x.2 := by
  unfold dotsOf InC
  rw [List.mem_flatMap]
  exact ⟨fun ⟨r, hr, h⟩ => ⟨r, hr, dotsR_mem.1 h⟩, fun ⟨r, hr, h⟩ => ⟨r, hr, dotsR_mem.2 h⟩⟩
theorem dotsR_sort (r : RunQ) : (dotsR r).Pairwise LtD := by
  unfold dotsR
  rw [List.pairwise_map]
  refine List.Pairwise.imp (fun {a b} (h : a < b) => ?_) List.pairwise_lt_range
  exact .inr ⟨rfl, by show r.2.1 + (a : Int) < r.2.1 + (b : Int); omega⟩
theorem dots_sort {c : List RunQ} (h : Rt c) : (dotsOf c).Pairwise LtD := by
  unfold dotsOf
  rw [List.pairwise_flatMap]
  refine ⟨fun r _ => dotsR_sort r, List.Pairwise.imp (fun {a b} (g : Gap a b) x hx y hy => ?_) h.2⟩
  have h1 := dotsR_mem.1 hx
  have h2 := dotsR_mem.1 hy
  unfold Gap at g
  unfold In1 at h1 h2
  unfold LtD
  omega
theorem sort_ext : ∀ a b : List DotQ, a.Pairwise LtD → b.Pairwise LtD → (∀ x, x ∈ a ↔ x ∈ b) → a = b
  | [], [], _, _, _ => rfl
  | [], y :: b, _, _, h => by have := (h y).2 (by simp); simp at this
  | x :: a, [], _, _, h => by have := (h x).1 (by simp); simp at this
  | x :: a, y :: b, ha, hb, h => by
    obtain ⟨a1, a2⟩ := List.pairwise_cons.1 ha
    obtain ⟨b1, b2⟩ := List.pairwise_cons.1 hb
    have e : x = y := by
      rcases List.mem_cons.1 ((h x).1 (by simp)) with e | hx
      · exact e
      · rcases List.mem_cons.1 ((h y).2 (by simp)) with e | hy
        · exact e.symm
        · exact absurd (a1 y hy) (ltD_asym (b1 x hx))
    subst e
    rw [sort_ext a b a2 b2 fun z => ?_]
    constructor
    · intro hz
      rcases List.mem_cons.1 ((h z).1 (List.mem_cons_of_mem _ hz)) with e | hz'
      · subst e; exact absurd (a1 z hz) (ltD_irr z)
      · exact hz'
    · intro hz
      rcases List.mem_cons.1 ((h z).2 (List.mem_cons_of_mem _ hz)) with e | hz'
      · subst e; exact absurd (b1 z hz) (ltD_irr z)
      · exact hz'
/-- Has the clock not the dot? -/
def noD (a : List RunQ) (x : DotQ) : Bool := !withinB a (x.1, x.2, x.2)
theorem noD_in {a : List RunQ} {x : DotQ} : noD a x = true ↔ ¬ InC a x.1 x.2 := by
  unfold noD
  rw [Bool.not_eq_true', ← Bool.not_eq_true, withinB_in]
def missF (a b : List RunQ) : List DotQ := (dotsOf b).filter (noD a)
theorem miss_eq {a b : List RunQ} (ha : Rt a) (hb : Rt b) : dotsOf (lessC b a) = missF a b :=
  sort_ext _ _ (dots_sort (less_rt hb ha)) ((dots_sort hb).filter _) fun x => by
    unfold missF
    rw [dots_mem, less_in hb ha, List.mem_filter, dots_mem, noD_in]
theorem missF_snoc (a b : List RunQ) (k : Nat) (hk : k < b.length) : missF a (b.take (k + 1)) = missF a (b.take k) ++ (dotsR (runAt b k)).filter (noD a) := by
  unfold missF dotsOf
  rw [take_snocR b k hk, List.flatMap_append, List.filter_append, List.flatMap_singleton]
theorem missF_front (a b : List RunQ) (k : Nat) : missF a (b.take k) <+: missF a b := by
  unfold missF dotsOf
  have e : b.flatMap dotsR = (b.take k).flatMap dotsR ++ (b.drop k).flatMap dotsR := by rw [← List.flatMap_append, List.take_append_drop]
  rw [e, List.filter_append]
  exact List.prefix_append _ _
/-- Of a run: the missing dots below a number. -/
def belowX (a : List RunQ) (r : RunQ) (m : Int) : List DotQ := (dotsR r).filter fun x => noD a x && decide (x.2 < m)
theorem belowX_all (a : List RunQ) (r : RunQ) (m : Int) (h : r.2.2 < m) : belowX a r m = (dotsR r).filter (noD a) := by
  unfold belowX
  refine List.filter_congr fun x hx => ?_
  have := (dotsR_mem.1 hx).2.2
  rw [decide_eq_true (by omega), Bool.and_true]
theorem belowX_none (a : List RunQ) (r : RunQ) (m : Int) (h : ∀ d, r.2.1 ≤ d → d < m → InC a r.1 d) : belowX a r m = [] := by
  unfold belowX
  rw [List.filter_eq_nil_iff]
  intro x hx hb
  rw [Bool.and_eq_true, noD_in, decide_eq_true_iff] at hb
  have hm := dotsR_mem.1 hx
  exact hb.1 (by rw [← hm.1]; exact h x.2 hm.2.1 hb.2)
theorem belowX_step (a : List RunQ) (r : RunQ) (m m' : Int) (h0 : r.2.1 ≤ m) (h1 : m ≤ r.2.2) (hn : ¬ InC a r.1 m) (hm : m < m') (hb : ∀ d, m < d → d < m' → InC a r.1 d) : belowX a r m' = belowX a r m ++ [(r.1, m)] := by
  refine sort_ext _ _ ((dotsR_sort r).filter _) ?_ fun x => ?_
  · rw [List.pairwise_append]
    refine ⟨(dotsR_sort r).filter _, by simp, fun x hx y hy => ?_⟩
    have hy : y = (r.1, m) := by simpa using hy
    subst hy
    unfold belowX at hx
    obtain ⟨h2, h3⟩ := List.mem_filter.1 hx
    rw [Bool.and_eq_true, decide_eq_true_iff] at h3
    exact .inr ⟨(dotsR_mem.1 h2).1.symm, h3.2⟩
  · unfold belowX
    rw [List.mem_append, List.mem_filter, List.mem_filter, List.mem_singleton, Bool.and_eq_true, Bool.and_eq_true, decide_eq_true_iff, decide_eq_true_iff, noD_in]
    constructor
    · rintro ⟨h2, h3, h4⟩
      have hr := (dotsR_mem.1 h2)
      rcases Int.lt_trichotomy x.2 m with h | h | h
      · exact .inl ⟨h2, h3, h⟩
      · exact .inr (Prod.ext hr.1.symm h)
      · exact absurd (by rw [← hr.1]; exact hb x.2 h h4) h3
    · rintro (⟨h2, h3, h4⟩ | rfl)
      · exact ⟨h2, h3, by omega⟩
      · exact ⟨dotsR_mem.2 ⟨rfl, h0, h1⟩, hn, hm⟩
theorem belowX_at (a : List RunQ) (r : RunQ) (m : Int) (h0 : r.2.1 ≤ m) (h1 : m ≤ r.2.2) (hn : ¬ InC a r.1 m) : ((dotsR r).filter (noD a))[(belowX a r m).length]? = some (r.1, m) := by
  have e : (dotsR r).filter (noD a) = (belowX a r m ++ [(r.1, m)]) ++ (dotsR r).filter fun x => noD a x && decide (m < x.2) := by
    refine sort_ext _ _ ((dotsR_sort r).filter _) ?_ fun x => ?_
    · rw [List.pairwise_append]
      refine ⟨by rw [← belowX_step a r m (m + 1) h0 h1 hn (by omega) (fun d h h' => by omega)]; exact (dotsR_sort r).filter _, (dotsR_sort r).filter _, fun x hx y hy => ?_⟩
      obtain ⟨h2, h3⟩ := List.mem_filter.1 hy
      rw [Bool.and_eq_true, decide_eq_true_iff] at h3
      have hy1 := (dotsR_mem.1 h2).1
      rcases List.mem_append.1 hx with hx | hx
      · obtain ⟨h4, h5⟩ := List.mem_filter.1 hx
        rw [Bool.and_eq_true, decide_eq_true_iff] at h5
        exact .inr ⟨(dotsR_mem.1 h4).1.symm.trans hy1, by omega⟩
      · have hx : x = (r.1, m) := by simpa using hx
        subst hx
        exact .inr ⟨hy1, h3.2⟩
    · unfold belowX
      rw [List.mem_append, List.mem_append, List.mem_filter, List.mem_filter, List.mem_filter, List.mem_singleton, Bool.and_eq_true, Bool.and_eq_true, decide_eq_true_iff, decide_eq_true_iff, noD_in]
      constructor
      · rintro ⟨h2, h3⟩
        have hr := (dotsR_mem.1 h2)
        rcases Int.lt_trichotomy x.2 m with h | h | h
        · exact .inl (.inl ⟨h2, h3, h⟩)
        · exact .inl (.inr (Prod.ext hr.1.symm h))
        · exact .inr ⟨h2, h3, h⟩
      · rintro ((⟨h2, h3, _⟩ | rfl) | ⟨h2, h3, _⟩)
        · exact ⟨h2, h3⟩
        · exact ⟨dotsR_mem.2 ⟨rfl, h0, h1⟩, hn⟩
        · exact ⟨h2, h3⟩
  rw [e, List.getElem?_append_left (by rw [List.length_append, List.length_singleton]; omega), List.getElem?_append_right (Nat.le_refl _), Nat.sub_self]
  rfl
/-- The dot that the law looks at stands at its place among the missing ones. -/
theorem miss_at {a b : List RunQ} {k : Nat} (hk : k < b.length) {m : Int} (h0 : (runAt b k).2.1 ≤ m) (h1 : m ≤ (runAt b k).2.2) (hn : ¬ InC a (runAt b k).1 m) :
    (missF a b)[(missF a (b.take k)).length + (belowX a (runAt b k) m).length]? = some ((runAt b k).1, m) := by
  obtain ⟨t, ht⟩ := missF_front a b (k + 1)
  rw [missF_snoc a b k hk] at ht
  have h2 := belowX_at a (runAt b k) m h0 h1 hn
  have h3 := (List.getElem?_eq_some_iff.1 h2).1
  rw [← ht, List.getElem?_append_left (by rw [List.length_append]; omega), List.getElem?_append_right (by omega), Nat.add_sub_cancel_left]
  exact h2
theorem belowX_le (a : List RunQ) (r : RunQ) (m : Int) : (belowX a r m).length ≤ ((dotsR r).filter (noD a)).length := by
  have e : belowX a r m = ((dotsR r).filter (noD a)).filter fun x => decide (x.2 < m) := by
    unfold belowX
    rw [List.filter_filter]
    refine List.filter_congr fun x _ => ?_
    rw [Bool.and_comm]
  rw [e]
  exact List.length_filter_le _ _

end Go.Proofs.YtbbfibgijackhaaDoor

namespace Go.Proofs.YtbbfibgijackhaaDoor
open Go.RowKit

variable {F : Fence} {n : Nat} {P : Program}
def SeqW {α : Type} (F : Fence) (n : Nat) (P : Program) (g : Nat) (lb : Array Value) (encs : α → Array Value) (K : World → World → Prop) (S Sp : List α → World → Prop) (N : Nat) (w : World) : Prop :=
  ∀ (l : Nat) (J Jx : List α → World → Prop) (W : World), Below w.heap.size w W → AbidesFrom W.heap.size J → AbidesFrom W.heap.size Jx →
    (∀ pre x W1, J pre W1 → pre.length < N → YieldAt F (n - 1) P l (encs x) W1 fun e W' =>
      K W1 W' ∧ ((e = .returned (.bool true) ∧ J (pre ++ [x]) W') ∨ (e = .returned (.bool false) ∧ Jx (pre ++ [x]) W'))) →
    J [] W → CallsIn F n P g (#[.func (.yield l) #[] #[]] ++ lb) W fun e W' => (∃ v, e = .returned v) ∧ ((∃ xs, S xs W' ∧ J xs W') ∨ (∃ pre, Sp pre W' ∧ Jx pre W'))
/-- How a round's body is left: in whatever way, it has kept its word. -/
def leftW {α : Type} (B : Nat) (K : World → World → Prop) (I : List α → World → Prop) (Ix : Code → List α → World → Prop) (xs : List α) (W : World) : Exit → Act → World → Prop
  | .normal, _, W' => KeepsFrom B W W' ∧ K W W' ∧ I xs W'
  | .ret, _, W' => KeepsFrom B W W' ∧ K W W' ∧ Ix .ret xs W'
  | .exit id, _, W' => KeepsFrom B W W' ∧ K W W' ∧ Ix (.exit id) xs W'
  | .goto t, _, W' => KeepsFrom B W W' ∧ K W W' ∧ Ix (.goto t) xs W'
  | .panic _, _, _ => False
  | .outgrown, _, _ => False
/-- The loop's two blocks: the rounds' deferred calls (none) and its record. -/
structure BookW (B : Nat) (o : Loop) (W : World) : Prop where
  calls : W.heap[B]? = some (.deferred (some []))
  rec' : W.heap[B + 1]? = some (.loop o)
theorem BookW.lt {B : Nat} {o : Loop} {W : World} (h : BookW B o W) : B + 1 < W.heap.size := (Array.getElem?_eq_some_iff.1 h.rec').1
theorem BookW.from {B : Nat} {o : Loop} {W W' : World} (h : BookW B o W) (k : KeepsFrom B W W') : BookW B o W' := ⟨k.same _ _ (Nat.le_refl _) h.calls rfl, k.same _ _ (by omega) h.rec' rfl⟩
theorem BookW.put {B : Nat} {o : Loop} {W : World} (h : BookW B o W) (o' : Loop) : BookW B o' (W.putObj (B + 1) (.loop o')) := ⟨(World.putObj_heap_other (by omega)).trans h.calls, World.putObj_heap_same h.lt⟩
theorem BookW.abides {B : Nat} {o : Loop} {W W' : World} {row : Option Nat} (h : BookW B o W) (g : W.grownBy W' row) (hr : ∀ r, row = some r → ∃ q : Obj, W.heap[r]? = some q ∧ q.isWalk = true) : BookW B o W' :=
  ⟨(grownBy_keeps g hr h.calls rfl).trans h.calls, (grownBy_keeps g hr h.rec' rfl).trans h.rec'⟩

set_option maxHeartbeats 400000 in
theorem wpIn_rangeW {α : Type} {g : Operand} {ps : Array Tmp} {assign body : Code} {Q : Exit → Act → World → Prop} {a : Act} {w : World}
    (hro : F.round = none) (h1 : 1 ≤ n) {gf : Nat} {lb : Array Value} (hg : a.eval g = .func (.func gf) #[] lb) (hFg : F.fn gf) (eg : ∀ args w, (callFunc gf args).run P w = .ok (.enter gf args) w)
    {encs : α → Array Value} {K : World → World → Prop} {S Sp : List α → World → Prop} {N : Nat} {w0 : World} (hseq : SeqW F (n - 1) P gf lb encs K S Sp N w0)
    (hKt : ∀ {A B C : World}, K A B → K B C → K A C) (hKb : ∀ (W : World) (l : Nat) (o o' : Obj), w.heap.size ≤ l → W.heap[l]? = some o → o.isCells = false → K W (W.putObj l o'))
    (hSb : ∀ xs, OwnFrom w.heap.size (fun (_ : Unit) W => S xs W)) (hSp : ∀ xs, OwnFrom w.heap.size (fun (_ : Unit) W => Sp xs W)) (hb0 : Below w0.heap.size w0 w) (hps : ∀ x, (encs x).size = ps.size)
    (I : List α → World → Prop) (Ix : Code → List α → World → Prop) (hI : OwnFrom w.heap.size I) (hIx : ∀ c, OwnFrom w.heap.size (Ix c)) (h0 : I [] w) (Ax : α → Act → World → Prop) (hAx : ∀ x a', OwnFrom w.heap.size (fun (_ : Unit) W => Ax x a' W))
    (hassign : ∀ (l : Nat) (pre : List α) (x : α) (W : World) (R : Act → World → Prop), I pre W → (∀ a' W', KeepsFrom w.heap.size W W' → K W W' → I pre W' → Ax x a' W' → R a' W') →
      assign.wpIn (F.inRound l) (n - 1 - 1) P (Exit.then R (fun _ _ _ => False)) { tmps := (ps.zip (encs x)).foldl (fun t (p, v) => t.setIfInBounds p v) a.tmps, defers := [] } W)
    (hbody : ∀ (l : Nat) (pre : List α) (x : α) (a' : Act) (W : World), I pre W → Ax x a' W → pre.length < N → body.wpIn (F.inRound l) (n - 1 - 1) P (leftW w.heap.size K I Ix (pre ++ [x]) W) a' W)
    (hdone : ∀ (D : Nat) (xs : List α) (W : World), w.heap.size ≤ D → S xs W → I xs W → W.heap[D]? = some (.deferred (some [])) → Q .normal { a with defers := { target := .collected D, args := #[] } :: a.defers } W)
    (hstop : ∀ (D : Nat) (c : Code) (pre : List α) (W : World), w.heap.size ≤ D → Sp pre W → Ix c pre W → W.heap[D]? = some (.deferred (some [])) → c.wpIn F n P Q { a with defers := { target := .collected D, args := #[] } :: a.defers } W) :
    (Code.rangeFunc g ps assign body).wpIn F n P Q a w := by
  refine wpIn_rangeFunc fun fn hfn => ?_
  rw [hro]
  obtain ⟨o, ho⟩ : ∃ o : LoopState → Option Code → Loop, o = fun st pe => { state := st, pending := pe, fn, tmps := a.tmps, params := ps, assign, body, defers := w.heap.size } := ⟨_, rfl⟩
  obtain ⟨W1, hW1⟩ : ∃ W1, W1 = (w.alloc (.deferred (some []))).alloc (.loop (o .ready none)) := ⟨_, rfl⟩
  have eB : ({ o .ready none with state := .busy } : Loop) = o .busy none := by rw [ho]
  have eR : ∀ jump : Option Code, ({ o .busy none with state := if jump.isNone then .ready else .done, pending := jump } : Loop) = o (if jump.isNone then .ready else .done) jump := fun jump => by rw [ho]
  have eY : (o .ready none).fn = fn ∧ (o .ready none).params = ps ∧ (o .ready none).tmps = a.tmps ∧ (o .ready none).assign = assign ∧ (o .ready none).body = body := by rw [ho]; exact ⟨rfl, rfl, rfl, rfl, rfl⟩
  have eS : ∀ st pe, (o st pe).state = st ∧ (o st pe).pending = pe := fun st pe => by rw [ho]; exact ⟨rfl, rfl⟩
  have bk : BookW w.heap.size (o .ready none) W1 := by
    rw [hW1]
    constructor
    · exact (Below.heap_alloc _ _ _ (by simp)).trans (World.alloc_heap_new w _)
    · have h := World.alloc_heap_new (w.alloc (.deferred (some []))) (.loop (o .ready none))
      rw [World.size_alloc] at h
      exact h
  have low : Below w0.heap.size w0 W1 := by rw [hW1]; exact hb0.trans ((((Below.refl _ w).alloc (Nat.le_refl _) _).alloc (by simp) _).mono hb0.size)
  have sz : w.heap.size + 2 = W1.heap.size := by rw [hW1]; simp
  have far : ∀ {A : World} {row : Option Nat}, (∀ r, row = some r → W1.heap.size ≤ r ∧ ∃ q : Obj, A.heap[r]? = some q ∧ q.isWalk = true) → (∀ r, row = some r → w.heap.size ≤ r ∧ ∃ q : Obj, A.heap[r]? = some q ∧ q.isCells = false) := fun hr r e => by
    obtain ⟨h, q, hq, hw⟩ := hr r e
    exact ⟨by omega, q, hq, Obj.not_cells_of_walk hw⟩
  have round : ∀ (pre : List α) (x : α) (W : World), (I pre W ∧ BookW w.heap.size (o .ready none) W) → pre.length < N → YieldAt F (n - 1 - 1) P (w.heap.size + 1) (encs x) W fun e W' =>
      K W W' ∧ ((e = .returned (.bool true) ∧ (I (pre ++ [x]) W' ∧ BookW w.heap.size (o .ready none) W')) ∨ (e = .returned (.bool false) ∧ ∃ c, Ix c (pre ++ [x]) W' ∧ BookW w.heap.size (o .done (some c)) W')) := by
    intro pre x W hi hlen
    obtain ⟨hi, b⟩ := hi
    have hy := run_yield (P := P) (args := encs x) b.rec' (by rw [eY.2.1]; exact hps x)
    rw [eY.1, eY.2.1, eY.2.2.1, eY.2.2.2.1, eY.2.2.2.2] at hy
    refine ⟨fn, _, assign, body, hy, roundIn_of_wpIn hfn (hassign _ pre x W _ hi fun a' Wa ka kk hia hax => ?_)⟩
    have ba := b.from ka
    have bb := ba.put (o .busy none)
    have hbr := run_beginRound (P := P) ba.rec' (eS _ _).1
    rw [eB] at hbr
    refine ⟨_, hbr, ?_⟩
    have k2 : K W (Wa.putObj (w.heap.size + 1) (.loop (o .busy none))) := hKt kk (hKb _ _ _ _ (by omega) ba.rec' rfl)
    have key : ∀ (jump : Option Code) (W3 : World), KeepsFrom w.heap.size (Wa.putObj (w.heap.size + 1) (.loop (o .busy none))) W3 → K (Wa.putObj (w.heap.size + 1) (.loop (o .busy none))) W3 →
        BookW w.heap.size (o .busy none) W3 ∧ (Instr.endRound (w.heap.size + 1) jump).run P W3 = .ok (.bool jump.isNone) (W3.putObj (w.heap.size + 1) (.loop (o (if jump.isNone then .ready else .done) jump))) ∧
        BookW w.heap.size (o (if jump.isNone then .ready else .done) jump) (W3.putObj (w.heap.size + 1) (.loop (o (if jump.isNone then .ready else .done) jump))) ∧ K W (W3.putObj (w.heap.size + 1) (.loop (o (if jump.isNone then .ready else .done) jump))) := fun jump W3 h3 h4 => by
      have b3 := bb.from h3
      have her := run_endRound (P := P) jump b3.rec'
      rw [eR] at her
      exact ⟨b3, her, b3.put _, hKt (hKt k2 h4) (hKb _ _ _ _ (by omega) b3.rec' rfl)⟩
    refine wpIn_mono (hbody _ pre x a' _ (hI.putObj _ hia (by omega) ba.rec' rfl) ((hAx x a').putObj (s := ()) _ hax (by omega) ba.rec' rfl) hlen) fun e a3 W3 left => ?_
    cases e with
    | normal =>
      obtain ⟨h3, h4, hi3⟩ := left
      obtain ⟨b3, hr, b4, k4⟩ := key none W3 h3 h4
      exact ⟨_, _, hr, k4, .inl ⟨rfl, hI.putObj _ hi3 (by omega) b3.rec' rfl, b4⟩⟩
    | ret =>
      obtain ⟨h3, h4, hi3⟩ := left
      obtain ⟨b3, hr, b4, k4⟩ := key (some .ret) W3 h3 h4
      exact ⟨_, _, hr, k4, .inr ⟨rfl, .ret, (hIx _).putObj _ hi3 (by omega) b3.rec' rfl, b4⟩⟩
    | exit id =>
      obtain ⟨h3, h4, hi3⟩ := left
      obtain ⟨b3, hr, b4, k4⟩ := key (some (.exit id)) W3 h3 h4
      exact ⟨_, _, hr, k4, .inr ⟨rfl, .exit id, (hIx _).putObj _ hi3 (by omega) b3.rec' rfl, b4⟩⟩
    | goto t =>
      obtain ⟨h3, h4, hi3⟩ := left
      obtain ⟨b3, hr, b4, k4⟩ := key (some (.goto t)) W3 h3 h4
      exact ⟨_, _, hr, k4, .inr ⟨rfl, .goto t, (hIx _).putObj _ hi3 (by omega) b3.rec' rfl, b4⟩⟩
    | panic ch => exact left.elim
    | outgrown => exact left.elim
  have call := hseq (w.heap.size + 1) (fun pre W => I pre W ∧ BookW w.heap.size (o .ready none) W) (fun pre W => ∃ c, Ix c pre W ∧ BookW w.heap.size (o .done (some c)) W) W1 low
    (fun s A C row hs gr hr => ⟨hI s A C row hs.1 gr (far hr), hs.2.abides gr fun r e => (hr r e).2⟩)
    (fun s A C row hs gr hr => by obtain ⟨c, h, b⟩ := hs; exact ⟨c, hIx c s A C row h gr (far hr), b.abides gr fun r e => (hr r e).2⟩)
    round ⟨by rw [hW1]; exact hI.alloc _ (hI.alloc _ h0), bk⟩
  have hen := run_enterLoop_outer (P := P) (w := w) fn a.tmps ps assign body
  rw [show ({ state := .ready, pending := none, fn, tmps := a.tmps, params := ps, assign, body, defers := w.heap.size } : Loop) = o .ready none from by rw [ho], ← hW1] at hen
  refine ⟨w.heap.size + 1, [{ target := .collected w.heap.size, args := #[] }], W1, { target := .fn (.func gf) lb, args := #[.func (.yield (w.heap.size + 1)) #[] #[]] }, W1, gf, #[.func (.yield (w.heap.size + 1)) #[] #[]] ++ lb, W1,
    hen, ?_, ?_, ?_, fun _ => h1, ?_⟩
  · simp only [resolve, hg]
    simp [go_sem]
  · intro f' hf'
    simp [Target.leads] at hf'
    subst hf'
    exact hFg
  · simp [invoke, go_sem, eg]
  · refine call.mono ?_
    rintro e W2 ⟨⟨v, rfl⟩, (⟨xs, hS, hi, b⟩ | ⟨pre, hS, c, hi, b⟩)⟩
    · have hel := run_endLoop (P := P) b.rec' (by rw [(eS _ _).1]; simp)
      rw [(eS _ _).2] at hel
      exact ⟨none, _, hel, hdone _ xs _ (by omega) ((hSb xs).putObj (s := ()) _ hS (by omega) b.rec' rfl) (hI.putObj _ hi (by omega) b.rec' rfl) (b.put _).calls⟩
    · have hel := run_endLoop (P := P) b.rec' (by rw [(eS _ _).1]; simp)
      rw [(eS _ _).2] at hel
      exact ⟨some c, _, hel, hstop _ c pre _ (by omega) ((hSp pre).putObj (s := ()) _ hS (by omega) b.rec' rfl) ((hIx c).putObj _ hi (by omega) b.rec' rfl) (b.put _).calls⟩

end Go.Proofs.YtbbfibgijackhaaDoor

namespace Go.Proofs.YtbbfibgijackhaaDoor
open Go.RowKit Go.Shelf
attribute [local go_sem] Oper.semAt_some

section
variable {F : Fence} {n : Nat} {P : Program} {w w' : World} {ops : Array Oper} {rest : List Oper} {o : Oper} {a : Act} {Q : Exit → Act → World → Prop}
theorem wpListIn_valL (hw : Region.wanted o (yielded ops a.tmps) = true) (hd : ∀ c, o.op ≠ .defer c) (ha : o.about P w a.eval = none) (v : Value) (hl : (execOp a.eval o).run P w = .ok (.value v) w)
    (hK : wpListIn F n P ops Q rest (a.put o.dst v) w) : wpListIn F n P ops Q (o :: rest) a w := by
  refine wpListIn_step fun K hK' => ?_
  rw [if_pos hw]
  unfold Oper.wpIn
  refine ⟨?_, ?_⟩
  · intro f hf; rw [ha] at hf; cases hf
  · rw [Oper.semAt_plain F _ _ hd]
    rw [hl]
    exact hK' _ _ hK
theorem wpListIn_loadL (hw : Region.wanted o (yielded ops a.tmps) = true) (T : TypeId) (x : Operand) (hop : o.op = .load T x) {p : Addr} (hx : a.eval x = .pointer (some p)) {v : Value} (hl : (Instr.loadAt T (.pointer (some p))).run P w = .ok v w)
    (hK : wpListIn F n P ops Q rest (a.put o.dst v) w) : wpListIn F n P ops Q (o :: rest) a w := by
  refine wpListIn_step fun K hK' => ?_
  rw [if_pos hw]
  unfold Oper.wpIn
  refine ⟨?_, ?_⟩
  · simp [Oper.about, hop]
  · rw [Oper.semAt_plain F _ _ (by rw [hop]; intro c hc'; cases hc')]
    simp only [execOp, hop, hx, Sem.run_bind, Sem.run_pure, Result.andThen_ok, hl]
    exact hK' _ _ hK
theorem wpListIn_storeL (hg : o.guard = none) (T : TypeId) (x y : Operand) (hop : o.op = .store T x y) {p : Addr} (hx : a.eval x = .pointer (some p)) {v : Value} (hy : a.eval y = v) (hl : (Instr.storeAt T (.pointer (some p)) v).run P w = .ok () w')
    (hK : wpListIn F n P ops Q rest (a.put o.dst undef) w') : wpListIn F n P ops Q (o :: rest) a w := by
  refine wpListIn_plain hg fun K hK' => ?_
  unfold Oper.wpIn
  refine ⟨?_, ?_⟩
  · simp [Oper.about, hop]
  · rw [Oper.semAt_plain F _ _ (by rw [hop]; intro c hc'; cases hc')]
    simp only [execOp, hop, hx, hy, Sem.run_bind, Sem.run_pure, Result.andThen_ok, hl]
    exact hK' _ _ hK
theorem wpListIn_stepL (hg : o.guard = none) (v : Value) (w' : World) (hd : ∀ c, o.op ≠ .defer c) (ha : o.about P w a.eval = none) (hl : (execOp a.eval o).run P w = .ok (.value v) w')
    (hK : wpListIn F n P ops Q rest (a.put o.dst v) w') : wpListIn F n P ops Q (o :: rest) a w := by
  refine wpListIn_plain hg fun K hK' => ?_
  unfold Oper.wpIn
  refine ⟨?_, ?_⟩
  · intro f hf; rw [ha] at hf; cases hf
  · rw [Oper.semAt_plain F _ _ hd]
    rw [hl]
    exact hK' _ _ hK
theorem wpIn_store_at {op : Oper} {K : Act → World → Prop} (T : TypeId) (x y : Operand) (ho : op.op = .store T x y) {p : Addr} {v : Value}
    (hx : a.eval x = .pointer (some p)) (hy : a.eval y = v) (hl : (Instr.storeAt T (.pointer (some p)) v).run P w = .ok () w') (h : K (a.put op.dst undef) w') : op.wpIn F n P a w K Q := by
  unfold Oper.wpIn
  refine ⟨?_, ?_⟩
  · simp [Oper.about, ho]
  · rw [Oper.semAt_plain F _ _ (by rw [ho]; intro c hc'; cases hc')]
    simp only [execOp, ho, hx, hy, Sem.run_bind, Sem.run_pure, Result.andThen_ok, hl]
    exact h
end
/-- A scope through which the run goes without a goto, outside of a round. -/
theorem wide_scope {P : Program} {n : Nat} {Q : Exit → Act → World → Prop} {a : Act} {w : World} {c : Code} (h : c.wpIn Fence.wide n P (Exit.noGoto Q) a w) : (Code.scope c).wpIn Fence.wide n P Q a w := wpIn_wide.2 (wp_scope_straight (wpIn_wide.1 h))


/-- What is kept: the blocks of S, and all blocks of runs. -/
def KrS (S : Nat → Prop) (W W' : World) : Prop := (W.heap.size ≤ W'.heap.size ∧ ∀ b, S b → W'.heap[b]? = W.heap[b]?) ∧ ∀ (b : Nat) (cs : Array Value) (fr : Nat × Nat), W.heap[b]? = some (Obj.cells cs 33 fr) → W'.heap[b]? = some (Obj.cells cs 33 fr)
theorem KrS.refl (S : Nat → Prop) (W : World) : KrS S W W := ⟨⟨Nat.le_refl _, fun _ _ => rfl⟩, fun _ _ _ h => h⟩
theorem KrS.trans {S : Nat → Prop} {A B C : World} (h : KrS S A B) (k : KrS S B C) : KrS S A C := ⟨⟨Nat.le_trans h.1.1 k.1.1, fun b hb => (k.1.2 b hb).trans (h.1.2 b hb)⟩, fun b cs fr e => k.2 b cs fr (h.2 b cs fr e)⟩
theorem KrS.nb {S : Nat → Prop} {W W' : World} (h : ∀ b, S b → b < W.heap.size) (k : Kp Nb W W') : KrS S W W' := ⟨⟨k.size, fun b hb => k.heap (h b hb) (fun h => h)⟩, fun _ _ _ e => (k.heap (Array.getElem?_eq_some_iff.1 e).1 (fun h => h)).trans e⟩
theorem cl_kr {S : Nat → Prop} {W W' : World} {v : Value} {c : List RunQ} (h : ClSl W v c) (hS : ∀ g, v.ownBlock = some g → S g) (k : KrS S W W') : ClSl W' v c := by
  refine ⟨h.1, ?_⟩
  rcases h.2 with h2 | ⟨blk, off, cap, rfl, hc, hm, hr⟩
  · exact .inl h2
  · exact .inr ⟨blk, off, cap, rfl, hc, hm, fun i hi j u hu => (World.cell?_of_block (k.1.2 blk (hS blk rfl))).trans (hr i hi j u hu)⟩
theorem blk_kr {S : Nat → Prop} {W W' : World} {B : Nat} {vs : List Value} (h : Blk W B 33 vs) (k : KrS S W W') : Blk W' B 33 vs := k.2 _ _ _ h
theorem dotsR_len {r : RunQ} (h : goodR r = true) : ((dotsR r).length : Int) = r.2.2 - r.2.1 + 1 := by
  have g := goodR_of.1 h
  unfold dotsR
  rw [List.length_map, List.length_range]
  omega
theorem dotsR_take (r : RunQ) (i : Nat) (hi : i < (dotsR r).length) : (dotsR r).take (i + 1) = (dotsR r).take i ++ [(r.1, r.2.1 + (i : Int))] := by
  have h : (dotsR r)[i]? = some (r.1, r.2.1 + (i : Int)) := by
    unfold dotsR at hi ⊢
    rw [List.length_map, List.length_range] at hi
    rw [List.getElem?_map, List.getElem?_range hi]
    rfl
  rw [List.take_succ_eq_append_getElem hi, (List.getElem_eq_iff hi).2 h]
theorem dotsOf_snoc (c : List RunQ) (k : Nat) (hk : k < c.length) : dotsOf (c.take (k + 1)) = dotsOf (c.take k) ++ dotsR (runAt c k) := by
  unfold dotsOf
  rw [take_snocR c k hk, List.flatMap_append, List.flatMap_singleton]
theorem dotsOf_front (c : List RunQ) (k i : Nat) (hk : k < c.length) : dotsOf (c.take k) ++ (dotsR (runAt c k)).take i <+: dotsOf c := by
  have e : dotsOf c = dotsOf (c.take (k + 1)) ++ dotsOf (c.drop (k + 1)) := by
    unfold dotsOf
    rw [← List.flatMap_append, List.take_append_drop]
  rw [e, dotsOf_snoc c k hk, List.append_assoc]
  exact (List.prefix_append_right_inj _).2 ((List.take_prefix _ _).trans (List.prefix_append _ _))
theorem run_store (q : RunQ) {w : World} {B : Nat} (h : w.there B 0 (runL q).toArray.size) : (Instr.storeAt 33 (.pointer (some ⟨B, 0, none⟩)) (runV q)).run Tryd.prog w = .ok () (w.setCells B 0 (runL q)) := by
  obtain ⟨fs, hu⟩ := under_run
  have := run_storeAt_mid w B 0 33 (runL q).toArray h (run_infoA q) (run_one q)
  exact this
set_option maxRecDepth 100000 in
set_option maxHeartbeats 4000000 in
theorem missing1_in (m : Nat) (hm : 1 ≤ m) (l Bk : Nat) (v : Value) (c : List RunQ) (hg : ∀ r ∈ c, goodR r = true) (hl : c.length ≤ 100000) (S : Nat → Prop) (J Jx : List DotQ → World → Prop)
    (hJ : ∀ pre W W', J pre W → Kp Nb W W' → J pre W')
    (hY : ∀ (pre : List DotQ) (x : DotQ) (W : World), J pre W → pre.length < (dotsOf c).length → YieldAt Fence.wide (m - 1) Tryd.prog l #[.agg #[.int .i64 x.1, .int .i64 x.2]] W fun r W' =>
      KrS S W W' ∧ ((r = .returned (.bool true) ∧ J (pre ++ [x]) W') ∨ (r = .returned (.bool false) ∧ Jx (pre ++ [x]) W')))
    (W : World) (b1 : Boxed W Bk 23 v) (hS : ∀ b, S b → b < W.heap.size) (ha : ClSl W v c) (hav : ∀ g, v.ownBlock = some g → S g) (h0 : J [] W) :
    CallsIn Fence.wide m Tryd.prog 47 #[.func (.yield l) #[] #[], .pointer (some ⟨Bk, 0, none⟩)] W fun r W' => (∃ v, r = .returned v) ∧
      ((∃ es, es = dotsOf c ∧ J es W') ∨ (∃ pre, pre <+: dotsOf c ∧ Jx pre W')) := by
  have HY := hid hY
  have HJK := hid hJ
  have HJ := hid h0
  have HS := hid hS
  have HG := hid hg
  have HAV := hid hav
  obtain ⟨pv, dv, rfl⟩ := ha.shape
  obtain ⟨L, hL⟩ : ∃ L, c.length = L := ⟨_, rfl⟩
  have HLE := hid hL
  rw [hL] at ha hav b1 hl HAV
  have HA := hid ha
  have HLB := hid hl
  have c1 := b1.cell
  clear hY hJ h0 hS hg ha hav hL hl b1
  refine callsIn_of_wp Tryd.func47 rfl trivial ?_ rfl
  simp only [Tryd.ntmps47, List.size_toArray, List.length_cons, List.length_nil, Nat.reduceAdd, Nat.reduceSub, Array.replicate_succ, Array.replicate_zero, List.push_toArray, List.append_toArray, List.nil_append, List.cons_append]
  refine wide_scope ?_
  gi_wp2
  refine wpIn_label ?_
  gi_wp2
  clear c1
  gi_loopw [8] (fun i wr => ∃ k : Nat, k ≤ L ∧ i = .int .i64 k ∧ Hid (J (dotsOf (c.take k)) wr) ∧ Hid (KrS S W wr)) (fun i _ => L - (intOf i).toNat)
  case atStart => exact ⟨0, Nat.zero_le _, rfl, HJ, hid (KrS.refl _ _)⟩
  case round =>
    obtain ⟨k, hk, rfl, hJk, hK⟩ := hrel
    by_cases hlt : k < L
    · obtain ⟨blk, off, cap, e1, hc, hm2, hcell⟩ := cl_shape (cl_kr HA.out HAV.out hK.out) (by intro h; have := HLE.out; rw [h, List.length_nil] at this; omega)
      rw [HLE.out] at e1 hc hcell
      injection e1 with e1 _ e2
      subst e1 e2
      have HR := hid (hcell k hlt)
      obtain ⟨⟨qn, qf, qt⟩, hq⟩ : ∃ q, runAt c k = q := ⟨_, rfl⟩
      have hgk := HG.out _ (runAt_mem (c := c) (i := k) (by rw [HLE.out]; exact hlt))
      rw [hq] at HR hgk
      have HQ := hid hq
      have HGK := hid hgk
      have gg := goodR_of.1 hgk
      obtain ⟨M, hM⟩ : ∃ M, wr.heap.size = M := ⟨_, rfl⟩
      obtain ⟨W2, hW2⟩ : ∃ W, W = wr.alloc (.cells #[.int .i64 qn, .int .i64 qf, .int .i64 qt] 33) := ⟨_, rfl⟩
      have KW : Hid (Kp Nb wr W2) := hid (by rw [hW2]; exact (Kp.refl Nb wr).alloc _)
      have HZ : Hid (Blk W2 M 33 (runL (qn, qf, qt))) := hid (by rw [hW2, ← hM]; exact Blk.new wr 33 (runL (qn, qf, qt)))
      have HL0 := hid (load_run HR.out)
      have J2 := hid (HJK.out _ _ _ hJk.out KW.out)
      have K2 : Hid (KrS S W W2) := hid (hK.out.trans (KrS.nb (fun b hb => Nat.lt_of_lt_of_le (HS.out b hb) hK.out.1.1) KW.out))
      obtain ⟨nR, hnR⟩ : ∃ n, (dotsR (qn, qf, qt)).length = n := ⟨_, rfl⟩
      have hnI := dotsR_len hgk
      rw [hnR] at hnI
      have HNR := hid hnR
      have HNI : Hid ((nR : Int) = qt - qf + 1) := hid hnI
      have w1 : IntKind.i64.wrap (qt - qf) = qt - qf := IntWalk.i64_in _ (by dsimp only at gg; omega)
      have w2 : IntKind.i64.wrap (qt - qf + 1) = (nR : Int) := by rw [← hnI]; exact IntWalk.i64_in _ (by dsimp only at gg hnI; omega)
      have HT : Hid (dotsOf (c.take (k + 1)) = dotsOf (c.take k) ++ dotsR (qn, qf, qt)) := hid (by rw [dotsOf_snoc c k (by rw [HLE.out]; exact hlt), hq])
      have HPF : Hid (∀ i, dotsOf (c.take k) ++ (dotsR (qn, qf, qt)).take i <+: dotsOf c) := hid (fun i => by rw [← hq]; exact dotsOf_front c k i (by rw [HLE.out]; exact hlt))
      have HGQ : Hid (0 ≤ qn ∧ qn ≤ 7 ∧ 1 ≤ qf ∧ qf ≤ qt ∧ qt ≤ 1099511627776) := hid gg
      unfold maxLen at hm2
      clear hcell hq hgk gg hnI hnR KW hJk hK
      gi_wp2_with (first
        | (refine wpListIn_loadL (by first | rfl | kernel_rfl) 33 (.tmp 10) rfl (p := ⟨blk, off + k * 3, none⟩) (by rfl) HL0.out ?_))
      rw [← hW2]
      try simp only [hM]
      clear w1 w2 HL0 HR hW2 hM
      gi_loopw [18] (fun i wr => ∃ j : Nat, j ≤ nR ∧ i = .int .i64 j ∧ Hid (J (dotsOf (c.take k) ++ (dotsR (qn, qf, qt)).take j) wr) ∧ Hid (KrS S W wr) ∧ Hid (Blk wr M 33 (runL (qn, qf, qt)))) (fun i _ => nR - (intOf i).toNat)
      case atStart => exact ⟨0, Nat.zero_le _, rfl, by rw [List.take_zero, List.append_nil]; exact J2, K2, HZ⟩
      case round =>
        clear J2 K2 HZ
        obtain ⟨j, hj, rfl, hJj, hK2, HZ⟩ := hrel
        have hnb : nR ≤ 1099511627776 := by have := HGQ.out; have := HNI.out; omega
        by_cases hltj : j < nR
        · have d0 : World.cell? _ ⟨M, 0, none⟩ = some (.int .i64 qn) := HZ.out.cell 0
          have d1 : World.cell? _ ⟨M, 1, none⟩ = some (.int .i64 qf) := HZ.out.cell 1
          have w3 : IntKind.i64.wrap (qf + (j : Int)) = qf + (j : Int) := IntWalk.i64_in _ (by have := HGQ.out; have := HNI.out; omega)
          have HTJ : Hid ((dotsR (qn, qf, qt)).take (j + 1) = (dotsR (qn, qf, qt)).take j ++ [(qn, qf + (j : Int))]) := hid (dotsR_take (qn, qf, qt) j (by rw [HNR.out]; exact hltj))
          have hlen : (dotsOf (c.take k) ++ (dotsR (qn, qf, qt)).take j).length < (dotsOf c).length := by
            have h1 := (HPF.out (j + 1)).length_le
            rw [HTJ.out, ← List.append_assoc, List.length_append, List.length_singleton] at h1
            omega
          obtain ⟨fn, tmps, assign, body, hy, hR⟩ := HY.out _ (qn, qf + (j : Int)) _ hJj.out hlen
          dsimp only at hy
          have HRR := hid hR
          clear hR hlen
          gi_wp2
          refine HRR.out.mono ?_
          rintro r W3 ⟨kk, (⟨rfl, hJ3⟩ | ⟨rfl, hJx3⟩)⟩
          · have JX := hid hJ3
            have K3 := hid (hK2.out.trans kk)
            have HZ3 := hid (blk_kr HZ.out kk)
            clear hJ3 kk hy d0 d1 hJj hK2
            gi_wp2
            all_goals
              go_roundw
              case rel => exact ⟨j + 1, hltj, by go_num, by rw [HTJ.out, ← List.append_assoc]; exact JX, K3, HZ3⟩
              case measure => simp [intOf]; omega
          · have JX := hid hJx3
            clear hJx3 kk hy d0 d1
            gi_wp2
            dsimp only [Exit.noGoto]
            go_end0
            exact ⟨⟨_, rfl⟩, .inr ⟨_, by have h := HPF.out (j + 1); rw [HTJ.out, ← List.append_assoc] at h; exact h, JX.out⟩⟩
        · obtain rfl : j = nR := by omega
          have HJE : Hid (J (dotsOf (c.take (k + 1))) _) := hid (by have h := hJj.out; rw [← HNR.out, List.take_length] at h; rw [HT.out]; exact h)
          clear hJj
          gi_wp2
          all_goals
            go_roundw
            case rel => exact ⟨k + 1, hlt, by go_num, HJE, hK2⟩
            case measure => simp [intOf]; omega
    · obtain rfl : k = L := by omega
      have HJE : Hid (J (dotsOf c) wr) := hid (by have h := hJk.out; rwa [← HLE.out, List.take_length] at h)
      gi_wp2
      dsimp only [Exit.noGoto]
      go_end0
      exact ⟨⟨_, rfl⟩, .inl ⟨_, rfl, HJE.out⟩⟩

end Go.Proofs.YtbbfibgijackhaaDoor

namespace Go.Proofs.YtbbfibgijackhaaDoor
open Go.RowKit Go.Shelf
attribute [local go_sem] Oper.semAt_some

abbrev encD (x : DotQ) : Array Value := #[.agg #[.int .i64 x.1, .int .i64 x.2]]
theorem missing_seq (m : Nat) (hm : 1 ≤ m) (Bk : Nat) (v : Value) (c : List RunQ) (hg : ∀ r ∈ c, goodR r = true) (hl : c.length ≤ 100000) (S : Nat → Prop) (w : World)
    (b1 : Boxed w Bk 23 v) (hS : ∀ b, S b → b < w.heap.size) (ha : ClSl w v c) (hav : ∀ g, v.ownBlock = some g → S g) :
    SeqW Fence.wide m Tryd.prog 47 #[.pointer (some ⟨Bk, 0, none⟩)] encD (KrS S) (fun es _ => es = dotsOf c) (fun pre _ => pre <+: dotsOf c) (dotsOf c).length w := fun l J Jx W hW hJ _ hY h0 => by
  have k : Kp Nb w W := Kp.of_below hW
  exact missing1_in m hm l Bk v c hg hl S J Jx (fun pre A C hj hk => hJ pre A C none hj ⟨hk.os, hk.tape, hk.output, hk.size, fun i hi _ => hk.block i hi (fun h => h)⟩ (fun r e => by cases e)) hY W
    ((k.heap b1.lt (fun h => h)).trans b1) (fun b hb => Nat.lt_of_lt_of_le (hS b hb) k.size) (ha.kept k) hav h0

def missC (h a : List RunQ) : List RunQ := if rightC h && rightC a then lessC a h else []
theorem missC_rt (h a : List RunQ) : Rt (missC h a) := by
  unfold missC
  cases hh : rightC h
  · exact Rt.nil
  · cases ha : rightC a
    · exact Rt.nil
    · exact less_rt (rightC_rt.1 ha) (rightC_rt.1 hh)
theorem missC_len {h a : List RunQ} (lh : h.length ≤ 100) (la : a.length ≤ 100) : (missC h a).length ≤ 100000 := by
  unfold missC
  split
  · have h1 := lessC_len a h []
    have h2 : a.length * (h.length + 1) ≤ 100 * 101 := Nat.mul_le_mul la (by omega)
    show (lessN a h []).length ≤ 100000
    rw [List.length_nil] at h1
    omega
  · simp
set_option maxRecDepth 100000 in
set_option maxHeartbeats 1000000 in
theorem dmissing_any (vh va : Value) (h a : List RunQ) (w : World) (hh : ClSl w vh h) (ha : ClSl w va a) (lh : h.length ≤ 100) (la : a.length ≤ 100) :
    Calls Tryd.prog 30 #[vh, va] w fun e w' => ∃ v', e = .returned (.func (.func 47) #[] #[.pointer (some ⟨w.heap.size, 0, none⟩)]) ∧
      Boxed w' w.heap.size 23 v' ∧ ClSl w' v' (missC h a) ∧ (∀ g, v'.ownBlock = some g → w.heap.size < g ∧ g < w'.heap.size) ∧ Kp Nb w w' := by
  obtain ⟨ph, dh, rfl⟩ := hh.shape
  obtain ⟨pa, da, rfl⟩ := ha.shape
  obtain ⟨nH, hnH⟩ : ∃ n, h.length = n := ⟨_, rfl⟩
  obtain ⟨nA, hnA⟩ : ∃ n, a.length = n := ⟨_, rfl⟩
  have HNH := hid hnH
  have HNA := hid hnA
  obtain ⟨N, hN⟩ : ∃ N, w.heap.size = N := ⟨_, rfl⟩
  obtain ⟨V, hV⟩ : ∃ V, V = w.alloc (.cells #[.slice none 0 0] 23) := ⟨_, rfl⟩
  have B0 : Hid (Boxed V N 23 (.slice none 0 0)) := hid (by rw [hV, ← hN]; exact Boxed.new w _ _)
  have K0 : Hid (Kp Nb w V) := hid (by rw [hV]; exact (Kp.refl Nb w).alloc _)
  rw [hnH] at hh lh
  rw [hnA] at ha la
  rw [hnH, hnA]
  have HH := hid (hh.kept K0.out)
  have HA := hid (ha.kept K0.out)
  have HLN : Hid (h.length ≤ 100 ∧ a.length ≤ 100) := hid (by omega)
  obtain ⟨rh, hrh⟩ : ∃ b, rightC h = b := ⟨_, rfl⟩
  obtain ⟨ra, hra⟩ : ∃ b, rightC a = b := ⟨_, rfl⟩
  have HRH := hid hrh
  have HRA := hid hra
  have HN := hid hN
  rw [hN]
  clear hh ha lh la hnH hnA hrh hra hN
  go_enter Tryd.func30, Tryd.ntmps30
  go_upto_region 2 with fail
  rw [HN.out, ← hV]
  clear hV
  go_wp2_with fail
  have C := dright_any _ h V HH.out (by have := HLN.out; omega)
  rw [HRH.out] at C
  refine C.mono ?_
  rintro r w1 ⟨rfl, k1⟩
  have HA1 := hid (HA.out.kept k1)
  have HH1 := hid (HH.out.kept k1)
  have B1 : Hid (Boxed w1 N 23 (.slice none 0 0)) := hid ((k1.heap B0.out.lt (fun h => h)).trans B0.out)
  have K1 := hid (K0.out.trans k1 (fun _ _ h => h))
  clear C k1 HA HH B0 K0
  cases rh with
  | false =>
    have HE : Hid (missC h a = []) := hid (by unfold missC; rw [HRH.out]; rfl)
    go_wp2
    go_ret
    exact ⟨_, rfl, B1.out, by rw [HE.out]; exact cl_nil _, fun g hg => by simp [Value.ownBlock] at hg, K1.out⟩
  | true =>
    go_wp2_with fail
    have C := dright_any _ a w1 HA1.out (by have := HLN.out; omega)
    rw [HRA.out] at C
    refine C.mono ?_
    rintro r w2 ⟨rfl, k2⟩
    have HA2 := hid (HA1.out.kept k2)
    have HH2 := hid (HH1.out.kept k2)
    have B2 : Hid (Boxed w2 N 23 (.slice none 0 0)) := hid ((k2.heap B1.out.lt (fun h => h)).trans B1.out)
    have K2 := hid (K1.out.trans k2 (fun _ _ h => h))
    clear C k2 HA1 HH1 B1 K1
    cases ra with
    | false =>
      have HE : Hid (missC h a = []) := hid (by unfold missC; rw [HRA.out, HRH.out]; rfl)
      go_wp2
      go_ret
      exact ⟨_, rfl, B2.out, by rw [HE.out]; exact cl_nil _, fun g hg => by simp [Value.ownBlock] at hg, K2.out⟩
    | true =>
      have HE : Hid (missC h a = lessC a h) := hid (by unfold missC; rw [HRA.out, HRH.out]; rfl)
      go_wp2_with fail
      have C := less_any _ _ a h w2 HA2.out HH2.out (by have := HLN.out; omega) (by have := HLN.out; omega) HRA.out HRH.out
      refine C.mono ?_
      rintro r w3 ⟨v3, rfl, h3, ho3, k3⟩
      have B3 : Boxed w3 N 23 (.slice none 0 0) := (k3.heap B2.out.lt (fun h => h)).trans B2.out
      obtain ⟨y3, d3, rfl⟩ := h3.shape
      have f3 := B3.frozen
      have c3 := B3.cell
      have HF3 := hid h3
      have HO3 : Hid (∀ g, (Value.slice y3 (lessC a h).length d3).ownBlock = some g → N < g ∧ g < w3.heap.size) := hid (fun g hg => ⟨Nat.lt_of_lt_of_le B2.out.lt (ho3 g hg).1, (ho3 g hg).2⟩)
      have K3 := hid (K2.out.trans k3 (fun _ _ h => h))
      have HB3 := hid B3
      obtain ⟨n3, hn3⟩ : ∃ n, (lessC a h).length = n := ⟨_, rfl⟩
      rw [hn3] at HF3 HO3 ⊢
      clear C k3 h3 ho3 B3 hn3
      obtain ⟨W4, hW4⟩ : ∃ W, W = w3.setCell ⟨N, 0, none⟩ (.slice y3 n3 d3) := ⟨_, rfl⟩
      have k4 : Kp (Jb N) w3 W4 := by rw [hW4]; exact Kp.set (Kp.refl (Jb N) w3) 0 _
      have HB4 : Hid (Boxed W4 N 23 (.slice y3 n3 d3)) := hid (by rw [hW4]; exact HB3.out.set _)
      have HC4 : Hid (ClSl W4 (.slice y3 n3 d3) (lessC a h)) := hid (HF3.out.keptV k4 (fun g hg hs => by have hs : g = N := hs; have := (HO3.out g hg).1; omega))
      have HK4 : Hid (Kp Nb w W4) := hid (K3.out.trans k4 (fun i hi hs => by have hs : i = N := hs; have := HN.out; omega))
      have HO4 : Hid (∀ g, (Value.slice y3 n3 d3).ownBlock = some g → N < g ∧ g < W4.heap.size) := hid (fun g hg => ⟨(HO3.out g hg).1, Nat.lt_of_lt_of_le (HO3.out g hg).2 k4.size⟩)
      clear k4
      go_wp2
      rw [← hW4]
      go_ret
      exact ⟨_, rfl, HB4.out, by rw [HE.out]; exact HC4.out, HO4.out, HK4.out⟩

theorem row_tyP {W : World} {base e size k : Nat} {v : Value} {xs : List Value} (h : W.ownsRow base e size v k xs) {g : Nat} (hg : v.ownBlock = some g) : ∃ cs fr, W.heap[g]? = some (Obj.cells cs e fr) := by
  rcases h.2 with ⟨rfl, _⟩ | ⟨g', cap, cur, rfl, hb, hgg, _⟩
  · simp [Value.ownBlock] at hg
  · have : g' = g := by simpa [Value.ownBlock] using hg
    subst this
    exact ⟨_, _, hgg⟩
/-- One more element behind the row in its box: no block of runs is turned. -/
theorem pl_step {W V w10 : World} {M Z B k s : Nat} {T E : TypeId} {v v10 : Value} {xs ys : List Value} {j : Nat} (hT : T ≠ 33) (hE : E ≠ 33) (KV : Kp Nb W V) (o : V.ownsRow Z E s v k xs) (hg : V.grownBy w10 v.ownBlock) (bx : Boxed W M T v) (hB : M < Z)
    (o10 : w10.ownsRow Z E s v10 j ys) :
    w10.cell? ⟨M, 0, none⟩ = some v ∧ w10.frozen? ⟨M, 0, none⟩ = false ∧ KeepsFrom B W (w10.setCell ⟨M, 0, none⟩ v10) ∧ (Z ≤ W.heap.size → KrS (fun b => M < b ∧ b < Z) W (w10.setCell ⟨M, 0, none⟩ v10)) ∧ Boxed (w10.setCell ⟨M, 0, none⟩ v10) M T v10 ∧
      (w10.setCell ⟨M, 0, none⟩ v10).ownsRow Z E s v10 j ys ∧ (∀ b t u, Boxed W b t u → b < Z → b ≠ M → Boxed (w10.setCell ⟨M, 0, none⟩ v10) b t u) ∧ (∀ w, Kp Nb w W → w.heap.size ≤ M → Kp Nb w (w10.setCell ⟨M, 0, none⟩ v10)) ∧ W.heap.size ≤ (w10.setCell ⟨M, 0, none⟩ v10).heap.size := by
  have far : ∀ g, v.ownBlock = some g → Z ≤ g := fun g e => (row_cells o e).1
  have far10 : ∀ g, v10.ownBlock = some g → Z ≤ g := fun g e => (row_cells o10 e).1
  have bx10 : Boxed w10 M T v := Boxed.kept (show Boxed V M _ _ from (KV.heap bx.lt (fun h => h)).trans bx) hg (fun e => by have := far _ e.symm; omega)
  have hsz : W.heap.size ≤ (w10.setCell ⟨M, 0, none⟩ v10).heap.size := Nat.le_trans KV.size (Nat.le_trans hg.size (KeepsOthers.setCell w10 ⟨M, 0, none⟩ v10).size)
  have other : ∀ b, b < w10.heap.size → b ≠ M → (w10.setCell ⟨M, 0, none⟩ v10).heap[b]? = w10.heap[b]? := fun b hl hb => (grownBy_setCell' w10 M v10).block b hl (fun e => hb (by cases e; rfl))
  have same0 : ∀ b, b < W.heap.size → v.ownBlock ≠ some b → b ≠ M → (w10.setCell ⟨M, 0, none⟩ v10).heap[b]? = W.heap[b]? := fun b h1 h2 h3 =>
    ((other b (Nat.lt_of_lt_of_le h1 (Nat.le_trans KV.size hg.size)) h3).trans (hg.block b (Nat.lt_of_lt_of_le h1 KV.size) (fun e => h2 e.symm))).trans (KV.heap h1 (fun h => h))
  have same : ∀ b, b < W.heap.size → b < Z → b ≠ M → (w10.setCell ⟨M, 0, none⟩ v10).heap[b]? = W.heap[b]? := fun b h1 h2 h3 => same0 b h1 (fun e => by have := far _ e; omega) h3
  refine ⟨bx10.cell, bx10.frozen, ⟨hsz, fun i p _ hi hp => ?_⟩, fun hZ => ⟨⟨hsz, fun b hb => ?_⟩, fun b cs fr hb => ?_⟩, bx10.set _, ownsRow_same o10 (fun g e => other g (by obtain ⟨-, o, ho, -⟩ := row_cells o10 e; exact (Array.getElem?_eq_some_iff.1 ho).1) (by have := far10 g e; omega)), fun b t u h h1 h2 => (same b h.lt h1 h2).trans h, fun w k hw => ?_, hsz⟩
  · have hlt := (Array.getElem?_eq_some_iff.1 hi).1
    refine (same0 i hlt (fun e => ?_) (fun e => ?_)).trans hi
    · obtain ⟨-, p', hp', hc⟩ := row_cells o e
      rw [KV.heap hlt (fun h => h), hi] at hp'
      cases hp'
      rw [hp] at hc
      cases hc
    · rw [e, show W.heap[M]? = _ from bx] at hi
      cases hi
      cases hp
  · exact same b (by omega) hb.2 (by omega)
  · have hlt := (Array.getElem?_eq_some_iff.1 hb).1
    refine (same0 b hlt (fun e => ?_) (fun e => ?_)).trans hb
    · obtain ⟨cs', fr', h⟩ := row_tyP o e
      rw [KV.heap hlt (fun h => h), hb] at h
      injection h with h; injection h with _ h
      exact hE h.symm
    · rw [e, show W.heap[M]? = _ from bx] at hb
      injection hb with h; injection h with _ h
      exact hT h
  · exact Kp.setCell ((k.trans KV (fun _ _ h => h)).grown hg (fun g e h => by have := far g e; omega)) (fun h => by dsimp only at h; omega) _


theorem blk_turn {A B : World} {row : Option Nat} {b t : Nat} {vs : List Value} (hs : Blk A b t vs) (hg : A.grownBy B row) (hr : ∀ r, row = some r → ∃ o : Obj, A.heap[r]? = some o ∧ o.isCells = false) : Blk B b t vs :=
  (hg.block b hs.lt (fun e => by
    obtain ⟨o, ho, hc⟩ := hr _ e.symm
    rw [show A.heap[b]? = _ from hs] at ho
    cases ho
    cases hc)).trans hs
theorem Kp.putNew {S : Nat → Prop} {a b : World} (h : Kp S a b) {D : Nat} (hD : a.heap.size ≤ D) (o : Obj) : Kp S a (b.putObj D o) := ⟨h.os, h.tape, h.output, by simpa using h.size, fun i hi hn => (World.putObj_heap_other (fun e => by omega)).trans (h.block i hi hn)⟩
theorem static_ownD (P : Prop) {B : Nat} : OwnFrom B (fun (_ : Unit) (_ : World) => P) := Own.from (fun _ _ _ _ hs _ _ => hs) _
/-- Between two rounds: the dots so far. -/
def SoI (M Z : Nat) (m : Int) (w : World) (es : List DotQ) (W : World) : Prop :=
  ∃ u, Boxed W (M + 1) 30 u ∧ W.ownsRow Z 25 2 u es.length (flatR dotL es) ∧ Boxed W M 3 (.int .i64 m) ∧ Kp Nb w W ∧ Z ≤ W.heap.size ∧ es.length ≤ m.toNat
def SoX (M Z : Nat) (m : Int) (w : World) (c : Code) (es : List DotQ) (W : World) : Prop := c = .exit 0 ∧ ∃ pre x, es = pre ++ [x] ∧ SoI M Z m w pre W ∧ m ≤ (pre.length : Int)
def AxD (fr : Nat → Act) (x : DotQ) (a' : Act) (W : World) : Prop := ∃ N, a' = fr N ∧ Blk W N 25 (dotL x)
theorem axD_own (fr : Nat → Act) (x : DotQ) (a' : Act) {B : Nat} : OwnFrom B (fun (_ : Unit) W => AxD fr x a' W) :=
  Own.from (fun _ A W row hs hg hr => by
    obtain ⟨N, h2, h3⟩ := hs
    exact ⟨N, h2, blk_turn h3 hg hr⟩) _
theorem soI_own (M Z : Nat) (m : Int) (w : World) {B : Nat} (hB : w.heap.size ≤ B) : OwnFrom B (SoI M Z m w) := by
  rintro pre A C row ⟨v, b, o, b1, k, z, l⟩ hg hr
  have hbox : ∀ {b t : Nat} {u : Value}, Boxed A b t u → Boxed C b t u := fun hb => hb.kept hg (fun e => by
    obtain ⟨-, o, ho, hc⟩ := hr _ e.symm
    have := (show A.heap[_]? = _ from hb).symm.trans ho
    cases this
    cases hc)
  refine ⟨v, hbox b, ownsRow_same o (fun g hgv => ?_), hbox b1, k.grown hg (fun i e h => by have := (hr i e).1; omega), Nat.le_trans z hg.size, l⟩
  obtain ⟨-, o', ho, hc⟩ := row_cells o hgv
  refine hg.block g (Array.getElem?_eq_some_iff.1 ho).1 (fun e => ?_)
  obtain ⟨-, o'', ho', hc'⟩ := hr _ e.symm
  rw [ho] at ho'
  cases ho'
  rw [hc] at hc'
  cases hc'
theorem soX_own (M Z : Nat) (m : Int) (w : World) (c : Code) {B : Nat} (hB : w.heap.size ≤ B) : OwnFrom B (SoX M Z m w c) := by
  rintro es A C row ⟨h1, pre, x, h2, h3, h4⟩ hg hr
  exact ⟨h1, pre, x, h2, soI_own M Z m w hB pre A C row h3 hg hr, h4⟩
theorem load_dot {w : World} {B o : Nat} {q : DotQ} (h : w.rangeAt B o (dotL q)) : (Instr.loadAt 25 (.pointer (some ⟨B, o, none⟩))).run Tryd.prog w = .ok (.agg #[.int .i64 q.1, .int .i64 q.2]) w := by
  obtain ⟨fs, hu⟩ := under_dot
  exact run_loadAt_mid w B o 25 (dotL q) _ h hu rfl (dot_infoL q)
theorem take_front {pre d : List DotQ} {m : Nat} (h : pre <+: d) (hl : pre.length = m) : pre = d.take m := by
  rw [← hl]
  exact (List.prefix_iff_eq_take.1 h)
set_option maxRecDepth 100000 in
set_option maxHeartbeats 4000000 in
theorem some_in (N : Nat) (hN : 3 ≤ N) (vh va : Value) (h a : List RunQ) (m : Int) (hm : m ≤ 100) (w : World) (hh : ClSl w vh h) (ha : ClSl w va a) (lh : h.length ≤ 100) (la : a.length ≤ 100) :
    CallsIn Fence.wide N Tryd.prog 8 #[vh, va, .int .i64 m] w fun e w' => ∃ v', e = .returned v' ∧
      w'.ownsRow w.heap.size 25 2 v' ((dotsOf (missC h a)).take m.toNat).length (flatR dotL ((dotsOf (missC h a)).take m.toNat)) ∧ Kp Nb w w' := by
  have h1 : 1 ≤ N := by omega
  obtain ⟨yh, dh, rfl⟩ := hh.shape
  obtain ⟨ya, da, rfl⟩ := ha.shape
  obtain ⟨nH, hnH⟩ : ∃ n, h.length = n := ⟨_, rfl⟩
  obtain ⟨nA, hnA⟩ : ∃ n, a.length = n := ⟨_, rfl⟩
  rw [hnH] at hh
  rw [hnA] at ha
  rw [hnH, hnA]
  obtain ⟨M, hM⟩ : ∃ M, w.heap.size = M := ⟨_, rfl⟩
  obtain ⟨V, hV⟩ : ∃ V, V = (w.alloc (.cells #[.int .i64 m] 3)).alloc (.cells #[.slice none 0 0] 30) := ⟨_, rfl⟩
  have hVs : V.heap.size = M + 2 := by rw [hV, ← hM]; simp
  have b0 := Boxed.new w 3 (.int .i64 m)
  have b1 := Boxed.new (w.alloc (.cells #[.int .i64 m] 3)) 30 (.slice none 0 0)
  simp only [World.size_alloc] at b1
  have d0 : Hid (Boxed V M 3 (.int .i64 m)) := hid (by rw [hV, ← hM]; exact b0.alloc _)
  have d1 : Hid (Boxed V (M + 1) 30 (.slice none 0 0)) := hid (by rw [hV, ← hM]; exact b1)
  have K0 : Hid (Kp Nb w V) := hid (by rw [hV]; exact ((Kp.refl Nb w).alloc _).alloc _)
  have CC : Hid (Calls Tryd.prog 30 #[.slice yh nH dh, .slice ya nA da] V fun e w' => ∃ v', e = .returned (.func (.func 47) #[] #[.pointer (some ⟨M + 2, 0, none⟩)]) ∧
      Boxed w' (M + 2) 23 v' ∧ ClSl w' v' (missC h a) ∧ (∀ g, v'.ownBlock = some g → M + 2 < g ∧ g < w'.heap.size) ∧ Kp Nb V w') := hid (by
    have := dmissing_any _ _ h a V (hh.kept K0.out) (ha.kept K0.out) lh la
    rwa [hVs] at this)
  have HM := hid hM
  have HMM := hid hm
  obtain ⟨c, hc⟩ : ∃ c, missC h a = c := ⟨_, rfl⟩
  have HCL : Hid (c.length ≤ 100000) := hid (by rw [← hc]; exact missC_len lh la)
  have HCG : Hid (∀ r ∈ c, goodR r = true) := hid (by rw [← hc]; exact (missC_rt h a).1)
  rw [hc] at CC ⊢
  clear hh ha b0 b1 hVs hnH hnA lh la hm hc
  refine callsIn_of_wp_marks Tryd.func8 rfl trivial ?_ rfl
  simp only [Tryd.ntmps8, List.size_toArray, List.length_cons, List.length_nil, Nat.reduceAdd, Nat.reduceSub, Array.replicate_succ, Array.replicate_zero, List.push_toArray, List.append_toArray, List.nil_append, List.cons_append]
  rw [hM]
  gi_wp2
  rw [← hV]
  clear hV
  gi_wp2_with (refine ⟨trivial, ?_⟩; gi_at_call 30; refine (callsIn_wide.2 CC.out).mono ?_; rintro r W0 ⟨v', rfl, p1, p3, p4, k0⟩)
  have K7 : Hid (Kp Nb w W0) := hid (K0.out.trans k0 (fun _ _ h => h))
  obtain ⟨Z, hZ⟩ : ∃ Z, W0.heap.size = Z := ⟨_, rfl⟩
  have HZ : Hid (M + 2 < Z ∧ W0.heap.size = Z) := hid ⟨by rw [← hZ]; exact p1.lt, hZ⟩
  have P4 : Hid (∀ g, v'.ownBlock = some g → M + 1 < g ∧ g < Z) := hid (fun g hg => by have := p4 g hg; rw [hZ] at this; omega)
  have HI0 : Hid (SoI M Z m w [] W0) := hid (by
    exact ⟨_, (k0.heap d1.out.lt (fun h => h)).trans d1.out, ⟨by simp [flatR], .inl ⟨rfl, rfl⟩⟩, (k0.heap d0.out.lt (fun h => h)).trans d0.out, K7.out, Nat.le_of_eq hZ.symm, by simp⟩)
  have SQ : Hid (SeqW Fence.wide (N - 1) Tryd.prog 47 #[.pointer (some ⟨M + 2, 0, none⟩)] encD (KrS (fun b => M + 1 < b ∧ b < Z)) (fun es _ => es = dotsOf c) (fun pre _ => pre <+: dotsOf c) (dotsOf c).length W0) := hid (by
    exact missing_seq (N - 1) (by omega) (M + 2) v' c HCG.out HCL.out _ W0 p1 (fun b hb => by have := HZ.out; have : b < Z := hb.2; omega) p3 (fun g hg => P4.out g hg))
  clear hZ p1 p3 p4 k0
  refine wpIn_rangeW rfl h1 (gf := 47) (lb := #[.pointer (some ⟨M + 2, 0, none⟩)]) rfl trivial (enters_of Tryd.func47 (by kernel_rfl) rfl)
    SQ.out (fun h k => h.trans k) (fun W l o o' hl hW hc => ⟨⟨by simp, fun b hb => World.putObj_heap_other (fun e' => by have := HZ.out; have : b < Z := hb.2; omega)⟩, fun b cs fr e => (World.putObj_heap_other (fun e' => by rw [e', hW] at e; cases e; cases hc)).trans e⟩)
    (fun es => static_ownD _) (fun es => static_ownD _) (Below.refl _ _) (fun x => rfl)
    (SoI M Z m w) (SoX M Z m w) (soI_own M Z m w K7.out.size) (fun c => soX_own M Z m w c K7.out.size) HI0.out
    (fun x a' W => AxD (fun B => { tmps := #[.slice yh nH dh, .slice ya nA da, .int .i64 m, undef, undef, .pointer (some ⟨M, 0, none⟩), .slice none 0 0, .pointer (some ⟨M + 1, 0, none⟩), .pointer (some ⟨B, 0, none⟩), .slice yh nH dh, .slice ya nA da, .func (.func 47) #[] #[.pointer (some ⟨M + 2, 0, none⟩)], .agg #[.int .i64 x.1, .int .i64 x.2], undef, undef, undef, undef, undef, undef, undef, undef, undef], defers := [] }) x a' W)
    (fun x a' => axD_own _ x a') ?assign ?body ?done ?stop
  case assign =>
    intro l pre x W R hI hR
    obtain ⟨x1, x2⟩ := x
    have HI := hid hI
    have HR := hid hR
    obtain ⟨W5, hW5⟩ : ∃ V, V = W.alloc (.cells #[.int .i64 x1, .int .i64 x2] 25) := ⟨_, rfl⟩
    have S3 : Hid (Kp Nb W W5) := hid (by rw [hW5]; exact (Kp.refl Nb W).alloc _)
    have S2 : Hid (Blk W5 W.heap.size 25 (dotL (x1, x2))) := hid (by rw [hW5]; exact Blk.new W 25 (dotL (x1, x2)))
    clear hI hR
    gi_wp2
    rw [← hW5]
    refine HR.out _ _ (⟨S3.out.size, fun i o _ hi _ => (S3.out.heap (Array.getElem?_eq_some_iff.1 hi).1 (fun h => h)).trans hi⟩) (KrS.nb (fun b hb => by obtain ⟨v, _, _, _, k, z, _⟩ := HI.out; have : b < Z := hb.2; omega) S3.out) ?_ ⟨_, rfl, S2.out⟩
    obtain ⟨v, b, o, b1, k, z, lm⟩ := HI.out
    exact ⟨v, (S3.out.heap b.lt (fun h => h)).trans b, ownsRow_kpD o S3.out, (S3.out.heap b1.lt (fun h => h)).trans b1, k.trans S3.out (fun _ _ h => h), Nat.le_trans z S3.out.size, lm⟩
  case body =>
    rintro l pre x a' W ⟨u, b, o, b1, k, z, lm⟩ ⟨B, rfl, hNB⟩ hlt
    obtain ⟨x1, x2⟩ := x
    obtain ⟨p1, q1, rfl⟩ := own_shape o
    have c0 := b.cell
    have c1 := b1.cell
    have HO := hid o
    have HBX := hid b
    have HB1 := hid b1
    have HKW := hid k
    have HZW := hid z
    have HLM := hid lm
    have HLD := hid (load_dot (range_ofR hNB))
    clear b o b1 k z lm hlt hNB
    by_cases hge : m ≤ (pre.length : Int)
    · gi_wp2
      exact ⟨KeepsFrom.refl _ _, KrS.refl _ _, rfl, pre, _, rfl, ⟨_, HBX.out, HO.out, HB1.out, HKW.out, HZW.out, HLM.out⟩, hge⟩
    · have MK := hid (make_dot1 W x1 x2)
      obtain ⟨i0, hi, hz0, hz1, hz2⟩ := info_parts dot_infoF
      obtain ⟨g, hg⟩ : ∃ g, W.heap.size = g := ⟨_, rfl⟩
      rw [hg] at MK
      obtain ⟨V, hV⟩ : ∃ V, V = W.alloc (.cells #[.int .i64 x1, .int .i64 x2] 25 (0, 0)) := ⟨_, rfl⟩
      rw [← hV] at MK
      have KV : Hid (Kp Nb W V) := hid (by rw [hV]; exact (Kp.refl Nb W).alloc _)
      have BV : Hid (Blk V g 25 (dotL (x1, x2))) := hid (by rw [hV, ← hg]; exact Blk.new W _ (dotL (x1, x2)))
      have B2 : Hid (pre.length + 1 ≤ maxLen ∧ (pre.length + 1) * 16 ≤ 140737488355328 ∧ Z ≤ V.heap.size) := hid (by
        have := HMM.out
        refine ⟨?_, ?_, Nat.le_trans HZW.out KV.out.size⟩
        · unfold maxLen; omega
        · omega)
      clear hV hg
      gi_wp2_with (first
        | (refine wpListIn_loadL (by first | rfl | kernel_rfl) 25 (.tmp 8) rfl (p := ⟨B, 0, none⟩) (by rfl) HLD.out ?_)
        | (refine wpListIn_stepL rfl _ _ (by intro c hc; cases hc) (by simp [Oper.about]) (exec_buildSliceD rfl (qs := #[(0, .agg #[.int .i64 x1, .int .i64 x2])]) (by simp [Act.eval, Act.put]) MK.out) ?_)
        | (gi_at_builtin; refine wpListIn_append_own _ rfl _ _ 30 rfl Z 25 i0 _ 2 16 Tryd.underlying30 hi hz0 hz1 hz2 rfl (by decide) _ pre.length (flatR dotL pre) rfl (ownsRow_kpD HO.out KV.out) ⟨g, 0, none⟩ 1 1 (dotL (x1, x2)) rfl rfl (fun j u hu => ?cells) (by simp [dotL, Value.oneCell']) B2.out.1 B2.out.2.1 B2.out.2.2 ?_))
      case cells => have := range_ofR BV.out j u hu; rwa [Nat.zero_add] at this
      intro v10 w10 hown hgrow _
      obtain ⟨a10, c10, rfl⟩ := own_shape hown
      obtain ⟨e1, e2, e3, e4, e5, e6, e7, e8, e9⟩ := pl_step (M := M + 1) (B := W0.heap.size) (by decide) (by decide) KV.out (ownsRow_kpD HO.out KV.out) hgrow HBX.out (by have := HZ.out; omega) hown
      have f1 := e7 _ _ _ HB1.out (by have := HZ.out; omega) (by omega)
      have HYS : Hid (SoI M Z m w (pre ++ [(x1, x2)]) (w10.setCell ⟨M + 1, 0, none⟩ (.slice a10 (pre.length + 1) c10))) := hid ⟨_, e5, by rw [List.length_append, List.length_singleton, flatR_append]; exact e6, f1, e8 w HKW.out (by have := HM.out; omega), Nat.le_trans HZW.out e9, by rw [List.length_append, List.length_singleton]; have := HLM.out; omega⟩
      have E3 := hid e3
      have E4 := hid (e4 HZW.out)
      clear e3 e4 e5 e6 e7 e8 e9 f1 hown hgrow
      gi_wp2
      exact ⟨E3.out, E4.out, HYS.out⟩
  case done =>
    rintro D es W hD hS ⟨u, b, o, b1, k, z, lm⟩ hK
    obtain ⟨p1, q1, rfl⟩ := own_shape o
    have c1 := b.cell
    have HO := hid (ownsRow_le (base' := M) o (by have := HZ.out; omega))
    have HKW := hid k
    have HD := hid hD
    have HK := hid hK
    have HS : Hid (es = (dotsOf c).take m.toNat) := hid (by rw [← hS, List.take_of_length_le lm])
    clear b o b1 k z hD hK hS lm
    gi_wp2
    refine ⟨by simp, .inl ⟨_, _, rfl, run_takeDeferred HK.out, ?_⟩⟩
    refine ⟨_, results_tmp rfl _ _ _, _, rfl, ?_, ?_⟩
    · rw [← HS.out]; exact ownsRow_putObj (W := W) HO.out _ HK.out rfl
    · exact HKW.out.putNew (by have := HZ.out; have := HM.out; have := HD.out; omega) _
  case stop =>
    rintro D c2 es W hD hS ⟨rfl, pre, x, rfl, ⟨u, b, o, b1, k, z, lm⟩, hge⟩ hK
    obtain ⟨p1, q1, rfl⟩ := own_shape o
    have c1 := b.cell
    have HO := hid (ownsRow_le (base' := M) o (by have := HZ.out; omega))
    have HKW := hid k
    have HD := hid hD
    have HK := hid hK
    have HS : Hid (pre = (dotsOf c).take m.toNat) := hid (take_front ((List.prefix_append _ _).trans hS) (by omega))
    clear b o b1 k z hD hK hS lm hge
    gi_wp2
    refine ⟨by simp, .inl ⟨_, _, rfl, run_takeDeferred HK.out, ?_⟩⟩
    refine ⟨_, results_tmp rfl _ _ _, _, rfl, ?_, ?_⟩
    · rw [← HS.out]; exact ownsRow_putObj (W := W) HO.out _ HK.out rfl
    · exact HKW.out.putNew (by have := HZ.out; have := HM.out; have := HD.out; omega) _

end Go.Proofs.YtbbfibgijackhaaDoor

namespace Go.Proofs.YtbbfibgijackhaaDoor
open Go.RowKit

def AfP (c : List RunQ) (node n0 m : Int) : Prop := n0 ≤ m ∧ m ≤ 1099511627778 ∧ ∀ d, n0 ≤ d → d < m → InC c node d
def Nin (c : List RunQ) (node m : Int) : Prop := ∀ r ∈ c, ¬ In1 r node m
theorem nin_in {c : List RunQ} {node m : Int} : Nin c node m ↔ ¬ InC c node m := ⟨fun h ⟨r, hr, h1⟩ => h r hr h1, fun h r hr h1 => h ⟨r, hr, h1⟩⟩
theorem af_hit {c : List RunQ} (h : Rt c) {j : Nat} (hj : j < c.length) {node n0 m qf qt : Int} (e : runAt c j = (node, qf, qt)) (h2 : qf ≤ m) (h3 : m ≤ qt) (hp : AfP c node n0 m) : AfP c node n0 (qt + 1) ∧ Nin (c.take (j + 1)) node (qt + 1) := by
  have hm : (node, qf, qt) ∈ c := by rw [← e]; exact runAt_mem hj
  have g := goodR_of.1 (h.1 _ hm)
  dsimp only at g
  refine ⟨⟨by have := hp.1; omega, by omega, fun d h4 h5 => ?_⟩, fun r hr h1 => ?_⟩
  · rcases Int.lt_or_le d m with h6 | h6
    · exact hp.2.2 d h4 h6
    · exact ⟨_, hm, rfl, by show qf ≤ d; omega, by show d ≤ qt; omega⟩
  · rw [take_snocR c j hj, e] at hr
    rcases List.mem_append.1 hr with hr | hr
    · have hpw : (c.take (j + 1)).Pairwise Gap := h.2.sublist (List.take_sublist _ _)
      rw [take_snocR c j hj, e] at hpw
      have hg := (List.pairwise_append.1 hpw).2.2 r hr (node, qf, qt) (by simp)
      unfold Gap at hg
      unfold In1 at h1
      dsimp only at hg h1
      omega
    · have hr : r = (node, qf, qt) := by simpa using hr
      subst hr
      have := h1.2.2
      dsimp only at this
      omega
theorem af_miss {c : List RunQ} {j : Nat} (hj : j < c.length) {node m qn qf qt : Int} (e : runAt c j = (qn, qf, qt)) (hn : Nin (c.take j) node m) (hno : ¬ (qn = node ∧ qf ≤ m ∧ m ≤ qt)) : Nin (c.take (j + 1)) node m := by
  intro r hr h1
  rw [take_snocR c j hj, e] at hr
  rcases List.mem_append.1 hr with hr | hr
  · exact hn r hr h1
  · have hr : r = (qn, qf, qt) := by simpa using hr
    subst hr
    exact hno h1
def AfR (w : World) (c : List RunQ) (node n0 : Int) (i n : Value) (wr : World) : Prop := ∃ (k : Nat) (m : Int), k ≤ c.length + 1 ∧ i = .int .i64 k ∧ n = .int .i64 m ∧ Hid (AfP c node n0 m) ∧ Hid (0 < k → Nin c node m) ∧ Hid (Kp Nb w wr)
def AgR (w : World) (c : List RunQ) (node n0 : Int) (i n : Value) (wr : World) : Prop := ∃ (j : Nat) (m : Int), j ≤ c.length ∧ i = .int .i64 j ∧ n = .int .i64 m ∧ Hid (AfP c node n0 m) ∧ Hid (Nin (c.take j) node m) ∧ Hid (Kp Nb w wr)
set_option maxRecDepth 100000 in
set_option maxHeartbeats 4000000 in
theorem after_any (v : Value) (c : List RunQ) (node n0 : Int) (w : World) (hs : ClSl w v c) (hr : rightC c = true) (hl : c.length ≤ 1000) (h0 : 0 ≤ n0) (h1 : n0 ≤ 1099511627777) :
    Calls Tryd.prog 10 #[v, .int .i64 node, .int .i64 n0] w fun e w' => ∃ m, e = .returned (.int .i64 m) ∧ AfP c node n0 m ∧ ¬ InC c node m ∧ Kp Nb w w' := by
  obtain ⟨pv, dv, rfl⟩ := hs.shape
  obtain ⟨L, hL⟩ : ∃ L, c.length = L := ⟨_, rfl⟩
  have HLE := hid hL
  have HRT := hid (rightC_rt.1 hr)
  have HB : Hid (0 ≤ n0 ∧ n0 ≤ 1099511627777) := hid ⟨h0, h1⟩
  rw [hL] at hs hl ⊢
  have HS := hid hs
  have hLb := hl
  clear hs hL hr hl h0 h1
  go_enter Tryd.func10, Tryd.ntmps10
  go_wp2_with fail
  go_loopw [7, 2] (AfR w c node n0) (fun i _ _ => L + 1 - (intOf i).toNat)
  case atStart => exact ⟨0, n0, Nat.zero_le _, rfl, rfl, hid ⟨Int.le_refl _, by have := HB.out; omega, fun d h1 h2 => by omega⟩, hid (fun h => by omega), hid (Kp.refl _ _)⟩
  case round =>
    obtain ⟨k, m, hk, rfl, rfl, HP, HN, HK⟩ := hrel
    rw [HLE.out] at hk
    by_cases hlk : k ≤ L
    · have hd : (k : Int) ≤ (L : Int) := by omega
      go_wp2_with fail
      go_loopw [18, 2] (AgR w c node n0) (fun i _ _ => L - (intOf i).toNat)
      case atStart => exact ⟨0, m, Nat.zero_le _, rfl, rfl, HP, hid (by intro r hr; simp at hr), HK⟩
      case round =>
        clear HP HN HK
        obtain ⟨k2, m, hk2, rfl, rfl, HP, HN, HK⟩ := hrel
        rw [HLE.out] at hk2
        by_cases hlt : k2 < L
        · obtain ⟨blk, off, cap, e1, hc, hm, hcell⟩ := cl_shape (HS.out.kept HK.out) (by intro h; have := HLE.out; rw [h, List.length_nil] at this; omega)
          rw [HLE.out] at e1 hc hcell
          injection e1 with e1 _ e2
          subst e1 e2
          have HR := hid (hcell k2 hlt)
          obtain ⟨⟨qn, qf, qt⟩, hq⟩ : ∃ q, runAt c k2 = q := ⟨_, rfl⟩
          have HOK := HS.out.1 k2
          rw [hq] at HR HOK
          have HQ := hid hq
          obtain ⟨M, hM⟩ : ∃ M, wr.heap.size = M := ⟨_, rfl⟩
          obtain ⟨W2, hW2⟩ : ∃ W, W = (wr.alloc (.cells (runL (0, 0, 0)).toArray 33)).setCells M 0 (runL (qn, qf, qt)) := ⟨_, rfl⟩
          have hz := Blk.new wr 33 (runL (0, 0, 0))
          rw [hM] at hz
          have KW : Hid (Kp Nb wr W2) := hid (by rw [hW2]; exact Kp.setCells (fun h => absurd h (by omega)) _ 0 _ ((Kp.refl Nb wr).alloc _))
          have HMW : Hid (wr.heap.size = M) := hid hM
          have TH := hid (run_there (q := (qn, qf, qt)) hz)
          have HZ : Hid (Blk W2 M 33 (runL (qn, qf, qt))) := hid (by rw [hW2]; exact row_set hz rfl)
          have HK2 := hid (HK.out.trans KW.out (fun _ _ h => h))
          unfold maxLen at hm
          obtain ⟨fs, hfs⟩ := under_run
          clear hz hcell hq
          go_upto_region 7 with (first
            | (refine wpList_load_mid (by rfl) 33 (.tmp 20) (by rfl) blk (off + k2 * 3) (by rfl) (runL (qn, qf, qt)) _ HR.out hfs rfl (run_infoL (qn, qf, qt)) ?_)
            | (refine wpList_store_mid (by rfl) 33 (.tmp 9) (.tmp 21) (by rfl) M 0 (runL (qn, qf, qt)).toArray (by rfl) (by rfl) TH.out (run_infoA (qn, qf, qt)) (run_one (qn, qf, qt)) ?_))
          rw [show (wr.alloc (.cells #[.int .i64 0, .int .i64 0, .int .i64 0] 33)).setCells M 0 (runL (qn, qf, qt)) = W2 from hW2.symm]
          clear hW2 TH hM
          have c0 : W2.cell? ⟨M, 0, none⟩ = some (.int .i64 qn) := HZ.out.cell 0
          have c1 : W2.cell? ⟨M, 1, none⟩ = some (.int .i64 qf) := HZ.out.cell 1
          have c2 : W2.cell? ⟨M, 2, none⟩ = some (.int .i64 qt) := HZ.out.cell 2
          have HJ : Hid (k2 < c.length) := hid (by rw [HLE.out]; exact hlt)
          have gg := goodR_of.1 (HRT.out.1 _ (runAt_mem HJ.out))
          rw [HQ.out] at gg
          dsimp only at gg
          have w1 : IntKind.i64.wrap (qt + 1) = qt + 1 := IntWalk.i64_in _ (by omega)
          clear HK HR HZ KW HMW
          by_cases h1 : qn = node
          · subst h1
            by_cases h2 : qf ≤ m
            · by_cases h3 : m ≤ qt
              · have HX := af_hit HRT.out HJ.out HQ.out h2 h3 HP.out
                have HX1 := hid HX.1
                have HX2 := hid HX.2
                clear HX
                go_wp2
                go_roundw
                case rel => exact ⟨k2 + 1, qt + 1, by rw [HLE.out]; omega, by go_num, by go_num, HX1, HX2, HK2⟩
                case measure => simp [intOf]; omega
              · have HX := hid (af_miss HJ.out HQ.out HN.out (fun h => h3 h.2.2))
                go_wp2
                go_roundw
                case rel => exact ⟨k2 + 1, m, by rw [HLE.out]; omega, by go_num, rfl, HP, HX, HK2⟩
                case measure => simp [intOf]; omega
            · have HX := hid (af_miss HJ.out HQ.out HN.out (fun h => h2 h.2.1))
              go_wp2
              go_roundw
              case rel => exact ⟨k2 + 1, m, by rw [HLE.out]; omega, by go_num, rfl, HP, HX, HK2⟩
              case measure => simp [intOf]; omega
          · have HX := hid (af_miss HJ.out HQ.out HN.out (fun h => h1 h.1))
            go_wp2
            go_roundw
            case rel => exact ⟨k2 + 1, m, by rw [HLE.out]; omega, by go_num, rfl, HP, HX, HK2⟩
            case measure => simp [intOf]; omega
        · obtain rfl : k2 = L := by omega
          have HX : Hid (Nin c node m) := hid (by have h := HN.out; rwa [← HLE.out, List.take_length] at h)
          go_wp2
          go_roundw
          case rel => exact ⟨k + 1, m, by rw [HLE.out]; omega, by go_num, rfl, HP, hid (fun _ => HX.out), HK⟩
          case measure => simp [intOf]; omega
    · obtain rfl : k = L + 1 := by omega
      have hd : ¬ ((L : Int) + 1 ≤ (L : Int)) := by omega
      have HX := HN.out (by omega)
      have HX := hid (nin_in.1 HX)
      go_wp2
      go_ret
      exact ⟨m, rfl, HP.out, HX.out, HK.out⟩

theorem rightC_bad {c : List RunQ} {k : Nat} (hk : k < c.length) (h : goodR (runAt c k) = false ∨ (0 < k ∧ gapB (runAt c (k - 1)) (runAt c k) = false)) : rightC c = false := by
  rw [Bool.eq_false_iff]
  intro hr
  have := rightC_of.1 hr k hk
  rcases h with h | ⟨h0, h⟩
  · rw [h] at this; cases this.1
  · have h2 := this.2 h0
    rw [h] at h2
    cases h2
def RrR (w : World) (c : List RunQ) (i : Value) (wr : World) : Prop := ∃ k : Nat, k ≤ c.length ∧ i = .int .i64 k ∧ Hid (∀ j, j < k → goodR (runAt c j) = true ∧ (0 < j → gapB (runAt c (j - 1)) (runAt c j) = true)) ∧ Hid (Kp Nb w wr)
set_option maxRecDepth 100000 in
set_option maxHeartbeats 8000000 in
theorem rright_any (v : Value) (c : List RunQ) (w : World) (hs : ClSl w v c) (hl : c.length ≤ 1000) :
    Calls Tryd.prog 9 #[v] w fun e w' => e = .returned (.bool (rightC c)) ∧ Kp Nb w w' := by
  obtain ⟨pv, dv, rfl⟩ := hs.shape
  obtain ⟨L, hL⟩ : ∃ L, c.length = L := ⟨_, rfl⟩
  have HLE := hid hL
  rw [hL] at hs hl ⊢
  have HS := hid hs
  have hLb := hl
  obtain ⟨R, hR⟩ : ∃ b, rightC c = b := ⟨_, rfl⟩
  have HRR := hid hR
  rw [hR]
  clear hs hL hl hR
  go_enter Tryd.func9, Tryd.ntmps9
  go_wp2_with fail
  go_loopw [7] (RrR w c) (fun i _ => L - (intOf i).toNat)
  case atStart => exact ⟨0, Nat.zero_le _, rfl, hid (fun j hj => by omega), hid (Kp.refl _ _)⟩
  case round =>
    obtain ⟨k, hk, rfl, HJ, HK⟩ := hrel
    rw [HLE.out] at hk
    by_cases hlt : k < L
    · obtain ⟨blk, off, cap, e1, hc, hm, hcell⟩ := cl_shape (HS.out.kept HK.out) (by intro h; have := HLE.out; rw [h, List.length_nil] at this; omega)
      rw [HLE.out] at e1 hc hcell
      injection e1 with e1 _ e2
      subst e1 e2
      have HR := hid (hcell k hlt)
      obtain ⟨⟨qn, qf, qt⟩, hq⟩ : ∃ q, runAt c k = q := ⟨_, rfl⟩
      have HOK := HS.out.1 k
      rw [hq] at HR HOK
      have HQ := hid hq
      obtain ⟨M, hM⟩ : ∃ M, wr.heap.size = M := ⟨_, rfl⟩
      obtain ⟨W2, hW2⟩ : ∃ W, W = (wr.alloc (.cells (runL (0, 0, 0)).toArray 33)).setCells M 0 (runL (qn, qf, qt)) := ⟨_, rfl⟩
      have hz := Blk.new wr 33 (runL (0, 0, 0))
      rw [hM] at hz
      have KW : Hid (Kp Nb wr W2) := hid (by rw [hW2]; exact Kp.setCells (fun h => absurd h (by omega)) _ 0 _ ((Kp.refl Nb wr).alloc _))
      have HMW : Hid (wr.heap.size = M) := hid hM
      have TH := hid (run_there (q := (qn, qf, qt)) hz)
      have HZ : Hid (Blk W2 M 33 (runL (qn, qf, qt))) := hid (by rw [hW2]; exact row_set hz rfl)
      have HK2 := hid (HK.out.trans KW.out (fun _ _ h => h))
      unfold maxLen at hm
      obtain ⟨fs, hfs⟩ := under_run
      clear hz hcell hq
      go_upto_region 4 with (first
        | (refine wpList_load_mid (by rfl) 33 (.tmp 10) (by rfl) blk (off + k * 3) (by rfl) (runL (qn, qf, qt)) _ HR.out hfs rfl (run_infoL (qn, qf, qt)) ?_)
        | (refine wpList_store_mid (by rfl) 33 (.tmp 4) (.tmp 11) (by rfl) M 0 (runL (qn, qf, qt)).toArray (by rfl) (by rfl) TH.out (run_infoA (qn, qf, qt)) (run_one (qn, qf, qt)) ?_))
      rw [show (wr.alloc (.cells #[.int .i64 0, .int .i64 0, .int .i64 0] 33)).setCells M 0 (runL (qn, qf, qt)) = W2 from hW2.symm]
      clear hW2 TH hM
      have c0 : W2.cell? ⟨M, 0, none⟩ = some (.int .i64 qn) := HZ.out.cell 0
      have c1 : W2.cell? ⟨M, 1, none⟩ = some (.int .i64 qf) := HZ.out.cell 1
      have c2 : W2.cell? ⟨M, 2, none⟩ = some (.int .i64 qt) := HZ.out.cell 2
      have HC : Hid (k < c.length) := hid (by rw [HLE.out]; exact hlt)
      have HSK := hid (HS.out.kept HK2.out)
      have HBAD : Hid (goodR (qn, qf, qt) = false → R = false) := hid (fun h => by rw [← HRR.out]; exact rightC_bad HC.out (.inl (by rw [HQ.out]; exact h)))
      clear HK KW HMW HR
      by_cases g0 : qn < 0
      · have HF : R = false := HBAD.out (by unfold goodR; exact decide_eq_false (by dsimp only; omega))
        subst HF
        go_wp2
        go_ret
        exact ⟨rfl, HK2.out⟩
      by_cases g1 : 7 < qn
      · have HF : R = false := HBAD.out (by unfold goodR; exact decide_eq_false (by dsimp only; omega))
        subst HF
        go_wp2
        go_ret
        exact ⟨rfl, HK2.out⟩
      by_cases g2 : qf < 1
      · have HF : R = false := HBAD.out (by unfold goodR; exact decide_eq_false (by dsimp only; omega))
        subst HF
        go_wp2
        go_ret
        exact ⟨rfl, HK2.out⟩
      by_cases g3 : qt < qf
      · have HF : R = false := HBAD.out (by unfold goodR; exact decide_eq_false (by dsimp only; omega))
        subst HF
        go_wp2
        go_ret
        exact ⟨rfl, HK2.out⟩
      by_cases g4 : 1099511627776 < qt
      · have HF : R = false := HBAD.out (by unfold goodR; exact decide_eq_false (by dsimp only; omega))
        subst HF
        go_wp2
        go_ret
        exact ⟨rfl, HK2.out⟩
      have HGD : Hid (goodR (qn, qf, qt) = true) := hid (goodR_of.2 (by dsimp only; omega))
      by_cases hk0 : k = 0
      · subst hk0
        have HJN : Hid (∀ j, j < 0 + 1 → goodR (runAt c j) = true ∧ (0 < j → gapB (runAt c (j - 1)) (runAt c j) = true)) := hid (fun j hj => by
          obtain rfl : j = 0 := by omega
          exact ⟨by rw [HQ.out]; exact HGD.out, fun h => by omega⟩)
        go_wp2_with fail
        go_quiet (fail)
        have HK2 := hid (HK2.out.drewN nq)
        go_wp2
        go_roundw
        case rel => exact ⟨0 + 1, by rw [HLE.out]; omega, by go_num, HJN, HK2⟩
        case measure => simp [intOf]; omega
      · obtain ⟨q, rfl⟩ : ∃ q, k = q + 1 := ⟨k - 1, by omega⟩
        obtain ⟨⟨pn, pf, pt⟩, hp⟩ : ∃ x, runAt c q = x := ⟨_, rfl⟩
        have HP := hid hp
        have hgp := (HJ.out q (by omega)).1
        rw [hp] at hgp
        have gp := goodR_of.1 hgp
        dsimp only at gp
        obtain ⟨blk2, off2, cap2, e3, hc3, hm3, hcell2⟩ := cl_shape HSK.out (by intro h; have := HLE.out; rw [h, List.length_nil] at this; omega)
        rw [HLE.out] at e3 hc3 hcell2
        injection e3 with e3 _ e4
        injection e3 with e3
        injection e3 with e3 e5
        subst e3 e4 e5
        have hrp := hcell2 q (by omega)
        rw [hp] at hrp
        have e0 : W2.cell? ⟨blk, off + q * 3 + 0, none⟩ = some (.int .i64 pn) := hrp 0 _ rfl
        have e2 : W2.cell? ⟨blk, off + q * 3 + 2, none⟩ = some (.int .i64 pt) := hrp 2 _ rfl
        rw [Nat.add_zero] at e0
        have w1 : IntKind.i64.wrap ((q : Int) + 1 - 1) = (q : Int) := by rw [show (q : Int) + 1 - 1 = (q : Int) by omega]; exact IntWalk.i64_in _ (by omega)
        have hqL : q < L := by omega
        have w3 : IntKind.i64.wrap (q : Int) = (q : Int) := IntWalk.i64_in _ (by omega)
        have w2 : IntKind.i64.wrap (pt + 2) = pt + 2 := IntWalk.i64_in _ (by omega)
        have HGP : Hid (∀ b, gapB (pn, pf, pt) (qn, qf, qt) = b → gapB (runAt c (q + 1 - 1)) (runAt c (q + 1)) = b) := hid (fun b h => by rw [HQ.out, Nat.add_sub_cancel, HP.out]; exact h)
        have HBG : Hid (gapB (pn, pf, pt) (qn, qf, qt) = false → R = false) := hid (fun h => by rw [← HRR.out]; exact rightC_bad HC.out (.inr ⟨by omega, HGP.out _ h⟩))
        have HJN : Hid (gapB (pn, pf, pt) (qn, qf, qt) = true → ∀ j, j < q + 1 + 1 → goodR (runAt c j) = true ∧ (0 < j → gapB (runAt c (j - 1)) (runAt c j) = true)) := hid (fun h j hj => by
          rcases Nat.lt_or_ge j (q + 1) with h2 | h2
          · exact HJ.out j h2
          · obtain rfl : j = q + 1 := by omega
            exact ⟨by rw [HQ.out]; exact HGD.out, fun _ => HGP.out _ h⟩)
        clear hp hgp hrp hcell2 hm3 hc3 HGP HBAD
        by_cases h1 : qn < pn
        · have HF : R = false := HBG.out (by unfold gapB; simp [h1])
          subst HF
          go_wp2_with fail
          go_quiet (fail)
          have HK2 := hid (HK2.out.drewN nq)
          go_wp2
          go_ret
          exact ⟨rfl, HK2.out⟩
        · by_cases h2 : pn = qn
          · subst h2
            by_cases h3 : qf < pt + 2
            · have HF : R = false := HBG.out (by unfold gapB; simp [h3])
              subst HF
              go_wp2_with fail
              go_quiet (fail)
              have HK2 := hid (HK2.out.drewN nq)
              go_wp2
              go_ret
              exact ⟨rfl, HK2.out⟩
            · have HX := hid (HJN.out (by unfold gapB; simp [h3]))
              go_wp2_with fail
              go_quiet (fail)
              have HK2 := hid (HK2.out.drewN nq)
              go_wp2
              go_roundw
              case rel => exact ⟨q + 1 + 1, by rw [HLE.out]; omega, by go_num, HX, HK2⟩
              case measure => simp [intOf]; omega
          · have h4 : (pn == qn) = false := beq_eq_false_iff_ne.2 h2
            have h5 : decide (qn < pn) = false := decide_eq_false h1
            have HX := hid (HJN.out (by unfold gapB; simp [h1]; omega))
            clear h1
            go_wp2_with fail
            go_quiet (fail)
            have HK2 := hid (HK2.out.drewN nq)
            go_wp2
            go_roundw
            case rel => exact ⟨q + 1 + 1, by rw [HLE.out]; omega, by go_num, HX, HK2⟩
            case measure => simp [intOf]; omega
    · obtain rfl : k = L := by omega
      have HF : R = true := by rw [← HRR.out]; exact rightC_of.2 (fun i hi => HJ.out i (by rw [← HLE.out]; exact hi))
      subst HF
      go_wp2
      go_ret
      exact ⟨rfl, HK.out⟩

end Go.Proofs.YtbbfibgijackhaaDoor
