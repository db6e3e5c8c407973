/-
  A range over a function whose elements are made afresh while it runs: the iterator's contract says at its end what holds of the elements in the world that it leaves (the kit's own contract, SeqStopsK, says of the world only what the caller's invariant does); the loop's law over it. Nothing of the program is named here. Condition: what the contract and the invariants ask.
-/
import Derived.RangeFuncNested
namespace Go.Proofs.Ytijlmfmpfjjlpaa
open Go.RowKit

variable {F : Fence} {n : Nat} {P : Program}
def SeqW {α : Type} (F : Fence) (n : Nat) (P : Program) (g : Nat) (lb : Array Value) (encs : α → Array Value) (K : World → World → Prop) (S Sp : List α → World → Prop) (N : Nat) (w : World) : Prop :=
  ∀ (l : Nat) (J Jx : List α → World → Prop) (W : World), Below w.heap.size w W → AbidesFrom W.heap.size J → AbidesFrom W.heap.size Jx →
    (∀ pre x W1, J pre W1 → pre.length < N → YieldAt F (n - 1) P l (encs x) W1 fun e W' =>
      K W1 W' ∧ ((e = .returned (.bool true) ∧ J (pre ++ [x]) W') ∨ (e = .returned (.bool false) ∧ Jx (pre ++ [x]) W'))) →
    J [] W → CallsIn F n P g (#[.func (.yield l) #[] #[]] ++ lb) W fun e W' => (∃ v, e = .returned v) ∧ ((∃ xs, S xs W' ∧ J xs W') ∨ (∃ pre, Sp pre W' ∧ Jx pre W'))
/-- How a round's body is left: in whatever way, it has kept its word. -/
def leftW {α : Type} (B : Nat) (K : World → World → Prop) (I : List α → World → Prop) (Ix : Code → List α → World → Prop) (xs : List α) (W : World) : Exit → Act → World → Prop
  | .normal, _, W' => KeepsFrom B W W' ∧ K W W' ∧ I xs W'
  | .ret, _, W' => KeepsFrom B W W' ∧ K W W' ∧ Ix .ret xs W'
  | .exit id, _, W' => KeepsFrom B W W' ∧ K W W' ∧ Ix (.exit id) xs W'
  | .goto t, _, W' => KeepsFrom B W W' ∧ K W W' ∧ Ix (.goto t) xs W'
  | .panic _, _, _ => False
  | .outgrown, _, _ => False
/-- The loop's two blocks: the rounds' deferred calls (none) and its record. -/
structure BookW (B : Nat) (o : Loop) (W : World) : Prop where
  calls : W.heap[B]? = some (.deferred (some []))
  rec' : W.heap[B + 1]? = some (.loop o)
theorem BookW.lt {B : Nat} {o : Loop} {W : World} (h : BookW B o W) : B + 1 < W.heap.size := (Array.getElem?_eq_some_iff.1 h.rec').1
theorem BookW.from {B : Nat} {o : Loop} {W W' : World} (h : BookW B o W) (k : KeepsFrom B W W') : BookW B o W' := ⟨k.same _ _ (Nat.le_refl _) h.calls rfl, k.same _ _ (by omega) h.rec' rfl⟩
theorem BookW.put {B : Nat} {o : Loop} {W : World} (h : BookW B o W) (o' : Loop) : BookW B o' (W.putObj (B + 1) (.loop o')) := ⟨(World.putObj_heap_other (by omega)).trans h.calls, World.putObj_heap_same h.lt⟩
theorem BookW.abides {B : Nat} {o : Loop} {W W' : World} {row : Option Nat} (h : BookW B o W) (g : W.grownBy W' row) (hr : ∀ r, row = some r → ∃ q : Obj, W.heap[r]? = some q ∧ q.isWalk = true) : BookW B o W' :=
  ⟨(grownBy_keeps g hr h.calls rfl).trans h.calls, (grownBy_keeps g hr h.rec' rfl).trans h.rec'⟩

set_option maxHeartbeats 400000 in
theorem wpIn_rangeW {α : Type} {g : Operand} {ps : Array Tmp} {assign body : Code} {Q : Exit → Act → World → Prop} {a : Act} {w : World}
    (hro : F.round = none) (h1 : 1 ≤ n) {gf : Nat} {lb : Array Value} (hg : a.eval g = .func (.func gf) #[] lb) (hFg : F.fn gf) (eg : ∀ args w, (callFunc gf args).run P w = .ok (.enter gf args) w)
    {encs : α → Array Value} {K : World → World → Prop} {S Sp : List α → World → Prop} {N : Nat} {w0 : World} (hseq : SeqW F (n - 1) P gf lb encs K S Sp N w0)
    (hKt : ∀ {A B C : World}, K A B → K B C → K A C) (hKb : ∀ (W : World) (l : Nat) (o o' : Obj), w.heap.size ≤ l → W.heap[l]? = some o → o.isCells = false → K W (W.putObj l o'))
    (hSb : ∀ xs, OwnFrom w.heap.size (fun (_ : Unit) W => S xs W)) (hSp : ∀ xs, OwnFrom w.heap.size (fun (_ : Unit) W => Sp xs W)) (hb0 : Below w0.heap.size w0 w) (hps : ∀ x, (encs x).size = ps.size)
    (I : List α → World → Prop) (Ix : Code → List α → World → Prop) (hI : OwnFrom w.heap.size I) (hIx : ∀ c, OwnFrom w.heap.size (Ix c)) (h0 : I [] w) (Ax : α → Act → World → Prop) (hAx : ∀ x a', OwnFrom w.heap.size (fun (_ : Unit) W => Ax x a' W))
    (hassign : ∀ (l : Nat) (pre : List α) (x : α) (W : World) (R : Act → World → Prop), I pre W → (∀ a' W', KeepsFrom w.heap.size W W' → K W W' → I pre W' → Ax x a' W' → R a' W') →
      assign.wpIn (F.inRound l) (n - 1 - 1) P (Exit.then R (fun _ _ _ => False)) { tmps := (ps.zip (encs x)).foldl (fun t (p, v) => t.setIfInBounds p v) a.tmps, defers := [] } W)
    (hbody : ∀ (l : Nat) (pre : List α) (x : α) (a' : Act) (W : World), I pre W → Ax x a' W → pre.length < N → body.wpIn (F.inRound l) (n - 1 - 1) P (leftW w.heap.size K I Ix (pre ++ [x]) W) a' W)
    (hdone : ∀ (D : Nat) (xs : List α) (W : World), w.heap.size ≤ D → S xs W → I xs W → W.heap[D]? = some (.deferred (some [])) → Q .normal { a with defers := { target := .collected D, args := #[] } :: a.defers } W)
    (hstop : ∀ (D : Nat) (c : Code) (pre : List α) (W : World), w.heap.size ≤ D → Sp pre W → Ix c pre W → W.heap[D]? = some (.deferred (some [])) → c.wpIn F n P Q { a with defers := { target := .collected D, args := #[] } :: a.defers } W) :
    (Code.rangeFunc g ps assign body).wpIn F n P Q a w := by
  refine wpIn_rangeFunc fun fn hfn => ?_
  rw [hro]
  obtain ⟨o, ho⟩ : ∃ o : LoopState → Option Code → Loop, o = fun st pe => { state := st, pending := pe, fn, tmps := a.tmps, params := ps, assign, body, defers := w.heap.size } := ⟨_, rfl⟩
  obtain ⟨W1, hW1⟩ : ∃ W1, W1 = (w.alloc (.deferred (some []))).alloc (.loop (o .ready none)) := ⟨_, rfl⟩
  have eB : ({ o .ready none with state := .busy } : Loop) = o .busy none := by rw [ho]
  have eR : ∀ jump : Option Code, ({ o .busy none with state := if jump.isNone then .ready else .done, pending := jump } : Loop) = o (if jump.isNone then .ready else .done) jump := fun jump => by rw [ho]
  have eY : (o .ready none).fn = fn ∧ (o .ready none).params = ps ∧ (o .ready none).tmps = a.tmps ∧ (o .ready none).assign = assign ∧ (o .ready none).body = body := by rw [ho]; exact ⟨rfl, rfl, rfl, rfl, rfl⟩
  have eS : ∀ st pe, (o st pe).state = st ∧ (o st pe).pending = pe := fun st pe => by rw [ho]; exact ⟨rfl, rfl⟩
  have bk : BookW w.heap.size (o .ready none) W1 := by
    rw [hW1]
    constructor
    · exact (Below.heap_alloc _ _ _ (by simp)).trans (World.alloc_heap_new w _)
    · have h := World.alloc_heap_new (w.alloc (.deferred (some []))) (.loop (o .ready none))
      rw [World.size_alloc] at h
      exact h
  have low : Below w0.heap.size w0 W1 := by rw [hW1]; exact hb0.trans ((((Below.refl _ w).alloc (Nat.le_refl _) _).alloc (by simp) _).mono hb0.size)
  have sz : w.heap.size + 2 = W1.heap.size := by rw [hW1]; simp
  have far : ∀ {A : World} {row : Option Nat}, (∀ r, row = some r → W1.heap.size ≤ r ∧ ∃ q : Obj, A.heap[r]? = some q ∧ q.isWalk = true) → (∀ r, row = some r → w.heap.size ≤ r ∧ ∃ q : Obj, A.heap[r]? = some q ∧ q.isCells = false) := fun hr r e => by
    obtain ⟨h, q, hq, hw⟩ := hr r e
    exact ⟨by omega, q, hq, Obj.not_cells_of_walk hw⟩
  have round : ∀ (pre : List α) (x : α) (W : World), (I pre W ∧ BookW w.heap.size (o .ready none) W) → pre.length < N → YieldAt F (n - 1 - 1) P (w.heap.size + 1) (encs x) W fun e W' =>
      K W W' ∧ ((e = .returned (.bool true) ∧ (I (pre ++ [x]) W' ∧ BookW w.heap.size (o .ready none) W')) ∨ (e = .returned (.bool false) ∧ ∃ c, Ix c (pre ++ [x]) W' ∧ BookW w.heap.size (o .done (some c)) W')) := by
    intro pre x W hi hlen
    obtain ⟨hi, b⟩ := hi
    have hy := run_yield (P := P) (args := encs x) b.rec' (by rw [eY.2.1]; exact hps x)
    rw [eY.1, eY.2.1, eY.2.2.1, eY.2.2.2.1, eY.2.2.2.2] at hy
    refine ⟨fn, _, assign, body, hy, roundIn_of_wpIn hfn (hassign _ pre x W _ hi fun a' Wa ka kk hia hax => ?_)⟩
    have ba := b.from ka
    have bb := ba.put (o .busy none)
    have hbr := run_beginRound (P := P) ba.rec' (eS _ _).1
    rw [eB] at hbr
    refine ⟨_, hbr, ?_⟩
    have k2 : K W (Wa.putObj (w.heap.size + 1) (.loop (o .busy none))) := hKt kk (hKb _ _ _ _ (by omega) ba.rec' rfl)
    have key : ∀ (jump : Option Code) (W3 : World), KeepsFrom w.heap.size (Wa.putObj (w.heap.size + 1) (.loop (o .busy none))) W3 → K (Wa.putObj (w.heap.size + 1) (.loop (o .busy none))) W3 →
        BookW w.heap.size (o .busy none) W3 ∧ (Instr.endRound (w.heap.size + 1) jump).run P W3 = .ok (.bool jump.isNone) (W3.putObj (w.heap.size + 1) (.loop (o (if jump.isNone then .ready else .done) jump))) ∧
        BookW w.heap.size (o (if jump.isNone then .ready else .done) jump) (W3.putObj (w.heap.size + 1) (.loop (o (if jump.isNone then .ready else .done) jump))) ∧ K W (W3.putObj (w.heap.size + 1) (.loop (o (if jump.isNone then .ready else .done) jump))) := fun jump W3 h3 h4 => by
      have b3 := bb.from h3
      have her := run_endRound (P := P) jump b3.rec'
      rw [eR] at her
      exact ⟨b3, her, b3.put _, hKt (hKt k2 h4) (hKb _ _ _ _ (by omega) b3.rec' rfl)⟩
    refine wpIn_mono (hbody _ pre x a' _ (hI.putObj _ hia (by omega) ba.rec' rfl) ((hAx x a').putObj (s := ()) _ hax (by omega) ba.rec' rfl) hlen) fun e a3 W3 left => ?_
    cases e with
    | normal =>
      obtain ⟨h3, h4, hi3⟩ := left
      obtain ⟨b3, hr, b4, k4⟩ := key none W3 h3 h4
      exact ⟨_, _, hr, k4, .inl ⟨rfl, hI.putObj _ hi3 (by omega) b3.rec' rfl, b4⟩⟩
    | ret =>
      obtain ⟨h3, h4, hi3⟩ := left
      obtain ⟨b3, hr, b4, k4⟩ := key (some .ret) W3 h3 h4
      exact ⟨_, _, hr, k4, .inr ⟨rfl, .ret, (hIx _).putObj _ hi3 (by omega) b3.rec' rfl, b4⟩⟩
    | exit id =>
      obtain ⟨h3, h4, hi3⟩ := left
      obtain ⟨b3, hr, b4, k4⟩ := key (some (.exit id)) W3 h3 h4
      exact ⟨_, _, hr, k4, .inr ⟨rfl, .exit id, (hIx _).putObj _ hi3 (by omega) b3.rec' rfl, b4⟩⟩
    | goto t =>
      obtain ⟨h3, h4, hi3⟩ := left
      obtain ⟨b3, hr, b4, k4⟩ := key (some (.goto t)) W3 h3 h4
      exact ⟨_, _, hr, k4, .inr ⟨rfl, .goto t, (hIx _).putObj _ hi3 (by omega) b3.rec' rfl, b4⟩⟩
    | panic ch => exact left.elim
    | outgrown => exact left.elim
  have call := hseq (w.heap.size + 1) (fun pre W => I pre W ∧ BookW w.heap.size (o .ready none) W) (fun pre W => ∃ c, Ix c pre W ∧ BookW w.heap.size (o .done (some c)) W) W1 low
    (fun s A C row hs gr hr => ⟨hI s A C row hs.1 gr (far hr), hs.2.abides gr fun r e => (hr r e).2⟩)
    (fun s A C row hs gr hr => by obtain ⟨c, h, b⟩ := hs; exact ⟨c, hIx c s A C row h gr (far hr), b.abides gr fun r e => (hr r e).2⟩)
    round ⟨by rw [hW1]; exact hI.alloc _ (hI.alloc _ h0), bk⟩
  have hen := run_enterLoop_outer (P := P) (w := w) fn a.tmps ps assign body
  rw [show ({ state := .ready, pending := none, fn, tmps := a.tmps, params := ps, assign, body, defers := w.heap.size } : Loop) = o .ready none from by rw [ho], ← hW1] at hen
  refine ⟨w.heap.size + 1, [{ target := .collected w.heap.size, args := #[] }], W1, { target := .fn (.func gf) lb, args := #[.func (.yield (w.heap.size + 1)) #[] #[]] }, W1, gf, #[.func (.yield (w.heap.size + 1)) #[] #[]] ++ lb, W1,
    hen, ?_, ?_, ?_, fun _ => h1, ?_⟩
  · simp only [resolve, hg]
    simp [go_sem]
  · intro f' hf'
    simp [Target.leads] at hf'
    subst hf'
    exact hFg
  · simp [invoke, go_sem, eg]
  · refine call.mono ?_
    rintro e W2 ⟨⟨v, rfl⟩, (⟨xs, hS, hi, b⟩ | ⟨pre, hS, c, hi, b⟩)⟩
    · have hel := run_endLoop (P := P) b.rec' (by rw [(eS _ _).1]; simp)
      rw [(eS _ _).2] at hel
      exact ⟨none, _, hel, hdone _ xs _ (by omega) ((hSb xs).putObj (s := ()) _ hS (by omega) b.rec' rfl) (hI.putObj _ hi (by omega) b.rec' rfl) (b.put _).calls⟩
    · have hel := run_endLoop (P := P) b.rec' (by rw [(eS _ _).1]; simp)
      rw [(eS _ _).2] at hel
      exact ⟨some c, _, hel, hstop _ c pre _ (by omega) ((hSp pre).putObj (s := ()) _ hS (by omega) b.rec' rfl) ((hIx c).putObj _ hi (by omega) b.rec' rfl) (b.put _).calls⟩

end Go.Proofs.Ytijlmfmpfjjlpaa
