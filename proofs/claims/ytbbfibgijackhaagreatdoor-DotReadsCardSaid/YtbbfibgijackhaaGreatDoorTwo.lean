/-
  'a, b = append(a, x), append(b, y)' where a and b lie in boxes, in whatever order its operations are carried out, in a round of a range over a function as well: behind it the boxes hold slices that own one element more. Nothing of the program is named here. Conditions: the boxes and the rows are apart; the reach.
-/
import Derived.Test.YtbbfibgijackhaaGreatDoorRegInv
import Derived.RangeFuncBox
import Derived.RangeFuncCalls
import Derived.Deep.AppendLies
namespace Go.Proofs.YtbbfibgijackhaaGreatDoor
open Go.RowKit

/-- What a step may turn: blocks of S; and no block that is no cells. -/
structure Moves (S : Nat → Prop) (w w' : World) : Prop where
  os : w'.os = w.os
  tape : w'.tape = w.tape
  output : w'.output = w.output
  size : w.heap.size ≤ w'.heap.size
  same : ∀ b, b < w.heap.size → ¬ S b → w'.heap[b]? = w.heap[b]?
  other : ∀ (b : Nat) (o : Obj), w.heap[b]? = some o → o.isCells = false → w'.heap[b]? = some o

theorem Moves.refl (S : Nat → Prop) (w : World) : Moves S w w := ⟨rfl, rfl, rfl, Nat.le_refl _, fun _ _ _ => rfl, fun _ _ h _ => h⟩
theorem Moves.drew (S : Nat → Prop) (w : World) : Moves S w w.drew := ⟨rfl, rfl, rfl, Nat.le_refl _, fun _ _ _ => rfl, fun _ _ h _ => h⟩
theorem Moves.trans {S S' T : Nat → Prop} {a b c : World} (h : Moves S a b) (k : Moves S' b c) (hS : ∀ i, S i → T i) (hS' : ∀ i, i < a.heap.size → S' i → T i) : Moves T a c :=
  ⟨k.os.trans h.os, k.tape.trans h.tape, k.output.trans h.output, Nat.le_trans h.size k.size,
    fun i hi hn => (k.same i (Nat.lt_of_lt_of_le hi h.size) (fun h' => hn (hS' i hi h'))).trans (h.same i hi (fun h' => hn (hS i h'))), fun i o hi ho => k.other i o (h.other i o hi ho) ho⟩
theorem Moves.alloc (S : Nat → Prop) (w : World) (o : Obj) : Moves S w (w.alloc o) :=
  ⟨rfl, rfl, rfl, by simp, fun i hi _ => Below.heap_alloc _ _ _ hi, fun i o' hi _ => (Below.heap_alloc _ _ _ (Array.getElem?_eq_some_iff.1 hi).1).trans hi⟩
theorem Moves.set {S : Nat → Prop} {w : World} {B : Nat} {t : TypeId} {v : Value} (hb : Boxed w B t v) (hS : S B) (u : Value) : Moves S w (w.setCell ⟨B, 0, none⟩ u) :=
  ⟨rfl, rfl, rfl, by simp, fun i _ hn => Below.heap_setCell _ _ _ i (fun e => hn (by rw [e]; exact hS)), fun i o hi ho => by
    refine (Below.heap_setCell _ _ _ i (fun e => ?_)).trans hi
    rw [e] at hi
    have := (show w.heap[B]? = _ from hb).symm.trans hi
    cases this
    cases ho⟩
theorem Moves.grown {S : Nat → Prop} {w w' : World} {row : Option Nat} (hg : w.grownBy w' row) (hS : ∀ g, row = some g → S g) (hc : ∀ g o, row = some g → w.heap[g]? = some o → o.isCells = true) : Moves S w w' :=
  ⟨hg.os, hg.tape, hg.output, hg.size, fun i hi hn => hg.block i hi (fun e => hn (hS i e.symm)), fun i o hi ho => (hg.block i (Array.getElem?_eq_some_iff.1 hi).1 (fun e => by
    have := hc i o e.symm hi
    rw [ho] at this
    cases this)).trans hi⟩

/-- One of the two: its box, its row, what is put behind, its slots and its operations. -/
structure Ch where
  T : Nat
  B : Nat
  e : Nat
  size : Nat
  base : Nat
  k : Nat
  v : Value
  x : Value
  xs : List Value
  cells : List Value
  tb : Nat
  tx : Nat
  dl : Nat
  dm : Nat
  ds : Nat
  dp : Nat
  il : Nat
  im : Nat
  ib : Nat
  ip : Nat
  it : Nat
  xa : Value
  src : World → Prop

def Ch.Inv (c : Ch) (S : Nat → Prop) (L : Nat → Bool) (a : Act) (w : World) : Prop :=
  a.eval (.tmp c.tb) = .pointer (some ⟨c.B, 0, none⟩) ∧ a.eval (.tmp c.tx) = c.xa ∧
  (L c.il = true → a.eval (.tmp c.dl) = c.v) ∧ (L c.im = true → a.eval (.tmp c.dm) = c.x) ∧
  (L c.ib = true → L c.ip = false → ∃ g, S g ∧ g ≠ c.B ∧ c.v.ownBlock ≠ some g ∧ a.eval (.tmp c.ds) = .slice (some ⟨g, 0, none⟩) 1 1 ∧ w.heap[g]? = some (.cells c.cells.toArray c.e (0, 0))) ∧
  S c.B ∧ (∀ g, S g → g < w.heap.size) ∧
  (L c.ip = false → L c.it = false ∧ (∀ g, c.v.ownBlock = some g → S g) ∧ w.ownsRow c.base c.e c.size c.v c.k c.xs ∧ Boxed w c.B c.T c.v) ∧
  (L c.ip = true → ∃ g cap, S g ∧ g ≠ c.B ∧ a.eval (.tmp c.dp) = .slice (some ⟨g, 0, none⟩) (c.k + 1) cap ∧ w.ownsRow c.base c.e c.size (.slice (some ⟨g, 0, none⟩) (c.k + 1) cap) (c.k + 1) (c.xs ++ c.cells) ∧
    (L c.it = true → Boxed w c.B c.T (.slice (some ⟨g, 0, none⟩) (c.k + 1) cap)) ∧ (L c.it = false → Boxed w c.B c.T c.v))

theorem ownsRow_same {w w' : World} {base n size : Nat} {t : TypeId} {v : Value} {xs : List Value} (h : w.ownsRow base t size v n xs) (hb : ∀ g, v.ownBlock = some g → w'.heap[g]? = w.heap[g]?) : w'.ownsRow base t size v n xs := by
  refine ⟨h.1, ?_⟩
  rcases h.2 with hn | ⟨g, cap, cur, rfl, hbg, hgg, rest⟩
  · exact .inl hn
  · exact .inr ⟨g, cap, cur, rfl, hbg, by rw [hb g rfl]; exact hgg, rest⟩

/-- Apart from the other one's step it stays. -/
theorem Ch.Inv.stay {c : Ch} {S : Nat → Prop} {L L' : Nat → Bool} {a a' : Act} {w w' : World} (h : c.Inv S L a w) (hw : ∀ g, S g → w'.heap[g]? = w.heap[g]?) (hs : w.heap.size ≤ w'.heap.size)
    (ha : ∀ d, d = c.tb ∨ d = c.tx ∨ d = c.dl ∨ d = c.dm ∨ d = c.ds ∨ d = c.dp → a'.eval (.tmp d) = a.eval (.tmp d))
    (hL : ∀ i, i = c.il ∨ i = c.im ∨ i = c.ib ∨ i = c.ip ∨ i = c.it → L' i = L i) : c.Inv S L' a' w' := by
  obtain ⟨h1, h2, h3, h4, h5, h6, h7, h8, h9⟩ := h
  unfold Ch.Inv
  rw [hL c.il (by simp), hL c.im (by simp), hL c.ib (by simp), hL c.ip (by simp), hL c.it (by simp), ha c.tb (by simp), ha c.tx (by simp), ha c.dl (by simp), ha c.dm (by simp), ha c.ds (by simp), ha c.dp (by simp)]
  have hbox : ∀ {u : Value}, Boxed w c.B c.T u → Boxed w' c.B c.T u := fun hb => (hw _ h6).trans hb
  refine ⟨h1, h2, h3, h4, fun p q => ?_, h6, fun g hg => Nat.lt_of_lt_of_le (h7 g hg) hs, fun p => ?_, fun p => ?_⟩
  · obtain ⟨g, g1, g2, g3, g4, g5⟩ := h5 p q
    exact ⟨g, g1, g2, g3, g4, (hw g g1).trans g5⟩
  · obtain ⟨e1, e2, e3, e4⟩ := h8 p
    exact ⟨e1, e2, ownsRow_same e3 (fun g hg => hw g (e2 g hg)), hbox e4⟩
  · obtain ⟨g, cap, e1, e2, e3, e4, e5, e6⟩ := h9 p
    exact ⟨g, cap, e1, e2, e3, ownsRow_same e4 (fun g' hg => by
      have : g = g' := by simpa [Value.ownBlock] using hg
      subst this
      exact hw g e1), fun q => hbox (e5 q), fun q => hbox (e6 q)⟩

/-- What the program must give of one of the two. -/
structure Ch.Ok (c : Ch) (P : Program) (ops : Array Oper) (N : Nat) : Prop where
  load : ∀ (w : World) (u : Value), w.cell? ⟨c.B, 0, none⟩ = some u → (Instr.loadAt c.T (.pointer (some ⟨c.B, 0, none⟩))).run P w = .ok u w
  make : ∀ w : World, (Instr.buildSlice c.T 1 #[(0, c.x)]).run P w = .ok (.slice (some ⟨w.heap.size, 0, none⟩) 1 1) (w.alloc (.cells c.cells.toArray c.e (0, 0)))
  store : ∀ (w : World) (g n cap : Nat) (u : Value), w.cell? ⟨c.B, 0, none⟩ = some u → w.frozen? ⟨c.B, 0, none⟩ = false → (Instr.storeAt c.T (.pointer (some ⟨c.B, 0, none⟩)) (.slice (some ⟨g, 0, none⟩) n cap)).run P w = .ok () (w.setCell ⟨c.B, 0, none⟩ (.slice (some ⟨g, 0, none⟩) n cap))
  slice : P.underlying c.T = some (.slice c.e)
  info : ∃ i z bytes, P.info? c.e = some i ∧ i.zero = some z ∧ i.size = c.size ∧ i.bytes = bytes ∧ z.cells.size = c.size ∧ (c.k + 1) * bytes ≤ 140737488355328
  size : 0 < c.size
  one : ∀ u ∈ c.cells, u.oneCell' = true
  len : c.cells.length = c.size
  most : c.k + 1 ≤ maxLen
  te : c.T ≠ c.e
  ol : ∃ o, ops[c.il]? = some o ∧ o.op = .load c.T (.tmp c.tb) ∧ o.dst = some c.dl ∧ o.guard = none
  om : ∃ o, ops[c.im]? = some o ∧ (∀ d, o.op ≠ .defer d) ∧ (∀ (w : World) (ev : Operand → Value), o.about P w ev = none) ∧ (∀ (w : World) (a : Act), c.src w → a.eval (.tmp c.tx) = c.xa → (execOp a.eval o).run P w = .ok (.value c.x) w) ∧ o.dst = some c.dm ∧ o.guard = none
  ob : ∃ o, ops[c.ib]? = some o ∧ o.op = .buildSlice c.T 1 #[(0, .tmp c.dm)] ∧ o.dst = some c.ds ∧ o.guard = none ∧ ∃ e ∈ o.after, Region.binds .any e = true ∧ e.on = c.im
  op : ∃ o, ops[c.ip]? = some o ∧ o.op = .call { callee := .builtin .append, args := #[.tmp c.dl, .tmp c.ds], argTypes := #[c.T, c.T] } ∧ o.dst = some c.dp ∧ o.guard = none ∧ (∃ e ∈ o.after, Region.binds .any e = true ∧ e.on = c.il) ∧ (∃ e ∈ o.after, Region.binds .any e = true ∧ e.on = c.ib)
  ot : ∃ o, ops[c.it]? = some o ∧ o.op = .store c.T (.tmp c.tb) (.tmp c.dp) ∧ o.dst = none ∧ o.guard = none ∧ ∃ e ∈ o.after, Region.binds .any e = true ∧ e.on = c.ip
  ds : c.dl < N ∧ c.dm < N ∧ c.ds < N ∧ c.dp < N
  ne : c.tb ≠ c.dl ∧ c.tb ≠ c.dm ∧ c.tb ≠ c.ds ∧ c.tb ≠ c.dp ∧ c.tx ≠ c.dl ∧ c.tx ≠ c.dm ∧ c.tx ≠ c.ds ∧ c.tx ≠ c.dp ∧ c.dl ≠ c.dm ∧ c.dl ≠ c.ds ∧ c.dl ≠ c.dp ∧ c.dm ≠ c.ds ∧ c.dm ≠ c.dp ∧ c.ds ≠ c.dp
  ni : c.il ≠ c.im ∧ c.il ≠ c.ib ∧ c.il ≠ c.ip ∧ c.il ≠ c.it ∧ c.im ≠ c.ib ∧ c.im ≠ c.ip ∧ c.im ≠ c.it ∧ c.ib ≠ c.ip ∧ c.ib ≠ c.it ∧ c.ip ≠ c.it

def Ch.Out (c : Ch) (P : Program) (S : Nat → Prop) (L : Nat → Bool) (a : Act) (w : World) (i : Nat) (o : Oper) : Prop :=
  ∃ (r : Next) (u : Value) (w' : World) (S' : Nat → Prop), (execOp a.eval o).run P w = .ok r w' ∧ (r = .value u ∨ r = .skip ∧ u = undef) ∧ (∀ d, o.op ≠ .defer d) ∧ o.about P w a.eval = none ∧ o.guard = none ∧
    Moves S w w' ∧ (∀ g, S g → S' g) ∧ (∀ g, S' g → S g ∨ w.heap.size ≤ g) ∧ c.Inv S' (upd L i) (a.put o.dst u) w' ∧ (∀ d, o.dst = some d → d = c.dl ∨ d = c.dm ∨ d = c.ds ∨ d = c.dp)

theorem upd_same (L : Nat → Bool) (i : Nat) : upd L i i = true := by simp [upd]
theorem upd_ne (L : Nat → Bool) (i j : Nat) (h : j ≠ i) : upd L i j = L j := by simp [upd, h]

section
variable {P : Program} {ops : Array Oper} {N : Nat} {c : Ch} {S : Nat → Prop} {L : Nat → Bool} {a : Act} {w : World}

theorem Ch.step_l (k : c.Ok P ops N) (hN : a.tmps.size = N) (h : c.Inv S L a w) (hu : L c.il = false) {o : Oper} (ho : ops[c.il]? = some o) (hpl : L c.ip = true → L c.il = true) : c.Out P S L a w c.il o := by
  obtain ⟨o', e1, e2, e3, e4⟩ := k.ol
  obtain rfl : o = o' := by rw [ho] at e1; exact Option.some.inj e1
  have hip : L c.ip = false := by
    cases hp : L c.ip with
    | false => rfl
    | true => rw [hpl hp] at hu; cases hu
  obtain ⟨h1, h2, h3, h4, h5, h6, h7, h8, h9⟩ := h
  obtain ⟨b1, b2, b3, b4⟩ := h8 hip
  obtain ⟨d1, d2, d3, d4⟩ := k.ds
  rw [← hN] at d1 d2 d3 d4
  obtain ⟨n1, n2, n3, n4, n5, n6, n7, n8, n9, n10, n11, n12, n13, n14⟩ := k.ne
  obtain ⟨m1, m2, m3, m4, m5, m6, m7, m8, m9, m10⟩ := k.ni
  refine ⟨.value c.v, c.v, w, S, ?_, .inl rfl, (fun d hd => by rw [e2] at hd; cases hd), by simp [Oper.about, e2], e4, Moves.refl _ _, fun _ h => h, fun _ h => .inl h, ?_, fun d hd => .inl (by rw [e3] at hd; exact (Option.some.inj hd).symm)⟩
  · simp [execOp, e2, h1, k.load w c.v b4.cell]
  · rw [e3]
    unfold Ch.Inv
    rw [upd_same, upd_ne _ _ _ m1.symm, upd_ne _ _ _ m2.symm, upd_ne _ _ _ m3.symm, upd_ne _ _ _ m4.symm, eval_put_same _ _ _ d1, eval_put_ne _ _ _ _ n1.symm, eval_put_ne _ _ _ _ n5.symm, eval_put_ne _ _ _ _ n9, eval_put_ne _ _ _ _ n10, eval_put_ne _ _ _ _ n11]
    exact ⟨h1, h2, fun _ => rfl, h4, h5, h6, h7, h8, h9⟩

theorem Ch.step_m (k : c.Ok P ops N) (hN : a.tmps.size = N) (hsrc : c.src w) (h : c.Inv S L a w) {o : Oper} (ho : ops[c.im]? = some o) : c.Out P S L a w c.im o := by
  obtain ⟨o', e1, en, ea, e2, e3, e4⟩ := k.om
  obtain rfl : o = o' := by rw [ho] at e1; exact Option.some.inj e1
  obtain ⟨h1, h2, h3, h4, h5, h6, h7, h8, h9⟩ := h
  obtain ⟨d1, d2, d3, d4⟩ := k.ds
  rw [← hN] at d1 d2 d3 d4
  obtain ⟨n1, n2, n3, n4, n5, n6, n7, n8, n9, n10, n11, n12, n13, n14⟩ := k.ne
  obtain ⟨m1, m2, m3, m4, m5, m6, m7, m8, m9, m10⟩ := k.ni
  refine ⟨.value c.x, c.x, w, S, ?_, .inl rfl, en, ea _ _, e4, Moves.refl _ _, fun _ h => h, fun _ h => .inl h, ?_, fun d hd => .inr (.inl (by rw [e3] at hd; exact (Option.some.inj hd).symm))⟩
  · exact e2 w a hsrc h2
  · rw [e3]
    unfold Ch.Inv
    rw [upd_same, upd_ne _ _ _ m1, upd_ne _ _ _ m5.symm, upd_ne _ _ _ m6.symm, upd_ne _ _ _ m7.symm, eval_put_same _ _ _ d2, eval_put_ne _ _ _ _ n2.symm, eval_put_ne _ _ _ _ n6.symm, eval_put_ne _ _ _ _ n9.symm, eval_put_ne _ _ _ _ n12, eval_put_ne _ _ _ _ n13]
    exact ⟨h1, h2, h3, fun _ => rfl, h5, h6, h7, h8, h9⟩

theorem Ch.step_b (k : c.Ok P ops N) (hN : a.tmps.size = N) (h : c.Inv S L a w) (hu : L c.ib = false) {o : Oper} (ho : ops[c.ib]? = some o) (hdep : ∀ e ∈ o.after, Region.binds .any e = true → L e.on = true) (hpb : L c.ip = true → L c.ib = true) : c.Out P S L a w c.ib o := by
  obtain ⟨o', e1, e2, e3, e4, ed, hed, hbd, hon⟩ := k.ob
  obtain rfl : o = o' := by rw [ho] at e1; exact Option.some.inj e1
  have him : L c.im = true := by rw [← hon]; exact hdep ed hed hbd
  have hip : L c.ip = false := by
    cases hp : L c.ip with
    | false => rfl
    | true => rw [hpb hp] at hu; cases hu
  obtain ⟨h1, h2, h3, h4, h5, h6, h7, h8, h9⟩ := h
  obtain ⟨b1, b2, b3, b4⟩ := h8 hip
  obtain ⟨d1, d2, d3, d4⟩ := k.ds
  rw [← hN] at d1 d2 d3 d4
  obtain ⟨n1, n2, n3, n4, n5, n6, n7, n8, n9, n10, n11, n12, n13, n14⟩ := k.ne
  obtain ⟨m1, m2, m3, m4, m5, m6, m7, m8, m9, m10⟩ := k.ni
  have hB := h7 _ h6
  refine ⟨.value (.slice (some ⟨w.heap.size, 0, none⟩) 1 1), .slice (some ⟨w.heap.size, 0, none⟩) 1 1, w.alloc (.cells c.cells.toArray c.e (0, 0)), fun g => S g ∨ g = w.heap.size, ?_, .inl rfl, (fun d hd => by rw [e2] at hd; cases hd), by simp [Oper.about, e2], e4, Moves.alloc _ _ _, fun _ h => .inl h, fun g h => h.imp id (fun e => Nat.le_of_eq e.symm), ?_, fun d hd => .inr (.inr (.inl (by rw [e3] at hd; exact (Option.some.inj hd).symm)))⟩
  · simp [execOp, e2, h4 him, k.make w]
  · rw [e3]
    unfold Ch.Inv
    rw [upd_same, upd_ne _ _ _ m2, upd_ne _ _ _ m5, upd_ne _ _ _ m8.symm, upd_ne _ _ _ m9.symm, eval_put_same _ _ _ d3, eval_put_ne _ _ _ _ n3.symm, eval_put_ne _ _ _ _ n7.symm, eval_put_ne _ _ _ _ n10.symm, eval_put_ne _ _ _ _ n12.symm, eval_put_ne _ _ _ _ n14]
    refine ⟨h1, h2, h3, h4, fun _ _ => ⟨w.heap.size, .inr rfl, by omega, fun e => ?_, rfl, heap_alloc_new w _⟩, .inl h6, fun g hg => ?_, fun _ => ⟨b1, fun g hg => .inl (b2 g hg), b3.alloc _, b4.alloc _⟩, (fun hp => by rw [hip] at hp; cases hp)⟩
    · have := h7 _ (b2 _ e)
      omega
    · rcases hg with hg | rfl
      · have := h7 g hg
        simp; omega
      · simp

theorem Ch.step_p (k : c.Ok P ops N) (hN : a.tmps.size = N) (hbase : c.base ≤ w.heap.size) (h : c.Inv S L a w) (hu : L c.ip = false) {o : Oper} (ho : ops[c.ip]? = some o) (hdep : ∀ e ∈ o.after, Region.binds .any e = true → L e.on = true) : c.Out P S L a w c.ip o := by
  obtain ⟨o', e1, e2, e3, e4, ⟨ed, hed, hbd, hon⟩, ⟨ed2, hed2, hbd2, hon2⟩⟩ := k.op
  obtain rfl : o = o' := by rw [ho] at e1; exact Option.some.inj e1
  have hil : L c.il = true := by rw [← hon]; exact hdep ed hed hbd
  have hib : L c.ib = true := by rw [← hon2]; exact hdep ed2 hed2 hbd2
  obtain ⟨h1, h2, h3, h4, h5, h6, h7, h8, h9⟩ := h
  obtain ⟨b1, b2, b3, b4⟩ := h8 hu
  obtain ⟨g, g1, g2, g3, g4, g5⟩ := h5 hib hu
  obtain ⟨d1, d2, d3, d4⟩ := k.ds
  rw [← hN] at d1 d2 d3 d4
  obtain ⟨n1, n2, n3, n4, n5, n6, n7, n8, n9, n10, n11, n12, n13, n14⟩ := k.ne
  obtain ⟨m1, m2, m3, m4, m5, m6, m7, m8, m9, m10⟩ := k.ni
  obtain ⟨i0, z, bytes, hi, hz, hsz, hby, hzc, hbb⟩ := k.info
  obtain ⟨g', cap, w', hr, r2, r3, r4, r5⟩ := run_append_lies (P := P) w c.T o.type c.base c.e i0 z c.size bytes k.slice hi hz hsz hby hzc k.size c.v c.k c.xs b3 ⟨g, 0, none⟩ 1 1 c.cells (by rw [k.len, Nat.one_mul]) (World.news_of_block (cs := c.cells.toArray) g5) k.one (by omega) k.most hbb hbase w.heap.size rfl
  have hB := h7 _ h6
  have hgB : g' ≠ c.B := by
    rcases r4 with e | e
    · intro e'
      subst e'
      exact b4.not_row k.te b3 e.symm
    · omega
  have hSg : S g' ∨ g' = w.heap.size := r4.imp (b2 g') id
  have hbox : Boxed w' c.B c.T c.v := b4.kept r3 (b4.not_row k.te b3)
  refine ⟨.value (.slice (some ⟨g', 0, none⟩) (c.k + 1) cap), .slice (some ⟨g', 0, none⟩) (c.k + 1) cap, w', fun b => S b ∨ b = g', ?_, .inl rfl, (fun d hd => by rw [e2] at hd; cases hd), by simp [Oper.about, e2, resolve, Target.leads, Sem.run_pure], e4, ?_, fun _ h => .inl h, fun b h => ?_, ?_, fun d hd => .inr (.inr (.inr (by rw [e3] at hd; exact (Option.some.inj hd).symm)))⟩
  · simp [execOp, e2, resolve, invoke, builtin, h3 hil, g4, hr, Result.andThen]
  · refine Moves.grown r3 (fun g hg => b2 g hg) (fun g o' hg ho' => ?_)
    rcases b3.2 with ⟨hv, _⟩ | ⟨g'', cap', cur, hv, _, hgg, _⟩
    · rw [hv] at hg; simp [Value.ownBlock] at hg
    · rw [hv] at hg
      have : g'' = g := by simpa [Value.ownBlock] using hg
      subst this
      rw [hgg] at ho'
      cases ho'
      rfl
  · rcases h with h | rfl
    · exact .inl h
    · exact hSg.imp id (fun e => Nat.le_of_eq e.symm)
  · rw [e3]
    unfold Ch.Inv
    rw [upd_same, upd_ne _ _ _ m3, upd_ne _ _ _ m6, upd_ne _ _ _ m8, upd_ne _ _ _ m10.symm, eval_put_same _ _ _ d4, eval_put_ne _ _ _ _ n4.symm, eval_put_ne _ _ _ _ n8.symm, eval_put_ne _ _ _ _ n11.symm, eval_put_ne _ _ _ _ n13.symm, eval_put_ne _ _ _ _ n14.symm]
    refine ⟨h1, h2, h3, h4, (fun _ hp => by cases hp), .inl h6, fun b hb => ?_, (fun hp => by cases hp), fun _ => ⟨g', cap, .inr rfl, hgB, rfl, r2, fun ht => ?_, fun _ => hbox⟩⟩
    · rcases hb with hb | rfl
      · exact Nat.lt_of_lt_of_le (h7 b hb) r3.size
      · exact r5
    · rw [b1] at ht; cases ht

theorem Ch.step_t (k : c.Ok P ops N) (h : c.Inv S L a w) (hu : L c.it = false) {o : Oper} (ho : ops[c.it]? = some o) (hdep : ∀ e ∈ o.after, Region.binds .any e = true → L e.on = true) : c.Out P S L a w c.it o := by
  obtain ⟨o', e1, e2, e3, e4, ed, hed, hbd, hon⟩ := k.ot
  obtain rfl : o = o' := by rw [ho] at e1; exact Option.some.inj e1
  have hip : L c.ip = true := by rw [← hon]; exact hdep ed hed hbd
  obtain ⟨h1, h2, h3, h4, h5, h6, h7, h8, h9⟩ := h
  obtain ⟨g, cap, g1, g2, g3, g4, g5, g6⟩ := h9 hip
  have hbox := g6 hu
  obtain ⟨m1, m2, m3, m4, m5, m6, m7, m8, m9, m10⟩ := k.ni
  refine ⟨.skip, undef, w.setCell ⟨c.B, 0, none⟩ (.slice (some ⟨g, 0, none⟩) (c.k + 1) cap), S, ?_, .inr ⟨rfl, rfl⟩, (fun d hd => by rw [e2] at hd; cases hd), by simp [Oper.about, e2], e4, Moves.set hbox h6 _, fun _ h => h, fun _ h => .inl h, ?_, (fun d hd => by rw [e3] at hd; cases hd)⟩
  · simp [execOp, e2, h1, g3, k.store w g (c.k + 1) cap c.v hbox.cell hbox.frozen]
  · rw [e3]
    unfold Ch.Inv
    rw [upd_same, upd_ne _ _ _ m4, upd_ne _ _ _ m7, upd_ne _ _ _ m9, upd_ne _ _ _ m10]
    refine ⟨h1, h2, h3, h4, (fun _ hp => by rw [hip] at hp; cases hp), h6, fun b hb => by simpa using h7 b hb, (fun hp => by rw [hip] at hp; cases hp), fun _ => ⟨g, cap, g1, g2, g3, ?_, fun _ => hbox.set _, (fun ht => by cases ht)⟩⟩
    exact ownsRow_same g4 (fun b hb => by
      have : g = b := by simpa [Value.ownBlock] using hb
      subst this
      exact Below.heap_setCell _ _ _ g g2)

/-- A step of either of the two. -/
theorem Ch.step (k : c.Ok P ops N) (hN : a.tmps.size = N) (hbase : c.base ≤ w.heap.size) (hsrc : c.src w) (h : c.Inv S L a w) (hp : L c.ip = true → L c.il = true ∧ L c.ib = true) {i : Nat} (hi : i = c.il ∨ i = c.im ∨ i = c.ib ∨ i = c.ip ∨ i = c.it) (hu : L i = false) {o : Oper} (ho : ops[i]? = some o) (hdep : ∀ e ∈ o.after, Region.binds .any e = true → L e.on = true) :
    c.Out P S L a w i o ∧ (upd L i c.ip = true → upd L i c.il = true ∧ upd L i c.ib = true) := by
  obtain ⟨m1, m2, m3, m4, m5, m6, m7, m8, m9, m10⟩ := k.ni
  rcases hi with rfl | rfl | rfl | rfl | rfl
  · refine ⟨Ch.step_l k hN h hu ho (fun e => (hp e).1), fun e => ?_⟩
    rw [upd_ne _ _ _ m3.symm] at e
    rw [hu] at hp
    exact absurd (hp e).1 (by simp)
  · refine ⟨Ch.step_m k hN hsrc h ho, fun e => ?_⟩
    rw [upd_ne _ _ _ m6.symm] at e
    rw [upd_ne _ _ _ m1, upd_ne _ _ _ m5.symm]
    exact hp e
  · refine ⟨Ch.step_b k hN h hu ho hdep (fun e => (hp e).2), fun e => ?_⟩
    rw [upd_ne _ _ _ m8.symm] at e
    rw [hu] at hp
    exact absurd (hp e).2 (by simp)
  · refine ⟨Ch.step_p k hN hbase h hu ho hdep, fun _ => ?_⟩
    obtain ⟨o', e1, e2, e3, e4, ⟨ed, hed, hbd, hon⟩, ⟨ed2, hed2, hbd2, hon2⟩⟩ := k.op
    obtain rfl : o = o' := by rw [ho] at e1; exact Option.some.inj e1
    rw [upd_ne _ _ _ m3, upd_ne _ _ _ m8]
    exact ⟨by rw [← hon]; exact hdep ed hed hbd, by rw [← hon2]; exact hdep ed2 hed2 hbd2⟩
  · refine ⟨Ch.step_t k h hu ho hdep, fun e => ?_⟩
    rw [upd_ne _ _ _ m10] at e
    rw [upd_ne _ _ _ m4, upd_ne _ _ _ m9]
    exact hp e
end

def Both2 (c1 c2 : Ch) (S0 : Nat → Prop) (w0 : World) (N : Nat) (L : Nat → Bool) (a : Act) (w : World) : Prop :=
  ∃ S1 S2 : Nat → Prop, (∀ g, S1 g → ¬ S2 g) ∧ (∀ g, S1 g ∨ S2 g → S0 g ∨ w0.heap.size ≤ g) ∧ c1.Inv S1 L a w ∧ c2.Inv S2 L a w ∧ a.tmps.size = N ∧ Moves S0 w0 w ∧
    (L c1.ip = true → L c1.il = true ∧ L c1.ib = true) ∧ (L c2.ip = true → L c2.il = true ∧ L c2.ib = true)

def Ch.Done (c : Ch) (w' : World) (v' : Value) : Prop := Boxed w' c.B c.T v' ∧ w'.ownsRow c.base c.e c.size v' (c.k + 1) (c.xs ++ c.cells)

section
variable {F : Fence} {n : Nat} {P : Program} {ops : Array Oper} {Q : Exit → Act → World → Prop} {c1 c2 : Ch} {N : Nat} {w0 : World} {S0 : Nat → Prop}

theorem both_step (k1 : c1.Ok P ops N) (hb1 : c1.base ≤ w0.heap.size) (hsrc : ∀ w, Moves S0 w0 w → c1.src w)
    (hs1 : ∀ d ∈ [c1.dl, c1.dm, c1.ds, c1.dp], ∀ e ∈ [c2.tb, c2.tx, c2.dl, c2.dm, c2.ds, c2.dp], d ≠ e) (hops : ∀ i ∈ [c1.il, c1.im, c1.ib, c1.ip, c1.it], ∀ j ∈ [c2.il, c2.im, c2.ib, c2.ip, c2.it], i ≠ j)
    {L : Nat → Bool} {a : Act} {w : World} (h : Both2 c1 c2 S0 w0 N L a w) {i : Nat} (hi : i = c1.il ∨ i = c1.im ∨ i = c1.ib ∨ i = c1.ip ∨ i = c1.it) (hu : L i = false) {o : Oper} (ho : ops[i]? = some o) (hdep : ∀ e ∈ o.after, Region.binds .any e = true → L e.on = true) :
    wpOpIn F n P ops Q i (Both2 c1 c2 S0 w0 N (upd L i)) a w := by
  obtain ⟨S1, S2, hd, h0, i1, i2, hN, hm, p1, p2⟩ := h
  obtain ⟨⟨r, u, w', S', hr, hru, hnd, hab, hg, hmv, hsub, hnew, hinv, hdst⟩, hp1⟩ := Ch.step k1 hN (Nat.le_trans hb1 hm.size) (hsrc _ hm) i1 p1 hi hu ho hdep
  have hi' : i ∈ [c1.il, c1.im, c1.ib, c1.ip, c1.it] := by rcases hi with rfl | rfl | rfl | rfl | rfl <;> simp
  have hlt2 : ∀ g, S2 g → g < w.heap.size := i2.2.2.2.2.2.2.1
  have hL : ∀ j, j ∈ [c2.il, c2.im, c2.ib, c2.ip, c2.it] → upd L i j = L j := fun j hj => upd_ne _ _ _ (fun e => hops i hi' j hj e.symm)
  have next : Both2 c1 c2 S0 w0 N (upd L i) (a.put o.dst u) w' := by
    refine ⟨S', S2, fun g hg h2 => ?_, fun g hg => ?_, hinv, ?_, by rw [size_put]; exact hN, ?_, hp1, ?_⟩
    · rcases hnew g hg with h1 | h1
      · exact hd g h1 h2
      · have := hlt2 g h2; omega
    · rcases hg with hg | hg
      · rcases hnew g hg with h1 | h1
        · exact h0 g (.inl h1)
        · exact .inr (Nat.le_trans hm.size h1)
      · exact h0 g (.inr hg)
    · refine i2.stay (fun g hg => hmv.same g (hlt2 g hg) (fun h1 => hd g h1 hg)) hmv.size (fun d hd2 => ?_) (fun j hj => hL j (by rcases hj with rfl | rfl | rfl | rfl | rfl <;> simp))
      cases hdd : o.dst with
      | none => rfl
      | some d' =>
        refine eval_put_ne _ _ _ _ (hs1 d' ?_ d ?_)
        · rcases hdst d' hdd with rfl | rfl | rfl | rfl <;> simp
        · rcases hd2 with rfl | rfl | rfl | rfl | rfl | rfl <;> simp
    · exact hm.trans hmv (fun _ h => h) (fun b hb h1 => (h0 b (.inl h1)).elim id (fun h => absurd h (Nat.not_le.2 hb)))
    · intro e
      rw [hL c2.ip (by simp)] at e
      rw [hL c2.il (by simp), hL c2.ib (by simp)]
      exact p2 e
  rcases hru with rfl | ⟨rfl, rfl⟩
  · exact wpOpIn_value ho hg hnd hab hr next
  · exact wpOpIn_skip ho hg hnd hab hr next

theorem Both2.swap {L : Nat → Bool} {a : Act} {w : World} (h : Both2 c1 c2 S0 w0 N L a w) : Both2 c2 c1 S0 w0 N L a w := by
  obtain ⟨S1, S2, hd, h0, i1, i2, hN, hm, p1, p2⟩ := h
  exact ⟨S2, S1, fun g h2 h1 => hd g h1 h2, fun g hg => h0 g hg.symm, i2, i1, hN, hm, p2, p1⟩

theorem two_appends {rid : Nat} {a : Act} {w : World} (hmx : P.follows .mixedOrders = true) (hup : ∀ (i : Nat) (o : Oper), ops[i]? = some o → ∀ e ∈ o.after, Region.binds .any e = true → e.on < i)
    (k1 : c1.Ok P ops N) (k2 : c2.Ok P ops N) (hsz : ops.size = 10)
    (hcov : ∀ i, i < 10 → i ∈ [c1.il, c1.im, c1.ib, c1.ip, c1.it] ∨ i ∈ [c2.il, c2.im, c2.ib, c2.ip, c2.it])
    (hs1 : ∀ d ∈ [c1.dl, c1.dm, c1.ds, c1.dp], ∀ e ∈ [c2.tb, c2.tx, c2.dl, c2.dm, c2.ds, c2.dp], d ≠ e) (hs2 : ∀ d ∈ [c2.dl, c2.dm, c2.ds, c2.dp], ∀ e ∈ [c1.tb, c1.tx, c1.dl, c1.dm, c1.ds, c1.dp], d ≠ e)
    (hops : ∀ i ∈ [c1.il, c1.im, c1.ib, c1.ip, c1.it], ∀ j ∈ [c2.il, c2.im, c2.ib, c2.ip, c2.it], i ≠ j)
    (hN : a.tmps.size = N) (t1 : a.eval (.tmp c1.tb) = .pointer (some ⟨c1.B, 0, none⟩)) (t2 : a.eval (.tmp c2.tb) = .pointer (some ⟨c2.B, 0, none⟩)) (x1 : a.eval (.tmp c1.tx) = c1.xa) (x2 : a.eval (.tmp c2.tx) = c2.xa)
    (b1 : Boxed w c1.B c1.T c1.v) (b2 : Boxed w c2.B c2.T c2.v) (o1 : w.ownsRow c1.base c1.e c1.size c1.v c1.k c1.xs) (o2 : w.ownsRow c2.base c2.e c2.size c2.v c2.k c2.xs)
    (hB : c1.B ≠ c2.B) (e12 : c1.T ≠ c2.e) (e21 : c2.T ≠ c1.e) (hsep : ∀ g, c1.v.ownBlock = some g → c2.v.ownBlock ≠ some g) (hb1 : c1.base ≤ w.heap.size) (hb2 : c2.base ≤ w.heap.size)
    (s1 : ∀ w', Moves (fun b => b = c1.B ∨ b = c2.B ∨ c1.v.ownBlock = some b ∨ c2.v.ownBlock = some b) w w' → c1.src w') (s2 : ∀ w', Moves (fun b => b = c1.B ∨ b = c2.B ∨ c1.v.ownBlock = some b ∨ c2.v.ownBlock = some b) w w' → c2.src w')
    (hQ : ∀ (a' : Act) (w' : World) (v1 v2 : Value), c1.Done w' v1 → c2.Done w' v2 → (∀ g, v1.ownBlock = some g → v2.ownBlock ≠ some g) → Moves (fun b => b = c1.B ∨ b = c2.B ∨ c1.v.ownBlock = some b ∨ c2.v.ownBlock = some b) w w' → Q .normal a' w') :
    (Code.region rid ops true).wpIn F n P Q a w := by
  have olt : ∀ {v : Value} {base e size k : Nat} {xs : List Value}, w.ownsRow base e size v k xs → ∀ g, v.ownBlock = some g → g < w.heap.size := by
    intro v base e size k xs h g hg
    rcases h.2 with ⟨rfl, _⟩ | ⟨g', cap, cur, rfl, _, hgg, _⟩
    · simp [Value.ownBlock] at hg
    · have : g' = g := by simpa [Value.ownBlock] using hg
      subst this
      exact (Array.getElem?_eq_some_iff.1 hgg).1
  refine region_inv hmx hup (Both2 c1 c2 (fun b => b = c1.B ∨ b = c2.B ∨ c1.v.ownBlock = some b ∨ c2.v.ownBlock = some b) w N) ?_ ?_ ?_
  · refine ⟨fun b => b = c1.B ∨ c1.v.ownBlock = some b, fun b => b = c2.B ∨ c2.v.ownBlock = some b, fun g h1 h2 => ?_, fun g hg => .inl ?_, ?_, ?_, hN, Moves.drew _ _, (fun h => by cases h), (fun h => by cases h)⟩
    · rcases h1 with rfl | h1
      · rcases h2 with h2 | h2
        · exact hB h2
        · exact b1.not_row e12 o2 h2.symm
      · rcases h2 with rfl | h2
        · exact b2.not_row e21 o1 h1.symm
        · exact hsep g h1 h2
    · rcases hg with (h | h) | (h | h)
      · exact .inl h
      · exact .inr (.inr (.inl h))
      · exact .inr (.inl h)
      · exact .inr (.inr (.inr h))
    · exact ⟨t1, x1, (fun h => by cases h), (fun h => by cases h), (fun h => by cases h), .inl rfl, fun g hg => hg.elim (fun e => (by rw [e]; exact b1.lt)) (olt o1 g), fun _ => ⟨rfl, fun g hg => .inr hg, o1, b1⟩, (fun h => by cases h)⟩
    · exact ⟨t2, x2, (fun h => by cases h), (fun h => by cases h), (fun h => by cases h), .inl rfl, fun g hg => hg.elim (fun e => (by rw [e]; exact b2.lt)) (olt o2 g), fun _ => ⟨rfl, fun g hg => .inr hg, o2, b2⟩, (fun h => by cases h)⟩
  · intro L a w i o h ho hu hdep
    have hlt : i < 10 := by rw [← hsz]; exact (Array.getElem?_eq_some_iff.1 ho).1
    rcases hcov i hlt with hc | hc
    · exact both_step k1 hb1 s1 hs1 hops h (by simpa using hc) hu ho hdep
    · exact wpOpIn_mono (fun _ _ h => h.swap) (both_step k2 hb2 s2 hs2 (fun i hi j hj e => hops j hj i hi e.symm) h.swap (by simpa using hc) hu ho hdep)
  · intro L a w' h hall
    obtain ⟨S1, S2, hd, h0, i1, i2, hN, hm, p1, p2⟩ := h
    have ex1 : ∀ {c : Ch}, c.Ok P ops N → L c.ip = true ∧ L c.it = true := fun k => by
      obtain ⟨o, ho, _⟩ := k.op
      obtain ⟨o', ho', _⟩ := k.ot
      exact ⟨hall _ (Array.getElem?_eq_some_iff.1 ho).1, hall _ (Array.getElem?_eq_some_iff.1 ho').1⟩
    obtain ⟨g1, cap1, u1, u2, u3, u4, u5, u6⟩ := i1.2.2.2.2.2.2.2.2 (ex1 k1).1
    obtain ⟨g2, cap2, v1, v2, v3, v4, v5, v6⟩ := i2.2.2.2.2.2.2.2.2 (ex1 k2).1
    refine hQ a w' _ _ ⟨u5 (ex1 k1).2, u4⟩ ⟨v5 (ex1 k2).2, v4⟩ (fun g e1 e2 => ?_) hm
    have q1 : g1 = g := by simpa [Value.ownBlock] using e1
    have q2 : g2 = g := by simpa [Value.ownBlock] using e2
    subst q1
    subst q2
    exact hd _ u1 v1
end

end Go.Proofs.YtbbfibgijackhaaGreatDoor
