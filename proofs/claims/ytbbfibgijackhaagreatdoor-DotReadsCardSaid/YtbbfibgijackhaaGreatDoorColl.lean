/-
  A round of a range over a function that puts one element behind each of two lists, which lie in boxes; and what the loop keeps of other blocks. Nothing of the program is named here. Conditions: the boxes and the rows are apart; the reach.
-/
import Derived.Test.YtbbfibgijackhaaGreatDoorTwo
import Derived.Test.YtbbfibgijackhaaGreatDoorKp
import Derived.RangeFuncWrites
import Derived.RangeFuncLeaves
namespace Go.Proofs.YtbbfibgijackhaaGreatDoor
open Go.RowKit

/-- What a round must keep: these blocks. -/
def KpL (Cs : List Nat) (W W' : World) : Prop := ∀ b ∈ Cs, W'.heap[b]? = W.heap[b]?
theorem kpL_t {Cs : List Nat} {A B C : World} (h : KpL Cs A B) (k : KpL Cs B C) : KpL Cs A C := fun b hb => (k b hb).trans (h b hb)
theorem kpL_b {Cs : List Nat} {w : World} (hn : ∀ b ∈ Cs, b < w.heap.size) (W : World) (l : Nat) (o o' : Obj) (hl : w.heap.size ≤ l) (_ : W.heap[l]? = some o) (_ : o.isCells = false) (_ : o.isWalk = false) : KpL Cs W (W.putObj l o') :=
  fun b hb => World.putObj_heap_other (fun e => by have := hn b hb; omega)
theorem KpL.cell {Cs : List Nat} {W W' : World} (h : KpL Cs W W') {b : Nat} (hb : b ∈ Cs) (i : Nat) : W'.cell? ⟨b, i, none⟩ = W.cell? ⟨b, i, none⟩ := World.cell?_of_block (h b hb)

structure CollAt where
  B1 : Nat
  T1 : Nat
  e1 : Nat
  s1 : Nat
  B2 : Nat
  T2 : Nat
  e2 : Nat
  s2 : Nat
  base : Nat

def Coll {α : Type} (q : CollAt) (f1 f2 : α → List Value) (pre : List α) (W : World) : Prop :=
  ∃ v1 v2, Boxed W q.B1 q.T1 v1 ∧ Boxed W q.B2 q.T2 v2 ∧ W.ownsRow q.base q.e1 q.s1 v1 pre.length (pre.flatMap f1) ∧ W.ownsRow q.base q.e2 q.s2 v2 pre.length (pre.flatMap f2) ∧ ∀ g, v1.ownBlock = some g → v2.ownBlock ≠ some g

theorem row_cells {W : World} {base e size k : Nat} {v : Value} {xs : List Value} (h : W.ownsRow base e size v k xs) {g : Nat} (hg : v.ownBlock = some g) : base ≤ g ∧ ∃ o, W.heap[g]? = some o ∧ o.isCells = true := by
  rcases h.2 with ⟨rfl, _⟩ | ⟨g', cap, cur, rfl, hb, hgg, _⟩
  · simp [Value.ownBlock] at hg
  · have : g' = g := by simpa [Value.ownBlock] using hg
    subst this
    exact ⟨hb, _, hgg, rfl⟩

theorem coll_own {α : Type} (q : CollAt) (f1 f2 : α → List Value) : Own (Coll q f1 f2) := by
  rintro pre A B row ⟨v1, v2, b1, b2, o1, o2, hs⟩ hg hr
  have hbox : ∀ {b t : Nat} {u : Value}, Boxed A b t u → Boxed B b t u := fun hb => hb.kept hg (fun e => by
    obtain ⟨o, ho, hc⟩ := hr _ e.symm
    have := (show A.heap[_]? = _ from hb).symm.trans ho
    cases this
    cases hc)
  have hrow : ∀ {base e size k : Nat} {v : Value} {xs : List Value}, A.ownsRow base e size v k xs → B.ownsRow base e size v k xs := fun h => ownsRow_same h (fun g hgv => by
    obtain ⟨-, o, ho, hc⟩ := row_cells h hgv
    refine hg.block g (Array.getElem?_eq_some_iff.1 ho).1 (fun e => ?_)
    obtain ⟨o', ho', hc'⟩ := hr _ e.symm
    rw [ho] at ho'
    cases ho'
    rw [hc] at hc'
    cases hc')
  exact ⟨v1, v2, hbox b1, hbox b2, hrow o1, hrow o2, hs⟩

/-- What a round may turn. -/
def CollS (q : CollAt) : Nat → Prop := fun b => b = q.B1 ∨ b = q.B2 ∨ q.base ≤ b
theorem Moves.keepsFrom {S : Nat → Prop} {W W' : World} (h : Moves S W W') (B : Nat) : KeepsFrom B W W' := ⟨h.size, fun k o _ hk ho => h.other k o hk ho⟩
theorem Moves.below {S : Nat → Prop} {W W' : World} (h : Moves S W W') {n : Nat} (hn : n ≤ W.heap.size) (hS : ∀ b, b < n → ¬ S b) : Below n W W' :=
  ⟨h.os, h.tape, h.output, h.size, fun k hk => h.same k (by omega) (hS k hk)⟩
theorem Moves.kpL {S : Nat → Prop} {W W' : World} (h : Moves S W W') {Cs : List Nat} (hC : ∀ b ∈ Cs, b < W.heap.size ∧ ¬ S b) : KpL Cs W W' := fun b hb => h.same b (hC b hb).1 (hC b hb).2
theorem Moves.mono {S S' : Nat → Prop} {W W' : World} (h : Moves S W W') (hs : ∀ b, b < W.heap.size → S b → S' b) : Moves S' W W' :=
  ⟨h.os, h.tape, h.output, h.size, fun b hb hn => h.same b hb (fun h' => hn (hs b hb h')), h.other⟩

def mkCh (B T e size base k : Nat) (v x : Value) (xs cells : List Value) (tb tx d i it : Nat) : Ch :=
  { T, B, e, size, base, k, v, x, xs, cells, tb, tx, dl := d, dm := d + 1, ds := d + 2, dp := d + 3, il := i, im := i + 1, ib := i + 2, ip := i + 3, it, xa := x, src := fun _ => True }

/-- Of a list of operations: each waits for earlier ones alone. -/
def upsB (ops : Array Oper) : Bool := (List.range ops.size).all fun i => match ops[i]? with | some o => o.after.toList.all (fun e => !Region.binds .any e || decide (e.on < i)) | none => true
theorem ups_of {ops : Array Oper} (h : upsB ops = true) : ∀ (i : Nat) (o : Oper), ops[i]? = some o → ∀ e ∈ o.after, Region.binds .any e = true → e.on < i := by
  intro i o ho e he hb
  unfold upsB at h
  have hlt := (Array.getElem?_eq_some_iff.1 ho).1
  have h1 := (List.all_eq_true.1 h) i (by simpa using hlt)
  rw [ho] at h1
  have h2 := (List.all_eq_true.1 h1) e (by simpa using he)
  rw [hb] at h2
  simpa using h2
/-- An operation waits for another one. -/
def waitsB (ops : Array Oper) (i j : Nat) : Bool := match ops[i]? with | some o => o.after.toList.any (fun e => Region.binds .any e && e.on == j) | none => false
theorem waits_of {ops : Array Oper} {i j : Nat} (h : waitsB ops i j = true) {o : Oper} (ho : ops[i]? = some o) : ∃ e ∈ o.after, Region.binds .any e = true ∧ e.on = j := by
  unfold waitsB at h
  rw [ho] at h
  obtain ⟨e, he, hb⟩ := List.any_eq_true.1 h
  rw [Bool.and_eq_true] at hb
  exact ⟨e, by simpa using he, hb.1, by simpa using hb.2⟩

theorem mk_ok {P : Program} {ops : Array Oper} {N : Nat} {B T e size base k : Nat} {v x : Value} {xs cells : List Value} {tb tx d i it : Nat}
    (load : ∀ (w : World) (u : Value), w.cell? ⟨B, 0, none⟩ = some u → (Instr.loadAt T (.pointer (some ⟨B, 0, none⟩))).run P w = .ok u w)
    (make : ∀ w : World, (Instr.buildSlice T 1 #[(0, x)]).run P w = .ok (.slice (some ⟨w.heap.size, 0, none⟩) 1 1) (w.alloc (.cells cells.toArray e (0, 0))))
    (store : ∀ (w : World) (g n cap : Nat) (u : Value), w.cell? ⟨B, 0, none⟩ = some u → w.frozen? ⟨B, 0, none⟩ = false → (Instr.storeAt T (.pointer (some ⟨B, 0, none⟩)) (.slice (some ⟨g, 0, none⟩) n cap)).run P w = .ok () (w.setCell ⟨B, 0, none⟩ (.slice (some ⟨g, 0, none⟩) n cap)))
    (slice : P.underlying T = some (.slice e)) {z : Value} {bytes : Nat} (info : (P.info? e).map (fun i => (i.zero, i.size, i.bytes)) = some (some z, size, bytes)) (hz : z.cells.size = size) (hreach : (k + 1) * bytes ≤ 140737488355328) (hmost : k + 1 ≤ maxLen)
    (hsize : 0 < size) (one : ∀ u ∈ cells, u.oneCell' = true) (len : cells.length = size) (te : T ≠ e)
    {ol om ob op ot : Oper} (hl : ops[i]? = some ol) (hl2 : ol.op = .load T (.tmp tb) ∧ ol.dst = some d ∧ ol.guard = none) (hm : ops[i + 1]? = some om) (hm2 : om.op = .move (.tmp tx) ∧ om.dst = some (d + 1) ∧ om.guard = none)
    (hb : ops[i + 2]? = some ob) (hb2 : ob.op = .buildSlice T 1 #[(0, .tmp (d + 1))] ∧ ob.dst = some (d + 2) ∧ ob.guard = none)
    (hp : ops[i + 3]? = some op) (hp2 : op.op = .call { callee := .builtin .append, args := #[.tmp d, .tmp (d + 2)], argTypes := #[T, T] } ∧ op.dst = some (d + 3) ∧ op.guard = none)
    (ht : ops[it]? = some ot) (ht2 : ot.op = .store T (.tmp tb) (.tmp (d + 3)) ∧ ot.dst = none ∧ ot.guard = none)
    (w1 : waitsB ops (i + 2) (i + 1) = true) (w2 : waitsB ops (i + 3) i = true) (w3 : waitsB ops (i + 3) (i + 2) = true) (w4 : waitsB ops it (i + 3) = true)
    (hd : d + 3 < N) (htb : tb < d) (htx : tx < d) (hit : i + 3 < it) : (mkCh B T e size base k v x xs cells tb tx d i it).Ok P ops N := by
  refine { load := load, make := make, store := store, slice := slice, info := ?_, size := hsize, one := one, len := len, most := hmost, te := te, ol := ⟨ol, hl, hl2⟩, om := ⟨om, hm, (fun d h => by rw [hm2.1] at h; cases h), (fun _ _ => by simp [Oper.about, hm2.1]), (fun w a _ h => by simp only [mkCh] at h; simp [execOp, hm2.1, h, mkCh]), hm2.2⟩, ob := ⟨ob, hb, hb2.1, hb2.2.1, hb2.2.2, waits_of w1 hb⟩, op := ⟨op, hp, hp2.1, hp2.2.1, hp2.2.2, waits_of w2 hp, waits_of w3 hp⟩, ot := ⟨ot, ht, ht2.1, ht2.2.1, ht2.2.2, waits_of w4 ht⟩, ds := ?_, ne := ?_, ni := ?_ }
  · obtain ⟨i0, hi, h1, h2, h3⟩ := info_parts info
    exact ⟨i0, z, bytes, hi, h1, h2, h3, hz, hreach⟩
  · simp only [mkCh]; omega
  · simp only [mkCh]; omega
  · simp only [mkCh]; omega

/-- The region of a round. -/
theorem coll_region {α : Type} {F : Fence} {n : Nat} {P : Program} {ops : Array Oper} {Q : Exit → Act → World → Prop} {rid N : Nat} {a : Act} {W : World} {q : CollAt} {f1 f2 : α → List Value} {y1 y2 : Value} {pre : List α} {x : α} {tb1 tx1 tb2 tx2 d : Nat}
    (hmx : P.follows .mixedOrders = true) (hup : upsB ops = true) (hsz : ops.size = 10)
    {v1 v2 : Value} (b1 : Boxed W q.B1 q.T1 v1) (b2 : Boxed W q.B2 q.T2 v2) (o1 : W.ownsRow q.base q.e1 q.s1 v1 pre.length (pre.flatMap f1)) (o2 : W.ownsRow q.base q.e2 q.s2 v2 pre.length (pre.flatMap f2)) (hs : ∀ g, v1.ownBlock = some g → v2.ownBlock ≠ some g)
    (k1 : (mkCh q.B1 q.T1 q.e1 q.s1 q.base pre.length v1 y1 (pre.flatMap f1) (f1 x) tb1 tx1 d 0 8).Ok P ops N)
    (k2 : (mkCh q.B2 q.T2 q.e2 q.s2 q.base pre.length v2 y2 (pre.flatMap f2) (f2 x) tb2 tx2 (d + 4) 4 9).Ok P ops N)
    (hN : a.tmps.size = N) (t1 : a.eval (.tmp tb1) = .pointer (some ⟨q.B1, 0, none⟩)) (t2 : a.eval (.tmp tb2) = .pointer (some ⟨q.B2, 0, none⟩)) (x1 : a.eval (.tmp tx1) = y1) (x2 : a.eval (.tmp tx2) = y2)
    (hd1 : tb1 < d ∧ tx1 < d) (hd2 : tb2 < d ∧ tx2 < d) (hB : q.B1 ≠ q.B2) (e12 : q.T1 ≠ q.e2) (e21 : q.T2 ≠ q.e1) (hbase : q.base ≤ W.heap.size)
    (hQ : ∀ (a' : Act) (W' : World), Coll q f1 f2 (pre ++ [x]) W' → Moves (CollS q) W W' → Q .normal a' W') :
    (Code.region rid ops true).wpIn F n P Q a W := by
  refine two_appends hmx (ups_of hup) k1 k2 hsz ?_ ?_ ?_ ?_ hN t1 t2 x1 x2 b1 b2 o1 o2 hB e12 e21 hs hbase hbase (fun _ _ => trivial) (fun _ _ => trivial) ?_
  · intro i hi
    simp only [mkCh, List.mem_cons, List.not_mem_nil, or_false]
    omega
  · simp only [mkCh, List.mem_cons, List.not_mem_nil, or_false]
    omega
  · simp only [mkCh, List.mem_cons, List.not_mem_nil, or_false]
    omega
  · simp only [mkCh, List.mem_cons, List.not_mem_nil, or_false]
    omega
  · rintro a' W' u1 u2 ⟨c1, c2⟩ ⟨c3, c4⟩ hsep hm
    refine hQ a' W' ⟨u1, u2, c1, c3, ?_, ?_, hsep⟩ (hm.mono (fun b _ hb => ?_))
    · rw [List.length_append, List.flatMap_append, List.flatMap_singleton]
      exact c2
    · rw [List.length_append, List.flatMap_append, List.flatMap_singleton]
      exact c4
    · rcases hb with h | h | h | h
      · exact .inl h
      · exact .inr (.inl h)
      · exact .inr (.inr (row_cells o1 h).1)
      · exact .inr (.inr (row_cells o2 h).1)

theorem own_shape {w : World} {base : Nat} {e : TypeId} {size k : Nat} {v : Value} {xs : List Value} (h : w.ownsRow base e size v k xs) : ∃ a c, v = .slice a k c := by
  rcases h.2 with ⟨rfl, rfl⟩ | ⟨g, cap, cur, rfl, _⟩
  · exact ⟨_, _, rfl⟩
  · exact ⟨_, _, rfl⟩

theorem ownsRow_le {w : World} {base base' : Nat} {e : TypeId} {size k : Nat} {v : Value} {xs : List Value} (h : w.ownsRow base e size v k xs) (hb : base' ≤ base) : w.ownsRow base' e size v k xs := by
  refine ⟨h.1, ?_⟩
  rcases h.2 with h' | ⟨g, cap, cur, e1, e2, rest⟩
  · exact .inl h'
  · exact .inr ⟨g, cap, cur, e1, Nat.le_trans hb e2, rest⟩

theorem take_of_snoc {α : Type} {pre L : List α} {x : α} {k : Nat} (h : pre ++ [x] = L.take k) : pre = L.take pre.length := by
  have h1 : pre = (pre ++ [x]).take pre.length := by simp
  have h2 : (pre ++ [x]).length ≤ k := by rw [h, List.length_take]; omega
  rw [h1, h, List.take_take, List.length_take]
  simp only [List.length_append, List.length_singleton] at h2
  have h3 := congrArg List.length h
  simp only [List.length_append, List.length_singleton, List.length_take] at h3
  congr 1
  omega

/-- Between two rounds, and where a round has left: for a loop that puts behind up to m. -/
def CollI {α : Type} (q : CollAt) (f1 f2 : α → List Value) (w : World) (Bm : Nat) (m : Int) (pre : List α) (W : World) : Prop :=
  (Coll q f1 f2 pre W ∧ W.cell? ⟨Bm, 0, none⟩ = some (.int .i64 m) ∧ pre.length ≤ m.toNat ∧ q.base ≤ W.heap.size) ∧ Below w.heap.size w W
def CollX {α : Type} (q : CollAt) (f1 f2 : α → List Value) (w : World) (m : Int) (c : Code) (pre' : List α) (W : World) : Prop :=
  (c = .exit 0 ∧ ∃ pre x, pre' = pre ++ [x] ∧ Coll q f1 f2 pre W ∧ pre.length = m.toNat) ∧ Below w.heap.size w W
theorem collI_own {α : Type} (q : CollAt) (f1 f2 : α → List Value) (w : World) (Bm : Nat) (m : Int) {B : Nat} (hB : w.heap.size ≤ B) : OwnFrom B (CollI q f1 f2 w Bm m) :=
  OwnFrom.and (Own.from (fun s A B row hs hg hr => ⟨coll_own _ _ _ s A B row hs.1 hg hr, cell_kept hs.2.1 hg hr, hs.2.2.1, Nat.le_trans hs.2.2.2 hg.size⟩) _) (ownFrom_below (Nat.le_refl _) hB)
theorem collX_own {α : Type} (q : CollAt) (f1 f2 : α → List Value) (w : World) (m : Int) (c : Code) {B : Nat} (hB : w.heap.size ≤ B) : OwnFrom B (CollX q f1 f2 w m c) :=
  OwnFrom.and (Own.from (fun s A B row hs hg hr => by obtain ⟨hc, pre, x, e1, e2, e3⟩ := hs; exact ⟨hc, pre, x, e1, coll_own _ _ _ pre A B row e2 hg hr, e3⟩) _) (ownFrom_below (Nat.le_refl _) hB)
theorem CollI.start {α : Type} {q : CollAt} (f1 f2 : α → List Value) {w W : World} {Bm : Nat} {m : Int} (b1 : Boxed W q.B1 q.T1 (.slice none 0 0)) (b2 : Boxed W q.B2 q.T2 (.slice none 0 0)) (bm : W.cell? ⟨Bm, 0, none⟩ = some (.int .i64 m)) (hb : q.base ≤ W.heap.size) (hB : Below w.heap.size w W) : CollI q f1 f2 w Bm m [] W :=
  ⟨⟨⟨_, _, b1, b2, World.ownsRow_nil _ _ _ _, World.ownsRow_nil _ _ _ _, fun g hg => by simp [Value.ownBlock] at hg⟩, bm, Nat.zero_le _, hb⟩, hB⟩
theorem CollI.next {α : Type} {q : CollAt} {f1 f2 : α → List Value} {w W W' : World} {Bm : Nat} {m : Int} {pre : List α} {x : α} (h : CollI q f1 f2 w Bm m pre W) (hm : (pre.length : Int) < m) (hc : Coll q f1 f2 (pre ++ [x]) W') (hmv : Moves (CollS q) W W')
    (h1 : Bm ≠ q.B1) (h2 : Bm ≠ q.B2) (h3 : Bm < q.base) (g1 : w.heap.size ≤ q.B1) (g2 : w.heap.size ≤ q.B2) (g3 : w.heap.size ≤ q.base) : CollI q f1 f2 w Bm m (pre ++ [x]) W' := by
  obtain ⟨⟨-, hcell, hl, hb⟩, hB⟩ := h
  refine ⟨⟨hc, ?_, by simp; omega, Nat.le_trans hb hmv.size⟩, hB.trans (hmv.below hB.size (fun b hb hS => ?_))⟩
  · refine (World.cell?_of_block (hmv.same Bm (by omega) (fun hS => ?_))).trans hcell
    rcases hS with e | e | e
    · exact h1 e
    · exact h2 e
    · omega
  · rcases hS with e | e | e <;> omega

end Go.Proofs.YtbbfibgijackhaaGreatDoor
