/-
  Layer 22: the statements' own `rows`. Conditions: a ledger in memory, or none.
-/
import Derived.Test.YtjipcmhknikcgaaDoorLgG
import Derived.Test.YtjipcmhknikcgaaDoorTwo
namespace Go.Proofs.YtjipcmhknikcgaaDoor
open Go.RowKit Go.Shelf
attribute [local go_sem] Oper.semAt_some

abbrev f1R (x : Nat) : List Value := [.int .i64 ((x : Int) + 1)]
abbrev f2R (rs : List RwQ) (x : Nat) : List Value := rL (rowAt rs x)
theorem fiR_load (w : World) (B : Nat) (u : Value) (h : w.cell? ⟨B, 0, none⟩ = some u) : (Instr.loadAt 41 (.pointer (some ⟨B, 0, none⟩))).run Tryd.prog w = .ok u w := by go_simp
theorem fiR_make (w : World) (x : Int) : (Instr.buildSlice 41 1 #[(0, .int .i64 x)]).run Tryd.prog w = .ok (.slice (some ⟨w.heap.size, 0, none⟩) 1 1) (w.alloc (.cells #[.int .i64 x] 3 (0, 0))) := by go_simp
theorem fiR_store (w : World) (B g n cap : Nat) (u : Value) (h : w.cell? ⟨B, 0, none⟩ = some u) (hf : w.frozen? ⟨B, 0, none⟩ = false) : (Instr.storeAt 41 (.pointer (some ⟨B, 0, none⟩)) (.slice (some ⟨g, 0, none⟩) n cap)).run Tryd.prog w = .ok () (w.setCell ⟨B, 0, none⟩ (.slice (some ⟨g, 0, none⟩) n cap)) := by go_simp
theorem fiR_info : (Tryd.prog.info? 3).map (fun i => (i.zero, i.size, i.bytes)) = some (some (.int .i64 0), 1, 8) := by kernel_rfl
theorem frR_load (w : World) (B : Nat) (u : Value) (h : w.cell? ⟨B, 0, none⟩ = some u) : (Instr.loadAt 42 (.pointer (some ⟨B, 0, none⟩))).run Tryd.prog w = .ok u w := by go_simp
theorem frR_make (w : World) (q : RwQ) : (Instr.buildSlice 42 1 #[(0, rV q)]).run Tryd.prog w = .ok (.slice (some ⟨w.heap.size, 0, none⟩) 1 1) (w.alloc (.cells (rL q).toArray 29 (0, 0))) := by kernel_rfl
theorem frR_store (w : World) (B g n cap : Nat) (u : Value) (h : w.cell? ⟨B, 0, none⟩ = some u) (hf : w.frozen? ⟨B, 0, none⟩ = false) : (Instr.storeAt 42 (.pointer (some ⟨B, 0, none⟩)) (.slice (some ⟨g, 0, none⟩) n cap)).run Tryd.prog w = .ok () (w.setCell ⟨B, 0, none⟩ (.slice (some ⟨g, 0, none⟩) n cap)) := by go_simp
theorem frR_info : (Tryd.prog.info? 29).map (fun i => (i.zero, i.size, i.bytes)) = some (some (.agg #[.int .u64 0, .int .u64 0]), 2, 16) := by kernel_rfl
theorem frR_notnil (w : World) (f : Nat) (c : Array Value) : (binOp BinOp.eql 60 (.func (.func f) #[] c) .nilFunc).run Tryd.prog w = .ok (.bool false) w := by kernel_rfl

/-- One of the two, whose element is loaded from its own block. -/
def mkChB (B T e size base k : Nat) (v xa x : Value) (xs cells : List Value) (tb tx d i it : Nat) (src : World → Prop) : Ch :=
  { T, B, e, size, base, k, v, x, xs, cells, tb, tx, dl := d, dm := d + 1, ds := d + 2, dp := d + 3, il := i, im := i + 1, ib := i + 2, ip := i + 3, it, xa, src }

theorem mkB_ok {P : Program} {ops : Array Oper} {N : Nat} {B T e size base k : Nat} {v x : Value} {xs cells : List Value} {tb tx d i it Tf Nf : Nat} {src : World → Prop}
    (load : ∀ (w : World) (u : Value), w.cell? ⟨B, 0, none⟩ = some u → (Instr.loadAt T (.pointer (some ⟨B, 0, none⟩))).run P w = .ok u w)
    (make : ∀ w : World, (Instr.buildSlice T 1 #[(0, x)]).run P w = .ok (.slice (some ⟨w.heap.size, 0, none⟩) 1 1) (w.alloc (.cells cells.toArray e (0, 0))))
    (store : ∀ (w : World) (g n cap : Nat) (u : Value), w.cell? ⟨B, 0, none⟩ = some u → w.frozen? ⟨B, 0, none⟩ = false → (Instr.storeAt T (.pointer (some ⟨B, 0, none⟩)) (.slice (some ⟨g, 0, none⟩) n cap)).run P w = .ok () (w.setCell ⟨B, 0, none⟩ (.slice (some ⟨g, 0, none⟩) n cap)))
    (slice : P.underlying T = some (.slice e)) {z : Value} {bytes : Nat} (info : (P.info? e).map (fun i => (i.zero, i.size, i.bytes)) = some (some z, size, bytes)) (hz : z.cells.size = size) (hreach : (k + 1) * bytes ≤ 140737488355328) (hmost : k + 1 ≤ maxLen)
    (hsize : 0 < size) (one : ∀ u ∈ cells, u.oneCell' = true) (len : cells.length = size) (te : T ≠ e)
    {ol om ob op ot : Oper} (hl : ops[i]? = some ol) (hl2 : ol.op = .load T (.tmp tb) ∧ ol.dst = some d ∧ ol.guard = none) (hm : ops[i + 1]? = some om) (hm2 : om.op = .load Tf (.tmp tx) ∧ om.dst = some (d + 1) ∧ om.guard = none)
    (hsrc : ∀ w, src w → (Instr.loadAt Tf (.pointer (some ⟨Nf, 0, none⟩))).run P w = .ok x w)
    (hb : ops[i + 2]? = some ob) (hb2 : ob.op = .buildSlice T 1 #[(0, .tmp (d + 1))] ∧ ob.dst = some (d + 2) ∧ ob.guard = none)
    (hp : ops[i + 3]? = some op) (hp2 : op.op = .call { callee := .builtin .append, args := #[.tmp d, .tmp (d + 2)], argTypes := #[T, T] } ∧ op.dst = some (d + 3) ∧ op.guard = none)
    (ht : ops[it]? = some ot) (ht2 : ot.op = .store T (.tmp tb) (.tmp (d + 3)) ∧ ot.dst = none ∧ ot.guard = none)
    (w1 : waitsB ops (i + 2) (i + 1) = true) (w2 : waitsB ops (i + 3) i = true) (w3 : waitsB ops (i + 3) (i + 2) = true) (w4 : waitsB ops it (i + 3) = true)
    (hd : d + 3 < N) (htb : tb < d) (htx : tx < d) (hit : i + 3 < it) : (mkChB B T e size base k v (.pointer (some ⟨Nf, 0, none⟩)) x xs cells tb tx d i it src).Ok P ops N := by
  refine { load := load, make := make, store := store, slice := slice, info := ?_, size := hsize, one := one, len := len, most := hmost, te := te, ol := ⟨ol, hl, hl2⟩, om := ⟨om, hm, (fun d h => by rw [hm2.1] at h; cases h), (fun _ _ => by simp [Oper.about, hm2.1]), (fun w a hs h => by simp only [mkChB] at h hs; simp [execOp, hm2.1, h, mkChB, hsrc w hs]), hm2.2⟩, ob := ⟨ob, hb, hb2.1, hb2.2.1, hb2.2.2, waits_of w1 hb⟩, op := ⟨op, hp, hp2.1, hp2.2.1, hp2.2.2, waits_of w2 hp, waits_of w3 hp⟩, ot := ⟨ot, ht, ht2.1, ht2.2.1, ht2.2.2, waits_of w4 ht⟩, ds := ?_, ne := ?_, ni := ?_ }
  · obtain ⟨i0, hi, h1, h2, h3⟩ := info_parts info
    exact ⟨i0, z, bytes, hi, h1, h2, h3, hz, hreach⟩
  · simp only [mkChB]; omega
  · simp only [mkChB]; omega
  · simp only [mkChB]; omega

theorem row_tyB {W : World} {base e size k : Nat} {v : Value} {xs : List Value} (h : W.ownsRow base e size v k xs) {g : Nat} (hg : v.ownBlock = some g) : ∃ cs fr, W.heap[g]? = some (Obj.cells cs e fr) := by
  rcases h.2 with ⟨rfl, _⟩ | ⟨g', cap, cur, rfl, hb, hgg, _⟩
  · simp [Value.ownBlock] at hg
  · have : g' = g := by simpa [Value.ownBlock] using hg
    subst this
    exact ⟨_, _, hgg⟩

/-- The blocks that a round turns. -/
def S0B (q : CollAt) (v1 v2 : Value) : Nat → Prop := fun b => b = q.B1 ∨ b = q.B2 ∨ v1.ownBlock = some b ∨ v2.ownBlock = some b
theorem S0B.coll {q : CollAt} {v1 v2 : Value} {W : World} {k1 k2 : Nat} {xs ys : List Value} (o1 : W.ownsRow q.base q.e1 q.s1 v1 k1 xs) (o2 : W.ownsRow q.base q.e2 q.s2 v2 k2 ys) (b : Nat) (h : S0B q v1 v2 b) : CollS q b := by
  rcases h with h | h | h | h
  · exact .inl h
  · exact .inr (.inl h)
  · exact .inr (.inr (row_cells o1 h).1)
  · exact .inr (.inr (row_cells o2 h).1)
/-- What has another type than the boxes and the rows isn't turned. -/
theorem S0B.ty {q : CollAt} {v1 v2 : Value} {W : World} {k1 k2 : Nat} {xs ys : List Value} (b1 : Boxed W q.B1 q.T1 v1) (b2 : Boxed W q.B2 q.T2 v2) (o1 : W.ownsRow q.base q.e1 q.s1 v1 k1 xs) (o2 : W.ownsRow q.base q.e2 q.s2 v2 k2 ys)
    {b t : Nat} {cs : Array Value} {fr : Nat × Nat} (hb : W.heap[b]? = some (Obj.cells cs t fr)) (h1 : t ≠ q.T1) (h2 : t ≠ q.T2) (h3 : t ≠ q.e1) (h4 : t ≠ q.e2) : ¬ S0B q v1 v2 b := by
  rintro (rfl | rfl | h | h)
  · have := hb.symm.trans (show W.heap[q.B1]? = some _ from b1)
    injection this with h; injection h with _ h; exact h1 h
  · have := hb.symm.trans (show W.heap[q.B2]? = some _ from b2)
    injection this with h; injection h with _ h; exact h2 h
  · obtain ⟨cs', fr', e⟩ := row_tyB o1 h
    have := hb.symm.trans e
    injection this with h; injection h with _ h; exact h3 h
  · obtain ⟨cs', fr', e⟩ := row_tyB o2 h
    have := hb.symm.trans e
    injection this with h; injection h with _ h; exact h4 h

theorem own_lt {W : World} {base e size k : Nat} {v : Value} {xs : List Value} (h : W.ownsRow base e size v k xs) {g : Nat} (hg : v.ownBlock = some g) : base ≤ g := (row_cells h hg).1
theorem CollI.keptB {α : Type} {q : CollAt} {f1 f2 : α → List Value} {w W W' : World} {Bm : Nat} {m : Int} {pre : List α} (h : CollI q f1 f2 w Bm m pre W) (k : Kp Nb W W') : CollI q f1 f2 w Bm m pre W' := by
  obtain ⟨⟨⟨v1, v2, b1, b2, o1, o2, hs⟩, hm, hl, hb⟩, hB⟩ := h
  exact ⟨⟨⟨v1, v2, (k.heap b1.lt (fun h => h)).trans b1, (k.heap b2.lt (fun h => h)).trans b2, ownsRow_same o1 (fun g hg => by obtain ⟨-, o, ho, -⟩ := row_cells o1 hg; exact k.heap (Array.getElem?_eq_some_iff.1 ho).1 (fun h => h)), ownsRow_same o2 (fun g hg => by obtain ⟨-, o, ho, -⟩ := row_cells o2 hg; exact k.heap (Array.getElem?_eq_some_iff.1 ho).1 (fun h => h)), hs⟩, by
    have hlt : Bm < W.heap.size := by
      unfold World.cell? at hm
      cases hx : W.heap[Bm]? with
      | none => rw [hx] at hm; cases hm
      | some o => exact (Array.getElem?_eq_some_iff.1 hx).1
    exact (World.cell?_of_block (k.heap hlt (fun h => h))).trans hm, hl, Nat.le_trans hb k.size⟩, hB.trans (k.below hB.size (fun _ _ h => h))⟩
/-- The row's own block, apart from the list. -/
def AxC (q : CollAt) (rs : List RwQ) (fr : Nat → Act) (x : Nat) (a' : Act) (W : World) : Prop :=
  ∃ N u, q.base ≤ N ∧ a' = fr N ∧ Blk W N 29 (rL (rowAt rs x)) ∧ Boxed W q.B2 q.T2 u ∧ u.ownBlock ≠ some N
theorem axC_own (q : CollAt) (rs : List RwQ) (fr : Nat → Act) (x : Nat) (a' : Act) {B : Nat} : OwnFrom B (fun (_ : Unit) W => AxC q rs fr x a' W) :=
  Own.from (fun _ A W row hs hg hr => by
    obtain ⟨N, u, h1, h2, h3, h4, h5⟩ := hs
    exact ⟨N, u, h1, h2, blk_turn h3 hg hr, h4.kept hg (fun e => by
      obtain ⟨o, ho, hc⟩ := hr _ e.symm
      have := (show A.heap[_]? = _ from h4).symm.trans ho
      cases this
      cases hc), h5⟩) _
theorem collB_region {F : Fence} {n : Nat} {P : Program} {ops : Array Oper} {Q : Exit → Act → World → Prop} {rid N : Nat} {a : Act} {W : World} {q : CollAt} {y1 : Value} {rs : List RwQ} {pre : List Nat} {x : Nat} {tb1 tx1 tb2 tx2 d : Nat}
    (hmx : P.follows .mixedOrders = true) (hup : upsB ops = true) (hsz : ops.size = 10)
    {v1 v2 : Value} (b1 : Boxed W q.B1 q.T1 v1) (b2 : Boxed W q.B2 q.T2 v2) (o1 : W.ownsRow q.base q.e1 q.s1 v1 pre.length (pre.flatMap f1R)) (o2 : W.ownsRow q.base q.e2 q.s2 v2 pre.length (pre.flatMap (f2R rs))) (hs : ∀ g, v1.ownBlock = some g → v2.ownBlock ≠ some g)
    {src : World → Prop} {xa x2 : Value}
    (k1 : (mkCh q.B1 q.T1 q.e1 q.s1 q.base pre.length v1 y1 (pre.flatMap f1R) (f1R x) tb1 tx1 d 0 8).Ok P ops N)
    (k2 : (mkChB q.B2 q.T2 q.e2 q.s2 q.base pre.length v2 xa x2 (pre.flatMap (f2R rs)) ((f2R rs) x) tb2 tx2 (d + 4) 4 9 src).Ok P ops N)
    (hsrc : ∀ w', Moves (S0B q v1 v2) W w' → src w')
    (hN : a.tmps.size = N) (t1 : a.eval (.tmp tb1) = .pointer (some ⟨q.B1, 0, none⟩)) (t2 : a.eval (.tmp tb2) = .pointer (some ⟨q.B2, 0, none⟩)) (x1 : a.eval (.tmp tx1) = y1) (x2' : a.eval (.tmp tx2) = xa)
    (hd1 : tb1 < d ∧ tx1 < d) (hd2 : tb2 < d ∧ tx2 < d) (hB : q.B1 ≠ q.B2) (e12 : q.T1 ≠ q.e2) (e21 : q.T2 ≠ q.e1) (hbase : q.base ≤ W.heap.size)
    (hQ : ∀ (a' : Act) (W' : World), Coll q f1R (f2R rs) (pre ++ [x]) W' → Moves (S0B q v1 v2) W W' → Q .normal a' W') :
    (Code.region rid ops true).wpIn F n P Q a W := by
  refine two_appends hmx (ups_of hup) k1 k2 hsz ?_ ?_ ?_ ?_ hN t1 t2 x1 x2' b1 b2 o1 o2 hB e12 e21 hs hbase hbase (fun _ _ => trivial) hsrc ?_
  · intro i hi
    simp only [mkCh, mkChB, List.mem_cons, List.not_mem_nil, or_false]
    omega
  · simp only [mkCh, mkChB, List.mem_cons, List.not_mem_nil, or_false]
    omega
  · simp only [mkCh, mkChB, List.mem_cons, List.not_mem_nil, or_false]
    omega
  · simp only [mkCh, mkChB, List.mem_cons, List.not_mem_nil, or_false]
    omega
  · rintro a' W' u1 u2 ⟨c1, c2⟩ ⟨c3, c4⟩ hsep hm
    refine hQ a' W' ⟨u1, u2, c1, c3, ?_, ?_, hsep⟩ hm
    · rw [List.length_append, List.flatMap_append, List.flatMap_singleton]
      exact c2
    · rw [List.length_append, List.flatMap_append, List.flatMap_singleton]
      exact c4


theorem nzT_pre {rs : List RwQ} {k : Nat} {pre : List Nat} {x : Nat} (h : pre ++ [x] = nzT rs k) (hk : k ≤ 14) : pre = (nzT rs 14).take pre.length := by
  have e : nzT rs 14 = nzT rs k ++ ((List.range' k (14 - k)).filter fun i => !decide (rowAt rs i = (0, 0))) := by
    unfold nzT
    rw [← List.filter_append]
    congr 1
    obtain ⟨d, hd⟩ : ∃ d, 14 = k + d := ⟨14 - k, by omega⟩
    rw [hd, Nat.add_sub_cancel_left, List.range_eq_range', List.range_eq_range', ← List.range'_append_1, Nat.zero_add]
  rw [e, ← h, List.append_assoc, List.take_left]

set_option maxRecDepth 100000 in
set_option maxHeartbeats 4000000 in
theorem lwrows_in (n : Nat) (hn : 3 ≤ n) (p : Option Nat) (rs : List RwQ) (m : Int) (w : World) (h : LgO w p rs) :
    CallsIn Fence.wide n Tryd.prog 14 #[lgP p, .int .i64 m] w fun e w' => ∃ v1 v2 xs, e = .returned (.tuple #[v1, v2]) ∧ xs = (nzT rs 14).take m.toNat ∧
      w'.ownsRow w.heap.size 3 1 v1 xs.length (xs.flatMap f1R) ∧ w'.ownsRow w.heap.size 29 2 v2 xs.length (xs.flatMap (f2R rs)) ∧ Below w.heap.size w w' := by
  have h1 : 1 ≤ n := by omega
  have hnil := fun (w : World) (c : Array Value) => frR_notnil w 30 c
  have CC : Hid (∀ wx, Kp Nb w wx → Calls Tryd.prog 22 #[lgP p] wx fun e w' => ∃ Ba, e = .returned (.func (.func 30) #[] #[.pointer (some ⟨Ba, 0, none⟩)]) ∧ ArAt w' Ba rs ∧ wx.heap.size ≤ Ba ∧ Kp Nb wx w') := hid (fun wx k => lrows_any p rs wx (h.kept k (fun _ _ h => h)))
  obtain ⟨P, hP⟩ : ∃ P, lgP p = P := ⟨_, rfl⟩
  rw [hP] at CC ⊢
  clear h hP
  refine callsIn_of_wp_marks Tryd.func14 rfl trivial ?_ rfl
  simp only [Tryd.ntmps14, List.size_toArray, List.length_cons, List.length_nil, Nat.reduceAdd, Nat.reduceSub, Array.replicate_succ, Array.replicate_zero, List.push_toArray, List.append_toArray, List.nil_append, List.cons_append]
  gi_wp2_with (refine ⟨trivial, ?_⟩; gi_at_call 22; refine (callsIn_wide.2 (CC.out _ ((((Kp.refl Nb w).alloc _).alloc _).alloc _))).mono ?_; rintro r W0 ⟨Ba, rfl, c3, l1, k0⟩)
  have b0 := Boxed.new w 3 (.int .i64 m)
  have b1 := Boxed.new (w.alloc (.cells #[.int .i64 m] 3)) 41 (.slice none 0 0)
  have b2 := Boxed.new ((w.alloc (.cells #[.int .i64 m] 3)).alloc (.cells #[.slice none 0 0] 41)) 42 (.slice none 0 0)
  simp only [World.size_alloc] at b1 b2 l1
  have d0 := (b0.alloc (.cells #[.slice none 0 0] 41)).alloc (.cells #[.slice none 0 0] 42)
  have d1 := b1.alloc (.cells #[.slice none 0 0] 42)
  have c0' : Boxed W0 w.heap.size 3 (.int .i64 m) := (k0.heap (by simp; omega) (fun h => h)).trans d0
  have c1' : Boxed W0 (w.heap.size + 1) 41 (.slice none 0 0) := (k0.heap (by simp) (fun h => h)).trans d1
  have c2' : Boxed W0 (w.heap.size + 1 + 1) 42 (.slice none 0 0) := (k0.heap (by simp) (fun h => h)).trans b2
  have hB0 : Below w.heap.size w W0 := (((((Kp.refl Nb w).alloc _).alloc _).alloc _).trans k0 (fun _ _ h => h)).below (Nat.le_refl _) (fun _ _ h => h)
  obtain ⟨Z, hZ0⟩ : ∃ Z, Z = W0.heap.size := ⟨_, rfl⟩
  have HL' := hid (show w.heap.size + 1 + 1 + 1 ≤ Z ∧ W0.heap.size = Z from ⟨by have := l1; have := c3.blk.lt; omega, hZ0.symm⟩)
  obtain ⟨q, hq⟩ : ∃ q : CollAt, q = ⟨w.heap.size + 1, 41, 3, 1, w.heap.size + 1 + 1, 42, 29, 2, Z⟩ := ⟨_, rfl⟩
  have HQ := hid hq
  have HB0 := hid hB0
  have HI0 := hid (CollI.start (q := q) f1R (f2R rs) (by rw [hq]; exact c1') (by rw [hq]; exact c2') c0'.cell (by rw [hq]; exact Nat.le_of_eq hZ0) hB0)
  have HC3 := hid c3
  clear hZ0 hB0 b0 b1 b2 d0 d1 c0' c1' c2' k0 c3 l1 hq
  refine wpIn_rangeW rfl h1 (gf := 30) (lb := #[.pointer (some ⟨Ba, 0, none⟩)]) rfl trivial (enters_of Tryd.func30 (by kernel_rfl) rfl)
    (rows_seq (n - 1) (by omega) Ba rs W0 HC3.out) kp0_t (fun _ _ _ _ _ _ _ => trivial)
    (fun xs => static_ownW _) (fun xs => static_ownW _) (Below.refl _ _) (fun x => rfl)
    (CollI q f1R (f2R rs) w w.heap.size m) (CollX q f1R (f2R rs) w m) (collI_own _ _ _ _ _ _ HB0.out.size) (fun c => collX_own _ _ _ _ _ c HB0.out.size) HI0.out
    (fun x a' W => AxC q rs (fun N => { tmps := #[P, .int .i64 m, undef, .pointer (some ⟨w.heap.size, 0, none⟩), .slice none 0 0, .slice none 0 0, .pointer (some ⟨w.heap.size + 1, 0, none⟩), .pointer (some ⟨w.heap.size + 1 + 1, 0, none⟩), .func (.func 30) #[] #[.pointer (some ⟨Ba, 0, none⟩)], .int .i64 ((x : Int) + 1), .pointer (some ⟨N, 0, none⟩), P, .func (.func 30) #[] #[.pointer (some ⟨Ba, 0, none⟩)], .func (.func 30) #[] #[.pointer (some ⟨Ba, 0, none⟩)], .bool false, .func (.func 30) #[] #[.pointer (some ⟨Ba, 0, none⟩)], .int .i64 ((x : Int) + 1), rV (rowAt rs x), undef, undef, undef, undef, undef, undef, undef, undef, undef, undef, undef, undef, undef, undef], defers := [] }) x a' W)
    (fun x a' => axC_own q rs _ x a') ?assign ?body ?done ?stop
  case assign =>
    intro l pre x W K hI hK
    have HI := hid hI
    obtain ⟨⟨⟨v1, v2, b1, b2, o1, o2, hs⟩, hm, hlen, hbase⟩, hB⟩ := hI
    have HB2 := hid b2
    have HZ := hid hbase
    have HO2 : Hid (∀ g, v2.ownBlock = some g → g < W.heap.size) := hid (fun g hg => by obtain ⟨-, o, ho, -⟩ := row_cells o2 hg; exact (Array.getElem?_eq_some_iff.1 ho).1)
    have HBZ : Hid (Z ≤ W.heap.size) := hid (by rw [HQ.out] at hbase; exact hbase)
    have HK := hid hK
    obtain ⟨W5, s1, s2, s3⟩ := rw_fresh W (rowAt rs x)
    have HST : Hid ((Instr.storeAt 29 (.pointer (some ⟨W.heap.size, 0, none⟩)) (rV (rowAt rs x))).run Tryd.prog (W.alloc (.cells #[.int .u64 0, .int .u64 0] 29)) = .ok () W5) := hid s1
    have BM5 := hid s2
    have K5 := hid s3
    clear b1 b2 o1 o2 hs hm hlen hbase hB hK s1 s2 s3
    gi_wp2_with (first
      | (refine wpListIn_storeL rfl 29 (.tmp 10) (.tmp 17) rfl (p := ⟨W.heap.size, 0, none⟩) (by rfl) (v := rV (rowAt rs x)) (by rfl) HST.out ?_)
      | (refine wpIn_store_at 29 (.tmp 10) (.tmp 17) rfl (p := ⟨W.heap.size, 0, none⟩) (by rfl) (v := rV (rowAt rs x)) (by rfl) HST.out ?_))
    refine HK.out _ _ (K5.out.keepsNb _) trivial (HI.out.keptB K5.out) ?_
    exact ⟨W.heap.size, v2, HZ.out, rfl, BM5.out, (K5.out.heap HB2.out.lt (fun h => h)).trans HB2.out, fun e => absurd (HO2.out _ e) (Nat.lt_irrefl _)⟩
  case body =>
    rintro l pre x a' W hI ⟨N, u, hN, rfl, hNB, hNU, hne⟩ hlt
    have HI := hid hI
    obtain ⟨⟨⟨v1, v2, b1, b2, o1, o2, hs⟩, hm, hlen, hbase⟩, hB⟩ := hI
    obtain ⟨p1, q1, rfl⟩ := own_shape o1
    have hu : u = v2 := by
      have e := (show W.heap[q.B2]? = _ from hNU).symm.trans (show W.heap[q.B2]? = _ from b2)
      injection e with e; injection e with e; simpa using e
    subst hu
    have hq := HQ.out
    have c1 : W.cell? ⟨w.heap.size + 1, 0, none⟩ = some (.slice p1 pre.length q1) := by rw [hq] at b1; exact b1.cell
    have HC := hid b1
    have HC2 := hid b2
    have HO1 := hid o1
    have HO2 := hid o2
    have HS := hid hs
    have HL := hid hlen
    have HBS := hid hbase
    have HBW := hid hB
    have HNB := hid hNB
    have HNE := hid hne
    clear hq b1 b2 o1 o2 hs hlen hbase hB hNB hNU hne hN
    by_cases hge : m ≤ (pre.length : Int)
    · gi_wp2
      exact ⟨KeepsFrom.refl _ _, trivial, ⟨rfl, pre, _, rfl, ⟨_, u, HC.out, HC2.out, HO1.out, HO2.out, HS.out⟩, by have := HL.out; omega⟩, HBW.out⟩
    · gi_wp2
      have hmx : Tryd.prog.follows .mixedOrders = true := by kernel_rfl
      have b1 := HC.out
      have b2 := HC2.out
      have o1 := HO1.out
      have o2 := HO2.out
      have hbs := HBS.out
      have hne := HNE.out
      have hq := HQ.out
      have hL := HL.out
      rw [hq] at b1 b2 o1 o2 hbs
      dsimp only at hbs
      refine collB_region (q := ⟨w.heap.size + 1, 41, 3, 1, w.heap.size + 1 + 1, 42, 29, 2, Z⟩) (rs := rs) (pre := pre) (x := x) (y1 := .int .i64 ((x : Int) + 1)) (xa := .pointer (some ⟨N, 0, none⟩)) (x2 := rV (rowAt rs x)) (N := 32) (tb1 := 6) (tx1 := 9) (tb2 := 7) (tx2 := 10) (d := 22) (src := fun w' => Blk w' N 29 (rL (rowAt rs x))) hmx (by kernel_rfl) rfl b1 b2 o1 o2 HS.out
        (mk_ok (fun w u h => fiR_load w _ u h) (fun w => fiR_make w ((x : Int) + 1)) (fun w g n c u h hf => fiR_store w _ g n c u h hf) Tryd.underlying41 fiR_info rfl (by omega) (by unfold maxLen; omega) (by simp) (by simp [f1R, Value.oneCell']) rfl (by simp) rfl ⟨rfl, rfl, rfl⟩ rfl ⟨rfl, rfl, rfl⟩ rfl ⟨rfl, rfl, rfl⟩ rfl ⟨rfl, rfl, rfl⟩ rfl ⟨rfl, rfl, rfl⟩ (by kernel_rfl) (by kernel_rfl) (by kernel_rfl) (by kernel_rfl) (by decide) (by decide) (by decide) (by decide))
        (mkB_ok (Tf := 29) (fun w u h => frR_load w _ u h) (fun w => frR_make w (rowAt rs x)) (fun w g n c u h hf => frR_store w _ g n c u h hf) Tryd.underlying42 frR_info rfl (by omega) (by unfold maxLen; omega) (by simp) (rL_one _) rfl (by simp) rfl ⟨rfl, rfl, rfl⟩ rfl ⟨rfl, rfl, rfl⟩ (fun w' h => rw_load0 h) rfl ⟨rfl, rfl, rfl⟩ rfl ⟨rfl, rfl, rfl⟩ rfl ⟨rfl, rfl, rfl⟩ (by kernel_rfl) (by kernel_rfl) (by kernel_rfl) (by kernel_rfl) (by decide) (by decide) (by decide) (by decide))
        (fun w' hm => (hm.same N HNB.out.lt ?ns).trans HNB.out) rfl rfl rfl rfl rfl (by decide) (by decide) (by simp) (by simp) (by simp) hbs ?_
      case ns =>
        rintro (e | e | e | e)
        · have h := (show W.heap[N]? = _ from HNB.out).symm.trans (show W.heap[N]? = _ from e ▸ b1)
          injection h with h; injection h with _ h; cases h
        · have h := (show W.heap[N]? = _ from HNB.out).symm.trans (show W.heap[N]? = _ from e ▸ b2)
          injection h with h; injection h with _ h; cases h
        · obtain ⟨cs', fr', h⟩ := row_tyB o1 e
          have h := (show W.heap[N]? = _ from HNB.out).symm.trans h
          injection h with h; injection h with _ h; cases h
        · exact hne e
      intro a' W' hc hmv
      rw [← hq] at hc
      have hmv2 : Moves (CollS q) W W' := hmv.mono (fun b _ h => by rw [hq]; exact S0B.coll o1 o2 b h)
      have hHL := HL'.out
      exact ⟨hmv.keepsFrom _, trivial, HI.out.next (by omega) hc hmv2 (by rw [hq]; dsimp only; omega) (by rw [hq]; dsimp only; omega) (by rw [hq]; dsimp only; omega) (by rw [hq]; dsimp only; omega) (by rw [hq]; dsimp only; omega) (by rw [hq]; dsimp only; omega)⟩
  case done =>
    rintro D ys W hD hS ⟨⟨⟨v1, v2, b1, b2, o1, o2, hs⟩, hm, hlen, hbase⟩, hB⟩ hK
    have HLE : Hid (ys = (nzT rs 14).take m.toNat) := hid (by rw [← hS, List.take_of_length_le hlen])
    have hq := HQ.out
    have hHL := HL'.out
    rw [hq] at b1 b2 o1 o2
    obtain ⟨p1, q1, rfl⟩ := own_shape o1
    obtain ⟨p2, q2, rfl⟩ := own_shape o2
    have c1 := b1.cell
    have c2 := b2.cell
    have HO1 := hid (ownsRow_le (base' := w.heap.size) o1 (by dsimp only; omega))
    have HO2 := hid (ownsRow_le (base' := w.heap.size) o2 (by dsimp only; omega))
    have HBW := hid hB
    have HD := hid hD
    have HK := hid hK
    clear hq b1 b2 o1 o2 hs hB hD hK hlen hHL hS
    gi_wp2
    gi_region
    all_goals
      gi_wp2
      refine ⟨by simp, .inl ⟨_, _, rfl, run_takeDeferred HK.out, ?_⟩⟩
      refine ⟨.tuple #[.slice p1 ys.length q1, .slice p2 ys.length q2], by simp [results, Tryd.f14, go_sem], _, _, ys, rfl, HLE.out, ?_⟩
      exact ⟨ownsRow_putObj (W := W) HO1.out _ HK.out rfl, ownsRow_putObj (W := W) HO2.out _ HK.out rfl, HBW.out.drew.trans (belowK_b (w := w) (Nat.le_refl _) W.drew D _ _ (by have := HL'.out; have := HD.out; omega) HK.out rfl rfl)⟩
  case stop =>
    rintro D c pre W hD hS ⟨⟨rfl, ys, x, rfl, ⟨v1, v2, b1, b2, o1, o2, hs⟩, hlen⟩, hB⟩ hK
    have HLE : Hid (ys = (nzT rs 14).take m.toNat) := hid (by
      obtain ⟨k, hk, e⟩ := hS
      rw [← hlen]
      exact nzT_pre e hk)
    have hq := HQ.out
    have hHL := HL'.out
    rw [hq] at b1 b2 o1 o2
    obtain ⟨p1, q1, rfl⟩ := own_shape o1
    obtain ⟨p2, q2, rfl⟩ := own_shape o2
    have c1 := b1.cell
    have c2 := b2.cell
    have HO1 := hid (ownsRow_le (base' := w.heap.size) o1 (by dsimp only; omega))
    have HO2 := hid (ownsRow_le (base' := w.heap.size) o2 (by dsimp only; omega))
    have HBW := hid hB
    have HD := hid hD
    have HK := hid hK
    clear hq b1 b2 o1 o2 hs hB hD hK hlen hHL hS
    gi_wp2
    gi_region
    all_goals
      gi_wp2
      refine ⟨by simp, .inl ⟨_, _, rfl, run_takeDeferred HK.out, ?_⟩⟩
      refine ⟨.tuple #[.slice p1 ys.length q1, .slice p2 ys.length q2], by simp [results, Tryd.f14, go_sem], _, _, ys, rfl, HLE.out, ?_⟩
      exact ⟨ownsRow_putObj (W := W) HO1.out _ HK.out rfl, ownsRow_putObj (W := W) HO2.out _ HK.out rfl, HBW.out.drew.trans (belowK_b (w := w) (Nat.le_refl _) W.drew D _ _ (by have := HL'.out; have := HD.out; omega) HK.out rfl rfl)⟩

theorem lwrows_any (p : Option Nat) (rs : List RwQ) (m : Int) (w : World) (h : LgO w p rs) :
    Calls Tryd.prog 14 #[lgP p, .int .i64 m] w fun e w' => ∃ v1 v2 xs, e = .returned (.tuple #[v1, v2]) ∧ xs = (nzT rs 14).take m.toNat ∧
      w'.ownsRow w.heap.size 3 1 v1 xs.length (xs.flatMap f1R) ∧ w'.ownsRow w.heap.size 29 2 v2 xs.length (xs.flatMap (f2R rs)) ∧ Below w.heap.size w w' :=
  callsIn_wide.1 (lwrows_in 3 (Nat.le_refl _) p rs m w h)

end Go.Proofs.YtjipcmhknikcgaaDoor
