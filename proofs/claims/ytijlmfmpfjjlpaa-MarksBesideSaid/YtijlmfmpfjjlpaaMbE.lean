/-
  Layer 9: the statements' own `beside`: the first marks of two lists beside one another, and whose they are. Conditions: marks of 16 bytes; at most 100,000 a list.
-/
import Derived.Test.YtijlmfmpfjjlpaaMbD
import Derived.Test.YtijlmfmpfjjlpaaTwo
import Derived.Test.YtijlmfmpfjjlpaaColl
namespace Go.Proofs.Ytijlmfmpfjjlpaa
open Go.RowKit Go.Shelf
attribute [local go_sem] Oper.semAt_some

/-- One of the two, whose element is loaded from its own block. -/
def mkChB (B T e size base k : Nat) (v xa x : Value) (xs cells : List Value) (tb tx d i it : Nat) (src : World → Prop) : Ch :=
  { T, B, e, size, base, k, v, x, xs, cells, tb, tx, dl := d, dm := d + 1, ds := d + 2, dp := d + 3, il := i, im := i + 1, ib := i + 2, ip := i + 3, it, xa, src }

theorem mkB_ok {P : Program} {ops : Array Oper} {N : Nat} {B T e size base k : Nat} {v x : Value} {xs cells : List Value} {tb tx d i it Tf Nf : Nat} {src : World → Prop}
    (load : ∀ (w : World) (u : Value), w.cell? ⟨B, 0, none⟩ = some u → (Instr.loadAt T (.pointer (some ⟨B, 0, none⟩))).run P w = .ok u w)
    (make : ∀ w : World, (Instr.buildSlice T 1 #[(0, x)]).run P w = .ok (.slice (some ⟨w.heap.size, 0, none⟩) 1 1) (w.alloc (.cells cells.toArray e (0, 0))))
    (store : ∀ (w : World) (g n cap : Nat) (u : Value), w.cell? ⟨B, 0, none⟩ = some u → w.frozen? ⟨B, 0, none⟩ = false → (Instr.storeAt T (.pointer (some ⟨B, 0, none⟩)) (.slice (some ⟨g, 0, none⟩) n cap)).run P w = .ok () (w.setCell ⟨B, 0, none⟩ (.slice (some ⟨g, 0, none⟩) n cap)))
    (slice : P.underlying T = some (.slice e)) {z : Value} {bytes : Nat} (info : (P.info? e).map (fun i => (i.zero, i.size, i.bytes)) = some (some z, size, bytes)) (hz : z.cells.size = size) (hreach : (k + 1) * bytes ≤ 140737488355328) (hmost : k + 1 ≤ maxLen)
    (hsize : 0 < size) (one : ∀ u ∈ cells, u.oneCell' = true) (len : cells.length = size) (te : T ≠ e)
    {ol om ob op ot : Oper} (hl : ops[i]? = some ol) (hl2 : ol.op = .load T (.tmp tb) ∧ ol.dst = some d ∧ ol.guard = none) (hm : ops[i + 1]? = some om) (hm2 : om.op = .load Tf (.tmp tx) ∧ om.dst = some (d + 1) ∧ om.guard = none)
    (hsrc : ∀ w, src w → (Instr.loadAt Tf (.pointer (some ⟨Nf, 0, none⟩))).run P w = .ok x w)
    (hb : ops[i + 2]? = some ob) (hb2 : ob.op = .buildSlice T 1 #[(0, .tmp (d + 1))] ∧ ob.dst = some (d + 2) ∧ ob.guard = none)
    (hp : ops[i + 3]? = some op) (hp2 : op.op = .call { callee := .builtin .append, args := #[.tmp d, .tmp (d + 2)], argTypes := #[T, T] } ∧ op.dst = some (d + 3) ∧ op.guard = none)
    (ht : ops[it]? = some ot) (ht2 : ot.op = .store T (.tmp tb) (.tmp (d + 3)) ∧ ot.dst = none ∧ ot.guard = none)
    (w1 : waitsB ops (i + 2) (i + 1) = true) (w2 : waitsB ops (i + 3) i = true) (w3 : waitsB ops (i + 3) (i + 2) = true) (w4 : waitsB ops it (i + 3) = true)
    (hd : d + 3 < N) (htb : tb < d) (htx : tx < d) (hit : i + 3 < it) : (mkChB B T e size base k v (.pointer (some ⟨Nf, 0, none⟩)) x xs cells tb tx d i it src).Ok P ops N := by
  refine { load := load, make := make, store := store, slice := slice, info := ?_, size := hsize, one := one, len := len, most := hmost, te := te, ol := ⟨ol, hl, hl2⟩, om := ⟨om, hm, (fun d h => by rw [hm2.1] at h; cases h), (fun _ _ => by simp [Oper.about, hm2.1]), (fun w a hs h => by simp only [mkChB] at h hs; simp [execOp, hm2.1, h, mkChB, hsrc w hs]), hm2.2⟩, ob := ⟨ob, hb, hb2.1, hb2.2.1, hb2.2.2, waits_of w1 hb⟩, op := ⟨op, hp, hp2.1, hp2.2.1, hp2.2.2, waits_of w2 hp, waits_of w3 hp⟩, ot := ⟨ot, ht, ht2.1, ht2.2.1, ht2.2.2, waits_of w4 ht⟩, ds := ?_, ne := ?_, ni := ?_ }
  · obtain ⟨i0, hi, h1, h2, h3⟩ := info_parts info
    exact ⟨i0, z, bytes, hi, h1, h2, h3, hz, hreach⟩
  · simp only [mkChB]; omega
  · simp only [mkChB]; omega
  · simp only [mkChB]; omega

theorem row_tyB {W : World} {base e size k : Nat} {v : Value} {xs : List Value} (h : W.ownsRow base e size v k xs) {g : Nat} (hg : v.ownBlock = some g) : ∃ cs fr, W.heap[g]? = some (Obj.cells cs e fr) := by
  rcases h.2 with ⟨rfl, _⟩ | ⟨g', cap, cur, rfl, hb, hgg, _⟩
  · simp [Value.ownBlock] at hg
  · have : g' = g := by simpa [Value.ownBlock] using hg
    subst this
    exact ⟨_, _, hgg⟩

/-- The blocks that a round turns. -/
def S0B (q : CollAt) (v1 v2 : Value) : Nat → Prop := fun b => b = q.B1 ∨ b = q.B2 ∨ v1.ownBlock = some b ∨ v2.ownBlock = some b
theorem S0B.coll {q : CollAt} {v1 v2 : Value} {W : World} {k1 k2 : Nat} {xs ys : List Value} (o1 : W.ownsRow q.base q.e1 q.s1 v1 k1 xs) (o2 : W.ownsRow q.base q.e2 q.s2 v2 k2 ys) (b : Nat) (h : S0B q v1 v2 b) : CollS q b := by
  rcases h with h | h | h | h
  · exact .inl h
  · exact .inr (.inl h)
  · exact .inr (.inr (row_cells o1 h).1)
  · exact .inr (.inr (row_cells o2 h).1)
/-- What has another type than the boxes and the rows isn't turned. -/
theorem S0B.ty {q : CollAt} {v1 v2 : Value} {W : World} {k1 k2 : Nat} {xs ys : List Value} (b1 : Boxed W q.B1 q.T1 v1) (b2 : Boxed W q.B2 q.T2 v2) (o1 : W.ownsRow q.base q.e1 q.s1 v1 k1 xs) (o2 : W.ownsRow q.base q.e2 q.s2 v2 k2 ys)
    {b t : Nat} {cs : Array Value} {fr : Nat × Nat} (hb : W.heap[b]? = some (Obj.cells cs t fr)) (h1 : t ≠ q.T1) (h2 : t ≠ q.T2) (h3 : t ≠ q.e1) (h4 : t ≠ q.e2) : ¬ S0B q v1 v2 b := by
  rintro (rfl | rfl | h | h)
  · have := hb.symm.trans (show W.heap[q.B1]? = some _ from b1)
    injection this with h; injection h with _ h; exact h1 h
  · have := hb.symm.trans (show W.heap[q.B2]? = some _ from b2)
    injection this with h; injection h with _ h; exact h2 h
  · obtain ⟨cs', fr', e⟩ := row_tyB o1 h
    have := hb.symm.trans e
    injection this with h; injection h with _ h; exact h3 h
  · obtain ⟨cs', fr', e⟩ := row_tyB o2 h
    have := hb.symm.trans e
    injection this with h; injection h with _ h; exact h4 h

theorem own_lt {W : World} {base e size k : Nat} {v : Value} {xs : List Value} (h : W.ownsRow base e size v k xs) {g : Nat} (hg : v.ownBlock = some g) : base ≤ g := (row_cells h hg).1
theorem CollI.keptB {α : Type} {q : CollAt} {f1 f2 : α → List Value} {w W W' : World} {Bm : Nat} {m : Int} {pre : List α} (h : CollI q f1 f2 w Bm m pre W) (k : Kp Nb W W') : CollI q f1 f2 w Bm m pre W' := by
  obtain ⟨⟨⟨v1, v2, b1, b2, o1, o2, hs⟩, hm, hl, hb⟩, hB⟩ := h
  exact ⟨⟨⟨v1, v2, (k.heap b1.lt (fun h => h)).trans b1, (k.heap b2.lt (fun h => h)).trans b2, ownsRow_same o1 (fun g hg => by obtain ⟨-, o, ho, -⟩ := row_cells o1 hg; exact k.heap (Array.getElem?_eq_some_iff.1 ho).1 (fun h => h)), ownsRow_same o2 (fun g hg => by obtain ⟨-, o, ho, -⟩ := row_cells o2 hg; exact k.heap (Array.getElem?_eq_some_iff.1 ho).1 (fun h => h)), hs⟩, by
    have hlt : Bm < W.heap.size := by
      unfold World.cell? at hm
      cases hx : W.heap[Bm]? with
      | none => rw [hx] at hm; cases hm
      | some o => exact (Array.getElem?_eq_some_iff.1 hx).1
    exact (World.cell?_of_block (k.heap hlt (fun h => h))).trans hm, hl, Nat.le_trans hb k.size⟩, hB.trans (k.below hB.size (fun _ _ h => h))⟩

abbrev f1M (L : List (List Int × Int)) (x : Nat) : List Value := markL (atP L x).1
abbrev f2M (L : List (List Int × Int)) (x : Nat) : List Value := [.int .i64 (atP L x).2]
theorem fm_load (w : World) (B : Nat) (u : Value) (h : w.cell? ⟨B, 0, none⟩ = some u) : (Instr.loadAt 22 (.pointer (some ⟨B, 0, none⟩))).run Try.prog w = .ok u w := by go_simp
theorem fm_store (w : World) (B g n cap : Nat) (u : Value) (h : w.cell? ⟨B, 0, none⟩ = some u) (hf : w.frozen? ⟨B, 0, none⟩ = false) : (Instr.storeAt 22 (.pointer (some ⟨B, 0, none⟩)) (.slice (some ⟨g, 0, none⟩) n cap)).run Try.prog w = .ok () (w.setCell ⟨B, 0, none⟩ (.slice (some ⟨g, 0, none⟩) n cap)) := by go_simp
theorem fm_info : (Try.prog.info? 24).map (fun i => (i.zero, i.size, i.bytes)) = some (some (.agg #[.int .u8 0, .int .u8 0, .int .u8 0, .int .u8 0, .int .u8 0, .int .u8 0, .int .u8 0, .int .u8 0, .int .u8 0, .int .u8 0, .int .u8 0, .int .u8 0, .int .u8 0, .int .u8 0, .int .u8 0, .int .u8 0]), 16, 16) := by kernel_rfl
theorem fi_load (w : World) (B : Nat) (u : Value) (h : w.cell? ⟨B, 0, none⟩ = some u) : (Instr.loadAt 39 (.pointer (some ⟨B, 0, none⟩))).run Try.prog w = .ok u w := by go_simp
theorem fi_make (w : World) (x : Int) : (Instr.buildSlice 39 1 #[(0, .int .i64 x)]).run Try.prog w = .ok (.slice (some ⟨w.heap.size, 0, none⟩) 1 1) (w.alloc (.cells #[.int .i64 x] 3 (0, 0))) := by go_simp
theorem fi_store (w : World) (B g n cap : Nat) (u : Value) (h : w.cell? ⟨B, 0, none⟩ = some u) (hf : w.frozen? ⟨B, 0, none⟩ = false) : (Instr.storeAt 39 (.pointer (some ⟨B, 0, none⟩)) (.slice (some ⟨g, 0, none⟩) n cap)).run Try.prog w = .ok () (w.setCell ⟨B, 0, none⟩ (.slice (some ⟨g, 0, none⟩) n cap)) := by go_simp
theorem fi_info : (Try.prog.info? 3).map (fun i => (i.zero, i.size, i.bytes)) = some (some (.int .i64 0), 1, 8) := by kernel_rfl
theorem fs_notnil (w : World) (f : Nat) (c : Array Value) : (binOp BinOp.eql 69 (.func (.func f) #[] c) .nilFunc).run Try.prog w = .ok (.bool false) w := by kernel_rfl

/-- A round's own mark, apart from the list of marks. -/
def AxB (q : CollAt) (L : List (List Int × Int)) (fr : Nat → Act) (x : Nat) (a' : Act) (W : World) : Prop :=
  ∃ N u, q.base ≤ N ∧ a' = fr N ∧ Blk W N 24 (markL (atP L x).1) ∧ Boxed W q.B1 q.T1 u ∧ u.ownBlock ≠ some N
theorem axB_own (q : CollAt) (L : List (List Int × Int)) (fr : Nat → Act) (x : Nat) (a' : Act) {B : Nat} : OwnFrom B (fun (_ : Unit) W => AxB q L fr x a' W) :=
  Own.from (fun _ A W row hs hg hr => by
    obtain ⟨N, u, h1, h2, h3, h4, h5⟩ := hs
    exact ⟨N, u, h1, h2, blk_turn h3 hg hr, h4.kept hg (fun e => by
      obtain ⟨o, ho, hc⟩ := hr _ e.symm
      have := (show A.heap[_]? = _ from h4).symm.trans ho
      cases this
      cases hc), h5⟩) _
theorem collM_region {F : Fence} {n : Nat} {P : Program} {ops : Array Oper} {Q : Exit → Act → World → Prop} {rid N : Nat} {a : Act} {W : World} {q : CollAt} {y2 : Value} {L : List (List Int × Int)} {pre : List Nat} {x : Nat} {tb1 tx1 tb2 tx2 d : Nat}
    (hmx : P.follows .mixedOrders = true) (hup : upsB ops = true) (hsz : ops.size = 10)
    {v1 v2 : Value} (b1 : Boxed W q.B1 q.T1 v1) (b2 : Boxed W q.B2 q.T2 v2) (o1 : W.ownsRow q.base q.e1 q.s1 v1 pre.length (pre.flatMap (f1M L))) (o2 : W.ownsRow q.base q.e2 q.s2 v2 pre.length (pre.flatMap (f2M L))) (hs : ∀ g, v1.ownBlock = some g → v2.ownBlock ≠ some g)
    {src : World → Prop} {xa x1v : Value}
    (k1 : (mkChB q.B1 q.T1 q.e1 q.s1 q.base pre.length v1 xa x1v (pre.flatMap (f1M L)) ((f1M L) x) tb1 tx1 d 0 8 src).Ok P ops N)
    (k2 : (mkCh q.B2 q.T2 q.e2 q.s2 q.base pre.length v2 y2 (pre.flatMap (f2M L)) ((f2M L) x) tb2 tx2 (d + 4) 4 9).Ok P ops N)
    (hsrc : ∀ w', Moves (S0B q v1 v2) W w' → src w')
    (hN : a.tmps.size = N) (t1 : a.eval (.tmp tb1) = .pointer (some ⟨q.B1, 0, none⟩)) (t2 : a.eval (.tmp tb2) = .pointer (some ⟨q.B2, 0, none⟩)) (x1 : a.eval (.tmp tx1) = xa) (x2' : a.eval (.tmp tx2) = y2)
    (hd1 : tb1 < d ∧ tx1 < d) (hd2 : tb2 < d ∧ tx2 < d) (hB : q.B1 ≠ q.B2) (e12 : q.T1 ≠ q.e2) (e21 : q.T2 ≠ q.e1) (hbase : q.base ≤ W.heap.size)
    (hQ : ∀ (a' : Act) (W' : World), Coll q (f1M L) (f2M L) (pre ++ [x]) W' → Moves (S0B q v1 v2) W W' → Q .normal a' W') :
    (Code.region rid ops true).wpIn F n P Q a W := by
  refine two_appends hmx (ups_of hup) k1 k2 hsz ?_ ?_ ?_ ?_ hN t1 t2 x1 x2' b1 b2 o1 o2 hB e12 e21 hs hbase hbase hsrc (fun _ _ => trivial) ?_
  · intro i hi
    simp only [mkCh, mkChB, List.mem_cons, List.not_mem_nil, or_false]
    omega
  · simp only [mkCh, mkChB, List.mem_cons, List.not_mem_nil, or_false]
    omega
  · simp only [mkCh, mkChB, List.mem_cons, List.not_mem_nil, or_false]
    omega
  · simp only [mkCh, mkChB, List.mem_cons, List.not_mem_nil, or_false]
    omega
  · rintro a' W' u1 u2 ⟨c1, c2⟩ ⟨c3, c4⟩ hsep hm
    refine hQ a' W' ⟨u1, u2, c1, c3, ?_, ?_, hsep⟩ hm
    · rw [List.length_append, List.flatMap_append, List.flatMap_singleton]
      exact c2
    · rw [List.length_append, List.flatMap_append, List.flatMap_singleton]
      exact c4



theorem take_pre (n m : Nat) (h : n ≤ m) : List.range n = (List.range m).take n := by
  rw [List.take_range, Nat.min_eq_left h]
set_option maxRecDepth 100000 in
set_option maxHeartbeats 4000000 in
theorem lbeside_in (n : Nat) (hn : 3 ≤ n) (va vb : Value) (xs ys : List (List Int)) (m : Int) (w : World) (ha : MkSl w va xs) (hb : MkSl w vb ys) (hx : xs.length ≤ 100000) (hy : ys.length ≤ 100000) (L : List (List Int × Int)) (hL : L = mergeM (okAB (rightB xs && rightB ys) xs) (okAB (rightB xs && rightB ys) ys)) :
    CallsIn Fence.wide n Try.prog 25 #[va, vb, .int .i64 m] w fun e w' => ∃ v1 v2 ks, e = .returned (.tuple #[v1, v2]) ∧ ks = (List.range L.length).take m.toNat ∧
      w'.ownsRow w.heap.size 24 16 v1 ks.length (ks.flatMap (f1M L)) ∧ w'.ownsRow w.heap.size 3 1 v2 ks.length (ks.flatMap (f2M L)) ∧ Below w.heap.size w w' := by
  have h1 : 1 ≤ n := by omega
  have hnil := fun (w : World) (c : Array Value) => fs_notnil w 73 c
  obtain ⟨pa, da, rfl⟩ := ha.shape
  obtain ⟨pb, db, rfl⟩ := hb.shape
  obtain ⟨M, hM⟩ : ∃ M, w.heap.size = M := ⟨_, rfl⟩
  obtain ⟨V, hV⟩ : ∃ V, V = ((w.alloc (.cells #[.int .i64 m] 3)).alloc (.cells #[.slice none 0 0] 22)).alloc (.cells #[.slice none 0 0] 39) := ⟨_, rfl⟩
  have b0 := Boxed.new w 3 (.int .i64 m)
  have b1 := Boxed.new (w.alloc (.cells #[.int .i64 m] 3)) 22 (.slice none 0 0)
  have b2 := Boxed.new ((w.alloc (.cells #[.int .i64 m] 3)).alloc (.cells #[.slice none 0 0] 22)) 39 (.slice none 0 0)
  simp only [World.size_alloc] at b1 b2
  have hVs : V.heap.size = M + 3 := by rw [hV, ← hM]; simp
  have d0 : Hid (Boxed V M 3 (.int .i64 m)) := hid (by rw [hV, ← hM]; exact (b0.alloc _).alloc _)
  have d1 : Hid (Boxed V (M + 1) 22 (.slice none 0 0)) := hid (by rw [hV, ← hM]; exact b1.alloc _)
  have d2 : Hid (Boxed V (M + 1 + 1) 39 (.slice none 0 0)) := hid (by rw [hV, ← hM]; exact b2)
  have K0 : Hid (Kp Nb w V) := hid (by rw [hV]; exact (((Kp.refl Nb w).alloc _).alloc _).alloc _)
  have CC : Hid (Calls Try.prog 42 #[.slice pa xs.length da, .slice pb ys.length db] V fun e w' => ∃ B va' vb', e = .returned (.func (.func 73) #[] #[.pointer (some ⟨B, 0, none⟩), .pointer (some ⟨B + 1, 0, none⟩)]) ∧
      Boxed w' B 22 va' ∧ Boxed w' (B + 1) 22 vb' ∧ MkSl w' va' (okAB (rightB xs && rightB ys) xs) ∧ MkSl w' vb' (okAB (rightB xs && rightB ys) ys) ∧
      (∀ g, va'.ownBlock = some g → M + 3 ≤ g ∧ g < w'.heap.size) ∧ (∀ g, vb'.ownBlock = some g → M + 3 ≤ g ∧ g < w'.heap.size) ∧ M + 3 ≤ B ∧ Kp Nb V w') := hid (by
    have := mbeside_any (.slice pa xs.length da) (.slice pb ys.length db) xs ys V (ha.kept K0.out) (hb.kept K0.out) hx hy
    rwa [hVs] at this)
  have HX : Hid ((okAB (rightB xs && rightB ys) xs).length ≤ 100000 ∧ (okAB (rightB xs && rightB ys) ys).length ≤ 100000) := hid (by
    unfold okAB
    split
    · exact ⟨hx, hy⟩
    · exact ⟨Nat.zero_le _, Nat.zero_le _⟩)
  obtain ⟨xs', hxs⟩ : ∃ l, okAB (rightB xs && rightB ys) xs = l := ⟨_, rfl⟩
  obtain ⟨ys', hys⟩ : ∃ l, okAB (rightB xs && rightB ys) ys = l := ⟨_, rfl⟩
  rw [hxs, hys] at hL CC HX
  have HM := hid hM
  have HLL := hid hL
  clear ha hb hx hy b0 b1 b2 hVs hxs hys hL
  refine callsIn_of_wp_marks Try.func25 rfl trivial ?_ rfl
  simp only [Try.ntmps25, List.size_toArray, List.length_cons, List.length_nil, Nat.reduceAdd, Nat.reduceSub, Array.replicate_succ, Array.replicate_zero, List.push_toArray, List.append_toArray, List.nil_append, List.cons_append]
  rw [hM]
  gi_wp2
  rw [← hV]
  clear hV
  gi_wp2_with (refine ⟨trivial, ?_⟩; gi_at_call 42; refine (callsIn_wide.2 CC.out).mono ?_; rintro r W0 ⟨B, va', vb', rfl, e1, e2, s1, s2, o1, o2, l1, k0⟩)
  have K7 : Hid (Kp Nb w W0) := hid (K0.out.trans k0 (fun _ _ h => h))
  obtain ⟨Z, hZ⟩ : ∃ Z, Z = W0.heap.size := ⟨_, rfl⟩
  have HL' := hid (show M + 3 ≤ B ∧ B + 1 < Z ∧ W0.heap.size = Z from ⟨l1, by rw [hZ]; exact e2.lt, hZ.symm⟩)
  have SQ : Hid (SeqW Fence.wide (n - 1) Try.prog 73 #[.pointer (some ⟨B, 0, none⟩), .pointer (some ⟨B + 1, 0, none⟩)] (encP L) (KpB (fun b => M + 3 ≤ b ∧ b < Z))
      (fun ks _ => ks = List.range L.length) (fun pre _ => ∃ k, k ≤ L.length ∧ pre = List.range k) L.length W0) := hid (by
    rw [HLL.out]
    exact beside_seq (n - 1) (by omega) _ _ _ _ xs' ys' HX.out.1 HX.out.2 _ W0 e1 e2 (fun b hb => by have := hb.2; omega) (StM.start s1 (fun g hg => by have := o1 g hg; omega)) (StM.start s2 (fun g hg => by have := o2 g hg; omega)))
  have OKL : Hid (∀ x, MarkOk (atP L x).1) := hid (fun x => by rw [HLL.out]; exact (atP_ok xs' ys' s1.ok s2.ok x).1)
  have HLN : Hid (L.length ≤ 200000) := hid (by
    have h : ∀ f (xs ys : List (List Int)), (mergeN f xs ys).length ≤ f := fun f => by
      induction f with
      | zero => intro xs ys; exact Nat.le_refl 0
      | succ f ih => intro xs ys; unfold mergeN; split
                     · exact Nat.zero_le _
                     · rw [List.length_cons]; exact Nat.succ_le_succ (ih _ _)
    have := h (xs'.length + ys'.length) xs' ys'
    rw [show mergeN (xs'.length + ys'.length) xs' ys' = L from HLL.out.symm] at this
    have := HX.out
    omega)
  have c0' : Boxed W0 M 3 (.int .i64 m) := (k0.heap d0.out.lt (fun h => h)).trans d0.out
  have c1' : Boxed W0 (M + 1) 22 (.slice none 0 0) := (k0.heap d1.out.lt (fun h => h)).trans d1.out
  have c2' : Boxed W0 (M + 1 + 1) 39 (.slice none 0 0) := (k0.heap d2.out.lt (fun h => h)).trans d2.out
  have hB0 : Below w.heap.size w W0 := K7.out.below (Nat.le_refl _) (fun _ _ h => h)
  obtain ⟨q, hq⟩ : ∃ q : CollAt, q = ⟨M + 1, 22, 24, 16, M + 1 + 1, 39, 3, 1, Z⟩ := ⟨_, rfl⟩
  have HQ := hid hq
  have HB0 := hid hB0
  have HI0 := hid (CollI.start (q := q) (Bm := M) (f1M L) (f2M L) (by rw [hq]; exact c1') (by rw [hq]; exact c2') c0'.cell (by rw [hq]; exact Nat.le_of_eq hZ) hB0)
  clear hZ hB0 c0' c1' c2' k0 e1 e2 s1 s2 o1 o2 l1 hq
  refine wpIn_rangeW rfl h1 (gf := 73) (lb := #[.pointer (some ⟨B, 0, none⟩), .pointer (some ⟨B + 1, 0, none⟩)]) rfl trivial (enters_of Try.func73 (by kernel_rfl) rfl)
    SQ.out (fun h k => h.trans k) (fun W l o o' hl hW hc => ⟨by simp, fun b hb => World.putObj_heap_other (fun e' => by have := HL'.out; have := hb.2; omega)⟩)
    (fun xs => static_ownW _) (fun xs => static_ownW _) (Below.refl _ _) (fun x => rfl)
    (CollI q (f1M L) (f2M L) w M m) (CollX q (f1M L) (f2M L) w m) (collI_own _ _ _ _ _ _ HB0.out.size) (fun c => collX_own _ _ _ _ _ c HB0.out.size) HI0.out
    (fun x a' W => AxB q L (fun N => { tmps := #[.slice pa xs.length da, .slice pb ys.length db, .int .i64 m, undef, undef, .pointer (some ⟨M, 0, none⟩), .slice none 0 0, .slice none 0 0, .pointer (some ⟨M + 1, 0, none⟩), .pointer (some ⟨M + 1 + 1, 0, none⟩), .pointer (some ⟨N, 0, none⟩), .int .i64 (atP L x).2, .slice pa xs.length da, .slice pb ys.length db, .func (.func 73) #[] #[.pointer (some ⟨B, 0, none⟩), .pointer (some ⟨B + 1, 0, none⟩)], markV (atP L x).1, .int .i64 (atP L x).2, undef, undef, undef, undef, undef, undef, undef, undef, undef, undef, undef, undef, undef, undef], defers := [] }) x a' W)
    (fun x a' => axB_own q L _ x a') ?assign ?body ?done ?stop
  case assign =>
    intro l pre x W K hI hK
    have HI := hid hI
    obtain ⟨⟨⟨v1, v2, b1, b2, o1, o2, hs⟩, hm, hlen, hbase⟩, hB⟩ := hI
    have HBX := hid b1
    have HZ := hid hbase
    have HO1 : Hid (∀ g, v1.ownBlock = some g → g < W.heap.size) := hid (fun g hg => by obtain ⟨-, o, ho, -⟩ := row_cells o1 hg; exact (Array.getElem?_eq_some_iff.1 ho).1)
    have HBZ : Hid (Z ≤ W.heap.size) := hid (by rw [HQ.out] at hbase; exact hbase)
    have HK := hid hK
    obtain ⟨W5, s1, s2, s3⟩ := mk_fresh W (OKL.out x)
    have ST : Hid ((Instr.storeAt 24 (.pointer (some ⟨W.heap.size, 0, none⟩)) (markV (atP L x).1)).run Try.prog (W.alloc (.cells #[.int .u8 0, .int .u8 0, .int .u8 0, .int .u8 0, .int .u8 0, .int .u8 0, .int .u8 0, .int .u8 0, .int .u8 0, .int .u8 0, .int .u8 0, .int .u8 0, .int .u8 0, .int .u8 0, .int .u8 0, .int .u8 0] 24)) = .ok () W5) := hid s1
    have BM5 := hid s2
    have K5 := hid s3
    clear b1 b2 o1 o2 hs hm hlen hbase hB hK s1 s2 s3
    gi_wp2_with (first
      | (refine wpListIn_storeL rfl 24 (.tmp 10) (.tmp 15) rfl (p := ⟨W.heap.size, 0, none⟩) (by rfl) (v := markV (atP L x).1) (by rfl) ST.out ?_)
      | (refine wpIn_store_at 24 (.tmp 10) (.tmp 15) rfl (p := ⟨W.heap.size, 0, none⟩) (by rfl) (v := markV (atP L x).1) (by rfl) ST.out ?_))
    refine HK.out _ _ ⟨K5.out.size, fun i o _ hi _ => (K5.out.heap (Array.getElem?_eq_some_iff.1 hi).1 (fun h => h)).trans hi⟩ (KpB.nb (fun b hb => by have := HBZ.out; have := hb.2; omega) K5.out) (HI.out.keptB K5.out) ?_
    exact ⟨W.heap.size, v1, HZ.out, rfl, BM5.out, (K5.out.heap HBX.out.lt (fun h => h)).trans HBX.out, fun e => absurd (HO1.out _ e) (Nat.lt_irrefl _)⟩
  case body =>
    rintro l pre x a' W hI ⟨N, u, hN, rfl, hNB, hNU, hne⟩ hlt
    have HI := hid hI
    obtain ⟨⟨⟨v1, v2, b1, b2, o1, o2, hs⟩, hm, hlen, hbase⟩, hB⟩ := hI
    obtain ⟨p1, q1, rfl⟩ := own_shape o1
    have hu : u = .slice p1 pre.length q1 := by
      have e := (show W.heap[q.B1]? = _ from hNU).symm.trans (show W.heap[q.B1]? = _ from b1)
      injection e with e; injection e with e; simpa using e
    subst hu
    have hq := HQ.out
    have c1 : W.cell? ⟨M + 1, 0, none⟩ = some (.slice p1 pre.length q1) := by rw [hq] at b1; exact b1.cell
    have HC := hid b1
    have HC2 := hid b2
    have HO1 := hid o1
    have HO2 := hid o2
    have HS := hid hs
    have HL := hid hlen
    have HBS := hid hbase
    have HBW := hid hB
    have HNB := hid hNB
    have HNE := hid hne
    have HLT := hid hlt
    clear hq b1 b2 o1 o2 hs hlen hbase hB hNB hNU hne hN hlt
    by_cases hge : m ≤ (pre.length : Int)
    · gi_wp2
      exact ⟨KeepsFrom.refl _ _, KpB.refl _ _, ⟨rfl, pre, _, rfl, ⟨_, v2, HC.out, HC2.out, HO1.out, HO2.out, HS.out⟩, by have := HL.out; omega⟩, HBW.out⟩
    · gi_wp2
      have hmx : Try.prog.follows .mixedOrders = true := by kernel_rfl
      have b1 := HC.out
      have b2 := HC2.out
      have o1 := HO1.out
      have o2 := HO2.out
      have hbs := HBS.out
      have hne := HNE.out
      have hq := HQ.out
      have hL := HL.out
      have hLT := HLT.out
      have hLN := HLN.out
      rw [hq] at b1 b2 o1 o2 hbs
      dsimp only at hbs
      refine collM_region (q := ⟨M + 1, 22, 24, 16, M + 1 + 1, 39, 3, 1, Z⟩) (L := L) (pre := pre) (x := x) (y2 := .int .i64 (atP L x).2) (xa := .pointer (some ⟨N, 0, none⟩)) (x1v := markV (atP L x).1) (N := 31) (tb1 := 8) (tx1 := 10) (tb2 := 9) (tx2 := 11) (d := 21) (src := fun w' => Blk w' N 24 (markL (atP L x).1)) hmx (by kernel_rfl) rfl b1 b2 o1 o2 HS.out
        (mkB_ok (Tf := 24) (fun w u h => fm_load w _ u h) (fun w => make_mark1 _ (OKL.out x).len w) (fun w g n c u h hf => fm_store w _ g n c u h hf) Try.underlying22 fm_info rfl (by omega) (by unfold maxLen; omega) (by simp) (markL_one' _) (by rw [markL_length, (OKL.out x).len]) (by simp) rfl ⟨rfl, rfl, rfl⟩ rfl ⟨rfl, rfl, rfl⟩ (fun w' h => load_mark (OKL.out x) (range_of h)) rfl ⟨rfl, rfl, rfl⟩ rfl ⟨rfl, rfl, rfl⟩ rfl ⟨rfl, rfl, rfl⟩ (by kernel_rfl) (by kernel_rfl) (by kernel_rfl) (by kernel_rfl) (by decide) (by decide) (by decide) (by decide))
        (mk_ok (fun w u h => fi_load w _ u h) (fun w => fi_make w (atP L x).2) (fun w g n c u h hf => fi_store w _ g n c u h hf) Try.underlying39 fi_info rfl (by omega) (by unfold maxLen; omega) (by simp) (by simp [f2M, Value.oneCell']) rfl (by simp) rfl ⟨rfl, rfl, rfl⟩ rfl ⟨rfl, rfl, rfl⟩ rfl ⟨rfl, rfl, rfl⟩ rfl ⟨rfl, rfl, rfl⟩ rfl ⟨rfl, rfl, rfl⟩ (by kernel_rfl) (by kernel_rfl) (by kernel_rfl) (by kernel_rfl) (by decide) (by decide) (by decide) (by decide))
        (fun w' hm => (hm.same N HNB.out.lt ?ns).trans HNB.out) rfl rfl rfl rfl rfl (by decide) (by decide) (by simp) (by simp) (by simp) hbs ?_
      case ns =>
        rintro (e | e | e | e)
        · have h := (show W.heap[N]? = _ from HNB.out).symm.trans (show W.heap[N]? = _ from e ▸ b1)
          injection h with h; injection h with _ h; cases h
        · have h := (show W.heap[N]? = _ from HNB.out).symm.trans (show W.heap[N]? = _ from e ▸ b2)
          injection h with h; injection h with _ h; cases h
        · exact hne e
        · obtain ⟨cs', fr', h⟩ := row_tyB o2 e
          have h := (show W.heap[N]? = _ from HNB.out).symm.trans h
          injection h with h; injection h with _ h; cases h
      intro a' W' hc hmv
      have hHL := HL'.out
      have kb : KpB (fun b => M + 3 ≤ b ∧ b < Z) W W' := ⟨hmv.size, fun b hb => hmv.same b (by have := hb.2; omega) (by
        have h1 := hb.1
        have h2 := hb.2
        rintro (e | e | e | e)
        · dsimp only at e; omega
        · dsimp only at e; omega
        · have h3 : Z ≤ b := own_lt o1 e
          omega
        · have h3 : Z ≤ b := own_lt o2 e
          omega)⟩
      rw [← hq] at hc
      have hmv2 : Moves (CollS q) W W' := hmv.mono (fun b _ h => by rw [hq]; exact S0B.coll o1 o2 b h)
      exact ⟨hmv.keepsFrom _, kb, HI.out.next (by omega) hc hmv2 (by rw [hq]; dsimp only; omega) (by rw [hq]; dsimp only; omega) (by rw [hq]; dsimp only; have := HM.out; omega) (by rw [hq]; dsimp only; have := HM.out; omega) (by rw [hq]; dsimp only; have := HM.out; omega) (by rw [hq]; dsimp only; have := HM.out; omega)⟩
  case done =>
    rintro D ys W hD hS ⟨⟨⟨v1, v2, b1, b2, o1, o2, hs⟩, hm, hlen, hbase⟩, hB⟩ hK
    have HLE : Hid (ys = (List.range L.length).take m.toNat) := hid (by rw [← hS, List.take_of_length_le hlen])
    have hq := HQ.out
    have hHL := HL'.out
    rw [hq] at b1 b2 o1 o2
    obtain ⟨p1, q1, rfl⟩ := own_shape o1
    obtain ⟨p2, q2, rfl⟩ := own_shape o2
    have c1 := b1.cell
    have c2 := b2.cell
    have HO1 := hid (ownsRow_le (base' := M) o1 (by dsimp only; omega))
    have HO2 := hid (ownsRow_le (base' := M) o2 (by dsimp only; omega))
    have HBW := hid hB
    have HD := hid hD
    have HK := hid hK
    clear hq b1 b2 o1 o2 hs hB hD hK hlen hHL hS
    gi_wp2
    gi_region
    all_goals
      gi_wp2
      refine ⟨by simp, .inl ⟨_, _, rfl, run_takeDeferred HK.out, ?_⟩⟩
      refine ⟨.tuple #[.slice p1 ys.length q1, .slice p2 ys.length q2], by simp [results, Try.f25, go_sem], _, _, ys, rfl, HLE.out, ?_⟩
      exact ⟨ownsRow_putObj (W := W) HO1.out _ HK.out rfl, ownsRow_putObj (W := W) HO2.out _ HK.out rfl, by rw [← HM.out]; exact HBW.out.drew.trans (belowK_b (w := w) (Nat.le_refl _) W.drew D _ _ (by have := HL'.out; have := HD.out; have := HM.out; omega) HK.out rfl rfl)⟩
  case stop =>
    rintro D c pre W hD hS ⟨⟨rfl, ys, x, rfl, ⟨v1, v2, b1, b2, o1, o2, hs⟩, hlen⟩, hB⟩ hK
    have HLE : Hid (ys = (List.range L.length).take m.toNat) := hid (by
      obtain ⟨k, hk, e⟩ := hS
      have e1 : ys.length + 1 = k := by have := congrArg List.length e; simpa using this
      have e2 : ys = List.range ys.length := by
        have := congrArg (List.take ys.length) e
        rw [List.take_left, ← e1, List.take_range] at this
        rw [Nat.min_eq_left (by omega)] at this
        exact this
      rw [← hlen, ← take_pre _ _ (by omega)]
      exact e2)
    have hq := HQ.out
    have hHL := HL'.out
    rw [hq] at b1 b2 o1 o2
    obtain ⟨p1, q1, rfl⟩ := own_shape o1
    obtain ⟨p2, q2, rfl⟩ := own_shape o2
    have c1 := b1.cell
    have c2 := b2.cell
    have HO1 := hid (ownsRow_le (base' := M) o1 (by dsimp only; omega))
    have HO2 := hid (ownsRow_le (base' := M) o2 (by dsimp only; omega))
    have HBW := hid hB
    have HD := hid hD
    have HK := hid hK
    clear hq b1 b2 o1 o2 hs hB hD hK hlen hHL hS
    gi_wp2
    gi_region
    all_goals
      gi_wp2
      refine ⟨by simp, .inl ⟨_, _, rfl, run_takeDeferred HK.out, ?_⟩⟩
      refine ⟨.tuple #[.slice p1 ys.length q1, .slice p2 ys.length q2], by simp [results, Try.f25, go_sem], _, _, ys, rfl, HLE.out, ?_⟩
      exact ⟨ownsRow_putObj (W := W) HO1.out _ HK.out rfl, ownsRow_putObj (W := W) HO2.out _ HK.out rfl, by rw [← HM.out]; exact HBW.out.drew.trans (belowK_b (w := w) (Nat.le_refl _) W.drew D _ _ (by have := HL'.out; have := HD.out; have := HM.out; omega) HK.out rfl rfl)⟩
theorem lbeside_any (va vb : Value) (xs ys : List (List Int)) (m : Int) (w : World) (ha : MkSl w va xs) (hb : MkSl w vb ys) (hx : xs.length ≤ 100000) (hy : ys.length ≤ 100000) (L : List (List Int × Int)) (hL : L = mergeM (okAB (rightB xs && rightB ys) xs) (okAB (rightB xs && rightB ys) ys)) :
    Calls Try.prog 25 #[va, vb, .int .i64 m] w fun e w' => ∃ v1 v2 ks, e = .returned (.tuple #[v1, v2]) ∧ ks = (List.range L.length).take m.toNat ∧
      w'.ownsRow w.heap.size 24 16 v1 ks.length (ks.flatMap (f1M L)) ∧ w'.ownsRow w.heap.size 3 1 v2 ks.length (ks.flatMap (f2M L)) ∧ Below w.heap.size w w' :=
  callsIn_wide.1 (lbeside_in 3 (Nat.le_refl _) va vb xs ys m w ha hb hx hy L hL)

end Go.Proofs.Ytijlmfmpfjjlpaa
