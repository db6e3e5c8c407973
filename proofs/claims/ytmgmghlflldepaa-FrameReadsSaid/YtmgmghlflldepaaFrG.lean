/-
  Layer 19: the first frames of bytes (the statements' own `all`). Conditions: bytes; at most a million of them.
-/
import Derived.Test.YtmgmghlflldepaaFrF
namespace Go.Proofs.Ytmgmghlflldepaa
open Go.RowKit Go.Shelf
attribute [local go_sem] Oper.semAt_some

abbrev f1F (x : FrE3) : List Value := [.int .i64 (x.1 : Int)]
abbrev f2F (x : FrE3) : List Value := frL x.2.1 (svF x.2.2)
theorem fi_load (w : World) (B : Nat) (u : Value) (h : w.cell? ⟨B, 0, none⟩ = some u) : (Instr.loadAt 40 (.pointer (some ⟨B, 0, none⟩))).run Try.prog w = .ok u w := by go_simp
theorem fi_make (w : World) (x : Int) : (Instr.buildSlice 40 1 #[(0, .int .i64 x)]).run Try.prog w = .ok (.slice (some ⟨w.heap.size, 0, none⟩) 1 1) (w.alloc (.cells #[.int .i64 x] 3 (0, 0))) := by go_simp
theorem fi_store (w : World) (B g n cap : Nat) (u : Value) (h : w.cell? ⟨B, 0, none⟩ = some u) (hf : w.frozen? ⟨B, 0, none⟩ = false) : (Instr.storeAt 40 (.pointer (some ⟨B, 0, none⟩)) (.slice (some ⟨g, 0, none⟩) n cap)).run Try.prog w = .ok () (w.setCell ⟨B, 0, none⟩ (.slice (some ⟨g, 0, none⟩) n cap)) := by go_simp
theorem fi_info : (Try.prog.info? 3).map (fun i => (i.zero, i.size, i.bytes)) = some (some (.int .i64 0), 1, 8) := by kernel_rfl
theorem ff_load (w : World) (B : Nat) (u : Value) (h : w.cell? ⟨B, 0, none⟩ = some u) : (Instr.loadAt 41 (.pointer (some ⟨B, 0, none⟩))).run Try.prog w = .ok u w := by go_simp
theorem ff_make (w : World) (k : Int) (y : Option Addr) (n d : Nat) : (Instr.buildSlice 41 1 #[(0, frV k (.slice y n d))]).run Try.prog w = .ok (.slice (some ⟨w.heap.size, 0, none⟩) 1 1) (w.alloc (.cells #[.int .i64 k, .slice y n d] 24 (0, 0))) := by kernel_rfl
theorem ff_store (w : World) (B g n cap : Nat) (u : Value) (h : w.cell? ⟨B, 0, none⟩ = some u) (hf : w.frozen? ⟨B, 0, none⟩ = false) : (Instr.storeAt 41 (.pointer (some ⟨B, 0, none⟩)) (.slice (some ⟨g, 0, none⟩) n cap)).run Try.prog w = .ok () (w.setCell ⟨B, 0, none⟩ (.slice (some ⟨g, 0, none⟩) n cap)) := by go_simp
theorem ff_info : (Try.prog.info? 24).map (fun i => (i.zero, i.size, i.bytes)) = some (some (frV 0 (.slice none 0 0)), 2, 32) := by kernel_rfl
theorem ff_notnil (w : World) (f : Nat) (c : Array Value) : (binOp BinOp.eql 66 (.func (.func f) #[] c) .nilFunc).run Try.prog w = .ok (.bool false) w := by kernel_rfl
theorem fr_load {w : World} {B T : Nat} {k : Int} {v : Value} (h : Blk w B T (frL k v)) : (Instr.loadAt 24 (.pointer (some ⟨B, 0, none⟩))).run Try.prog w = .ok (frV k v) w := by
  obtain ⟨d, h1, h2⟩ := fr_under
  exact row_load h1 h2 (fr_infoL k v) h 0 (fun j _ => by rw [Nat.zero_add])

/-- One of the two, whose element is loaded from its own block. -/
def mkChL (B T e size base k : Nat) (v xa x : Value) (xs cells : List Value) (tb tx d i it : Nat) (src : World → Prop) : Ch :=
  { T, B, e, size, base, k, v, x, xs, cells, tb, tx, dl := d, dm := d + 1, ds := d + 2, dp := d + 3, il := i, im := i + 1, ib := i + 2, ip := i + 3, it, xa, src }

theorem mkL_ok {P : Program} {ops : Array Oper} {N : Nat} {B T e size base k : Nat} {v x : Value} {xs cells : List Value} {tb tx d i it Tf Nf : Nat} {src : World → Prop}
    (load : ∀ (w : World) (u : Value), w.cell? ⟨B, 0, none⟩ = some u → (Instr.loadAt T (.pointer (some ⟨B, 0, none⟩))).run P w = .ok u w)
    (make : ∀ w : World, (Instr.buildSlice T 1 #[(0, x)]).run P w = .ok (.slice (some ⟨w.heap.size, 0, none⟩) 1 1) (w.alloc (.cells cells.toArray e (0, 0))))
    (store : ∀ (w : World) (g n cap : Nat) (u : Value), w.cell? ⟨B, 0, none⟩ = some u → w.frozen? ⟨B, 0, none⟩ = false → (Instr.storeAt T (.pointer (some ⟨B, 0, none⟩)) (.slice (some ⟨g, 0, none⟩) n cap)).run P w = .ok () (w.setCell ⟨B, 0, none⟩ (.slice (some ⟨g, 0, none⟩) n cap)))
    (slice : P.underlying T = some (.slice e)) {z : Value} {bytes : Nat} (info : (P.info? e).map (fun i => (i.zero, i.size, i.bytes)) = some (some z, size, bytes)) (hz : z.cells.size = size) (hreach : (k + 1) * bytes ≤ 140737488355328) (hmost : k + 1 ≤ maxLen)
    (hsize : 0 < size) (one : ∀ u ∈ cells, u.oneCell' = true) (len : cells.length = size) (te : T ≠ e)
    {ol om ob op ot : Oper} (hl : ops[i]? = some ol) (hl2 : ol.op = .load T (.tmp tb) ∧ ol.dst = some d ∧ ol.guard = none) (hm : ops[i + 1]? = some om) (hm2 : om.op = .load Tf (.tmp tx) ∧ om.dst = some (d + 1) ∧ om.guard = none)
    (hsrc : ∀ w, src w → (Instr.loadAt Tf (.pointer (some ⟨Nf, 0, none⟩))).run P w = .ok x w)
    (hb : ops[i + 2]? = some ob) (hb2 : ob.op = .buildSlice T 1 #[(0, .tmp (d + 1))] ∧ ob.dst = some (d + 2) ∧ ob.guard = none)
    (hp : ops[i + 3]? = some op) (hp2 : op.op = .call { callee := .builtin .append, args := #[.tmp d, .tmp (d + 2)], argTypes := #[T, T] } ∧ op.dst = some (d + 3) ∧ op.guard = none)
    (ht : ops[it]? = some ot) (ht2 : ot.op = .store T (.tmp tb) (.tmp (d + 3)) ∧ ot.dst = none ∧ ot.guard = none)
    (w1 : waitsB ops (i + 2) (i + 1) = true) (w2 : waitsB ops (i + 3) i = true) (w3 : waitsB ops (i + 3) (i + 2) = true) (w4 : waitsB ops it (i + 3) = true)
    (hd : d + 3 < N) (htb : tb < d) (htx : tx < d) (hit : i + 3 < it) : (mkChL B T e size base k v (.pointer (some ⟨Nf, 0, none⟩)) x xs cells tb tx d i it src).Ok P ops N := by
  refine { load := load, make := make, store := store, slice := slice, info := ?_, size := hsize, one := one, len := len, most := hmost, te := te, ol := ⟨ol, hl, hl2⟩, om := ⟨om, hm, (fun d h => by rw [hm2.1] at h; cases h), (fun _ _ => by simp [Oper.about, hm2.1]), (fun w a hs h => by simp only [mkChL] at h hs; simp [execOp, hm2.1, h, mkChL, hsrc w hs]), hm2.2⟩, ob := ⟨ob, hb, hb2.1, hb2.2.1, hb2.2.2, waits_of w1 hb⟩, op := ⟨op, hp, hp2.1, hp2.2.1, hp2.2.2, waits_of w2 hp, waits_of w3 hp⟩, ot := ⟨ot, ht, ht2.1, ht2.2.1, ht2.2.2, waits_of w4 ht⟩, ds := ?_, ne := ?_, ni := ?_ }
  · obtain ⟨i0, hi, h1, h2, h3⟩ := info_parts info
    exact ⟨i0, z, bytes, hi, h1, h2, h3, hz, hreach⟩
  · simp only [mkChL]; omega
  · simp only [mkChL]; omega
  · simp only [mkChL]; omega

theorem row_ty {W : World} {base e size k : Nat} {v : Value} {xs : List Value} (h : W.ownsRow base e size v k xs) {g : Nat} (hg : v.ownBlock = some g) : ∃ cs fr, W.heap[g]? = some (Obj.cells cs e fr) := by
  rcases h.2 with ⟨rfl, _⟩ | ⟨g', cap, cur, rfl, hb, hgg, _⟩
  · simp [Value.ownBlock] at hg
  · have : g' = g := by simpa [Value.ownBlock] using hg
    subst this
    exact ⟨_, _, hgg⟩

/-- The blocks that a round turns. -/
def S0F (q : CollAt) (v1 v2 : Value) : Nat → Prop := fun b => b = q.B1 ∨ b = q.B2 ∨ v1.ownBlock = some b ∨ v2.ownBlock = some b
theorem S0F.coll {q : CollAt} {v1 v2 : Value} {W : World} {k1 k2 : Nat} {xs ys : List Value} (o1 : W.ownsRow q.base q.e1 q.s1 v1 k1 xs) (o2 : W.ownsRow q.base q.e2 q.s2 v2 k2 ys) (b : Nat) (h : S0F q v1 v2 b) : CollS q b := by
  rcases h with h | h | h | h
  · exact .inl h
  · exact .inr (.inl h)
  · exact .inr (.inr (row_cells o1 h).1)
  · exact .inr (.inr (row_cells o2 h).1)
/-- What has another type than the boxes and the rows isn't turned. -/
theorem S0F.ty {q : CollAt} {v1 v2 : Value} {W : World} {k1 k2 : Nat} {xs ys : List Value} (b1 : Boxed W q.B1 q.T1 v1) (b2 : Boxed W q.B2 q.T2 v2) (o1 : W.ownsRow q.base q.e1 q.s1 v1 k1 xs) (o2 : W.ownsRow q.base q.e2 q.s2 v2 k2 ys)
    {b t : Nat} {cs : Array Value} {fr : Nat × Nat} (hb : W.heap[b]? = some (Obj.cells cs t fr)) (h1 : t ≠ q.T1) (h2 : t ≠ q.T2) (h3 : t ≠ q.e1) (h4 : t ≠ q.e2) : ¬ S0F q v1 v2 b := by
  rintro (rfl | rfl | h | h)
  · have := hb.symm.trans (show W.heap[q.B1]? = some _ from b1)
    injection this with h; injection h with _ h; exact h1 h
  · have := hb.symm.trans (show W.heap[q.B2]? = some _ from b2)
    injection this with h; injection h with _ h; exact h2 h
  · obtain ⟨cs', fr', e⟩ := row_ty o1 h
    have := hb.symm.trans e
    injection this with h; injection h with _ h; exact h3 h
  · obtain ⟨cs', fr', e⟩ := row_ty o2 h
    have := hb.symm.trans e
    injection this with h; injection h with _ h; exact h4 h
theorem Moves.k8 {q : CollAt} {v1 v2 : Value} {W W' : World} {k1 k2 : Nat} {xs ys : List Value} (m : Moves (S0F q v1 v2) W W') (b1 : Boxed W q.B1 q.T1 v1) (b2 : Boxed W q.B2 q.T2 v2) (o1 : W.ownsRow q.base q.e1 q.s1 v1 k1 xs) (o2 : W.ownsRow q.base q.e2 q.s2 v2 k2 ys)
    (h1 : q.T1 ≠ 5 ∧ q.T1 ≠ 22) (h2 : q.T2 ≠ 5 ∧ q.T2 ≠ 22) (h3 : q.e1 ≠ 5 ∧ q.e1 ≠ 22) (h4 : q.e2 ≠ 5 ∧ q.e2 ≠ 22) : K8 W W' :=
  ⟨m.size, fun b cs t fr e ht => (m.same b (Array.getElem?_eq_some_iff.1 e).1 (S0F.ty b1 b2 o1 o2 e (by rcases ht with rfl | rfl; exact h1.1.symm; exact h1.2.symm) (by rcases ht with rfl | rfl; exact h2.1.symm; exact h2.2.symm) (by rcases ht with rfl | rfl; exact h3.1.symm; exact h3.2.symm) (by rcases ht with rfl | rfl; exact h4.1.symm; exact h4.2.symm))).trans e⟩
theorem CollI.kept {α : Type} {q : CollAt} {f1 f2 : α → List Value} {w W W' : World} {Bm : Nat} {m : Int} {pre : List α} (h : CollI q f1 f2 w Bm m pre W) (k : Kp Nb W W') : CollI q f1 f2 w Bm m pre W' := by
  obtain ⟨⟨⟨v1, v2, b1, b2, o1, o2, hs⟩, hm, hl, hb⟩, hB⟩ := h
  exact ⟨⟨⟨v1, v2, (k.heap b1.lt (fun h => h)).trans b1, (k.heap b2.lt (fun h => h)).trans b2, ownsRow_kpn o1 k, ownsRow_kpn o2 k, hs⟩, by
    have hlt : Bm < W.heap.size := by
      unfold World.cell? at hm
      cases hx : W.heap[Bm]? with
      | none => rw [hx] at hm; cases hm
      | some o => exact (Array.getElem?_eq_some_iff.1 hx).1
    exact (World.cell?_of_block (k.heap hlt (fun h => h))).trans hm, hl, Nat.le_trans hb k.size⟩, hB.trans (k.below hB.size (fun _ _ h => h))⟩

/-- The frame's own block, apart from the row. -/
def AxF (q : CollAt) (fr : Nat → Act) (x : FrE3) (a' : Act) (W : World) : Prop :=
  ∃ N u, q.base ≤ N ∧ a' = fr N ∧ Blk W N 24 (frL x.2.1 (svF x.2.2)) ∧ Boxed W q.B2 q.T2 u ∧ u.ownBlock ≠ some N
theorem axF_own (q : CollAt) (fr : Nat → Act) (x : FrE3) (a' : Act) {B : Nat} : OwnFrom B (fun (_ : Unit) W => AxF q fr x a' W) :=
  Own.from (fun _ A W row hs hg hr => by
    obtain ⟨N, u, h1, h2, h3, h4, h5⟩ := hs
    exact ⟨N, u, h1, h2, (hg.block N h3.lt (fun e => by obtain ⟨o, ho, hc⟩ := hr _ e.symm; rw [show A.heap[N]? = _ from h3] at ho; cases ho; cases hc)).trans h3, h4.kept hg (fun e => by
      obtain ⟨o, ho, hc⟩ := hr _ e.symm
      have := (show A.heap[_]? = _ from h4).symm.trans ho
      cases this
      cases hc), h5⟩) _
theorem grown_bl {S : Nat → Prop} {A W : World} {row : Option Nat} {v : Value} {zs : List Int} (h : BySl S A v zs) (ht : T8 A v) (hg : A.grownBy W row) (hr : ∀ r, row = some r → ∃ o, A.heap[r]? = some o ∧ o.isCells = false) : BySl S W v zs ∧ T8 W v := by
  have key : ∀ g, v.ownBlock = some g → W.heap[g]? = A.heap[g]? := fun g hgv => by
    obtain ⟨cs, fr, e⟩ := ht g hgv
    exact hg.block g (Array.getElem?_eq_some_iff.1 e).1 (fun e' => by obtain ⟨o, ho, hc⟩ := hr _ e'.symm; rw [e] at ho; cases ho; cases hc)
  refine ⟨⟨h.1, ?_⟩, fun g hgv => by rw [key g hgv]; exact ht g hgv⟩
  rcases h.2 with h2 | ⟨blk, off, cap, rfl, hc, hm, hb, hn⟩
  · exact .inl h2
  · exact .inr ⟨blk, off, cap, rfl, hc, hm, fun i hi => (World.cell?_of_block (key blk rfl)).trans (hb i hi), hn⟩
theorem spF_own (zs : List Int) (xs : List FrE3) {B : Nat} : OwnFrom B (fun (_ : Unit) W => SpF zs xs W) :=
  Own.from (fun _ A W row hs hg hr => ⟨hs.1, fun j x e => by
    obtain ⟨h1, h2, h3, h4⟩ := hs.2 j x e
    obtain ⟨g1, g2⟩ := grown_bl h3 h4 hg hr
    exact ⟨h1, h2, g1, g2⟩⟩) _
theorem sF_own (zs : List Int) (xs : List FrE3) {B : Nat} : OwnFrom B (fun (_ : Unit) W => SF zs xs W) :=
  fun s A W row hs hg hr => ⟨spF_own zs xs s A W row hs.1 hg hr, hs.2⟩
theorem SpF.prefix {zs : List Int} {pre : List FrE3} {x : FrE3} {W : World} (h : SpF zs (pre ++ [x]) W) : SpF zs pre W :=
  ⟨fun j hj => h.1 j (by rw [List.length_append]; omega), fun j y e => h.2 j y (by rw [List.getElem?_append_left (Array.getElem?_eq_some_iff.1 (by simpa using e)).1]; exact e)⟩

end Go.Proofs.Ytmgmghlflldepaa
