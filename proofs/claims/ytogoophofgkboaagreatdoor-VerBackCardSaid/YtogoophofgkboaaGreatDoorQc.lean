/-
  Of the texts Flat, RegInv, Two, Coll, RowApp, Vals, Ghost, Vars, GhostL what is used. No condition but what each says.
-/
import Derived.Test.YtogoophofgkboaaGreatDoorQa
import Derived.WalkKit
import Derived.OwnWalkIn
import Derived.OrdersIn
import Derived.RangeFuncBox
import Derived.RangeFuncCalls
import Derived.Deep.AppendLies
import Derived.RangeFuncWrites
import Derived.RangeFuncLeaves
import Derived.Laws.AppendOwnNone
namespace Go.Proofs.YtogoophofgkboaaGreatDoor
section
open Go.RowKit
section
variable {α : Type} {f : α → List Value} {z : α} {c : Nat} {qs : List α}
def flatR (f : α → List Value) (qs : List α) : List Value := qs.flatMap f
theorem flatR_cons (q : α) (qs : List α) : flatR f (q :: qs) = f q ++ flatR f qs := rfl
theorem flatR_append (qs rs : List α) : flatR f (qs ++ rs) = flatR f qs ++ flatR f rs := by unfold flatR; rw [List.flatMap_append]
theorem flatR_length : ∀ (qs : List α), (∀ q ∈ qs, (f q).length = c) → (flatR f qs).length = qs.length * c
  | [], _ => by simp [flatR]
  | q :: r, h => by
    rw [flatR_cons, List.length_append, h q (by simp), flatR_length r (fun x hx => h x (by simp [hx])), List.length_cons, Nat.succ_mul]
    omega
theorem flatR_get : ∀ (qs : List α) (i j : Nat), (∀ q ∈ qs, (f q).length = c) → i < qs.length → j < c → (flatR f qs)[i * c + j]? = (f (qs[i]?.getD z))[j]?
  | [], i, _, _, hi, _ => by simp at hi
  | q :: r, 0, j, h, _, hj => by
    rw [flatR_cons, Nat.zero_mul, Nat.zero_add, List.getElem?_append_left (by rw [h q (by simp)]; exact hj)]
    rfl
  | q :: r, i + 1, j, h, hi, hj => by
    rw [flatR_cons, List.getElem?_append_right (by rw [h q (by simp), Nat.succ_mul]; omega), h q (by simp), show (i + 1) * c + j - c = i * c + j from by rw [Nat.succ_mul]; omega]
    rw [flatR_get r i j (fun x hx => h x (by simp [hx])) (by simpa using hi) hj]
    rfl
/-- A row of parts in a block, and what lies behind it. -/
theorem flat_range {w : World} {B T : Nat} {rest : List Value} (h : Blk w B T (flatR f qs ++ rest)) (hl : ∀ q ∈ qs, (f q).length = c) (i : Nat) (hi : i < qs.length) (hf : (f (qs[i]?.getD z)).length = c) : w.rangeAt B (i * c) (f (qs[i]?.getD z)) :=
  h.range (i * c) _ (fun j hj => by
    have hj' : j < c := by rw [← hf]; exact hj
    have hlt : i * c + j < (flatR f qs).length := by
      rw [flatR_length qs hl]
      have h1 : (i + 1) * c ≤ qs.length * c := Nat.mul_le_mul_right c hi
      rw [Nat.succ_mul] at h1
      omega
    rw [List.getElem?_append_left hlt]
    exact flatR_get qs i j hl hi hj')
/-- Its own row (World.ownsRow), as a block. -/
theorem own_blk {w : World} {base e n : Nat} {v : Value} {xs : List Value} (h : w.ownsRow base e c v n xs) (hn : 0 < n) : ∃ g cap rest, v = .slice (some ⟨g, 0, none⟩) n cap ∧ base ≤ g ∧ Blk w g e (xs ++ rest) ∧ n ≤ cap ∧ cap ≤ maxLen := by
  rcases h.2 with ⟨_, h0⟩ | ⟨g, cap, cur, rfl, hb, hg, hc, hm, hs, ht⟩
  · omega
  · refine ⟨g, cap, cur.toList.drop (n * c), rfl, hb, ?_, hc, hm⟩
    unfold Blk
    rw [hg, ← ht, List.take_append_drop]
end
end
section
open Go.RowKit
section
variable {F : Fence} {n : Nat} {P : Program} {ops : Array Oper} {Q : Exit → Act → World → Prop}
def bitsOf (listed : Array Bool) : Nat → Bool := fun i => listed.getD i false
def upd (L : Nat → Bool) (i : Nat) : Nat → Bool := fun j => L j || j == i
theorem bitsOf_set (listed : Array Bool) (i : Nat) (h : i < listed.size) : bitsOf (listed.setIfInBounds i true) = upd (bitsOf listed) i := by
  funext j
  unfold bitsOf upd
  by_cases hij : i = j
  · subst hij
    simp [h]
  · rw [getD_set_ne false hij]
    have : (j == i) = false := by rw [beq_eq_false_iff_ne]; exact fun e => hij e.symm
    rw [this, Bool.or_false]
theorem bits_done (listed : Array Bool) (hs : listed.size = ops.size) (hup : ∀ (i : Nat) (o : Oper), ops[i]? = some o → ∀ e ∈ o.after, Region.binds .any e = true → e.on < i) (hr : Region.ready .any ops listed = []) :
    ∀ i, i < ops.size → bitsOf listed i = true := by
  intro i
  induction i using Nat.strongRecOn with
  | ind i ih =>
    intro hi
    cases hb : bitsOf listed i with
    | true => rfl
    | false =>
      exfalso
      have ho : ops[i]? = some ops[i] := Array.getElem?_eq_getElem hi
      have hm : i ∈ Region.ready .any ops listed := by
        rw [mem_ready]
        refine ⟨?_, ops[i], ho, fun e he hb' => ?_⟩
        · unfold bitsOf at hb
          rw [Array.getD_eq_getD_getElem?, Array.getElem?_eq_getElem (by omega)] at hb ⊢
          exact hb
        · have hlt := hup i _ ho e he hb'
          exact ih e.on hlt (by omega)
      rw [hr] at hm
      cases hm
theorem countP_snoc (listed : Array Bool) (i : Nat) (h : i < listed.size) (hf : listed.getD i true = false) :
    (listed.setIfInBounds i true).toList.countP id = listed.toList.countP id + 1 := by
  rw [Array.toList_setIfInBounds, List.countP_set (by simpa using h)]
  have : listed.toList[i]'(by simpa using h) = false := by
    rw [Array.getD_eq_getD_getElem?, Array.getElem?_eq_getElem h] at hf
    simpa using hf
  rw [this]
  simp
theorem eval_put_same (a : Act) (d : Tmp) (v : Value) (h : d < a.tmps.size) : (a.put (some d) v).eval (.tmp d) = v := by
  simp [Act.put, Act.eval, h]
theorem eval_put_ne (a : Act) (d e : Tmp) (v : Value) (h : d ≠ e) : (a.put (some d) v).eval (.tmp e) = a.eval (.tmp e) := by
  simp [Act.put, Act.eval, Array.getElem?_setIfInBounds_ne h]
theorem size_put (a : Act) (d : Option Tmp) (v : Value) : (a.put d v).tmps.size = a.tmps.size := by
  cases d <;> simp [Act.put]
end
end
section
open Go.RowKit
/-- One of the two: its box, its row, what is put behind, its slots and its operations. -/
structure Ch where
  T : Nat
  B : Nat
  e : Nat
  size : Nat
  base : Nat
  k : Nat
  v : Value
  x : Value
  xs : List Value
  cells : List Value
  tb : Nat
  tx : Nat
  dl : Nat
  dm : Nat
  ds : Nat
  dp : Nat
  il : Nat
  im : Nat
  ib : Nat
  ip : Nat
  it : Nat
  xa : Value
  src : World → Prop
theorem ownsRow_same {w w' : World} {base n size : Nat} {t : TypeId} {v : Value} {xs : List Value} (h : w.ownsRow base t size v n xs) (hb : ∀ g, v.ownBlock = some g → w'.heap[g]? = w.heap[g]?) : w'.ownsRow base t size v n xs := by
  refine ⟨h.1, ?_⟩
  rcases h.2 with hn | ⟨g, cap, cur, rfl, hbg, hgg, rest⟩
  · exact .inl hn
  · exact .inr ⟨g, cap, cur, rfl, hbg, by rw [hb g rfl]; exact hgg, rest⟩
/-- What the program must give of one of the two. -/
structure Ch.Ok (c : Ch) (P : Program) (ops : Array Oper) (N : Nat) : Prop where
  load : ∀ (w : World) (u : Value), w.cell? ⟨c.B, 0, none⟩ = some u → (Instr.loadAt c.T (.pointer (some ⟨c.B, 0, none⟩))).run P w = .ok u w
  make : ∀ w : World, (Instr.buildSlice c.T 1 #[(0, c.x)]).run P w = .ok (.slice (some ⟨w.heap.size, 0, none⟩) 1 1) (w.alloc (.cells c.cells.toArray c.e (0, 0)))
  store : ∀ (w : World) (g n cap : Nat) (u : Value), w.cell? ⟨c.B, 0, none⟩ = some u → w.frozen? ⟨c.B, 0, none⟩ = false → (Instr.storeAt c.T (.pointer (some ⟨c.B, 0, none⟩)) (.slice (some ⟨g, 0, none⟩) n cap)).run P w = .ok () (w.setCell ⟨c.B, 0, none⟩ (.slice (some ⟨g, 0, none⟩) n cap))
  slice : P.underlying c.T = some (.slice c.e)
  info : ∃ i z bytes, P.info? c.e = some i ∧ i.zero = some z ∧ i.size = c.size ∧ i.bytes = bytes ∧ z.cells.size = c.size ∧ (c.k + 1) * bytes ≤ 140737488355328
  size : 0 < c.size
  one : ∀ u ∈ c.cells, u.oneCell' = true
  len : c.cells.length = c.size
  most : c.k + 1 ≤ maxLen
  te : c.T ≠ c.e
  ol : ∃ o, ops[c.il]? = some o ∧ o.op = .load c.T (.tmp c.tb) ∧ o.dst = some c.dl ∧ o.guard = none
  om : ∃ o, ops[c.im]? = some o ∧ (∀ d, o.op ≠ .defer d) ∧ (∀ (w : World) (ev : Operand → Value), o.about P w ev = none) ∧ (∀ (w : World) (a : Act), c.src w → a.eval (.tmp c.tx) = c.xa → (execOp a.eval o).run P w = .ok (.value c.x) w) ∧ o.dst = some c.dm ∧ o.guard = none
  ob : ∃ o, ops[c.ib]? = some o ∧ o.op = .buildSlice c.T 1 #[(0, .tmp c.dm)] ∧ o.dst = some c.ds ∧ o.guard = none ∧ ∃ e ∈ o.after, Region.binds .any e = true ∧ e.on = c.im
  op : ∃ o, ops[c.ip]? = some o ∧ o.op = .call { callee := .builtin .append, args := #[.tmp c.dl, .tmp c.ds], argTypes := #[c.T, c.T] } ∧ o.dst = some c.dp ∧ o.guard = none ∧ (∃ e ∈ o.after, Region.binds .any e = true ∧ e.on = c.il) ∧ (∃ e ∈ o.after, Region.binds .any e = true ∧ e.on = c.ib)
  ot : ∃ o, ops[c.it]? = some o ∧ o.op = .store c.T (.tmp c.tb) (.tmp c.dp) ∧ o.dst = none ∧ o.guard = none ∧ ∃ e ∈ o.after, Region.binds .any e = true ∧ e.on = c.ip
  ds : c.dl < N ∧ c.dm < N ∧ c.ds < N ∧ c.dp < N
  ne : c.tb ≠ c.dl ∧ c.tb ≠ c.dm ∧ c.tb ≠ c.ds ∧ c.tb ≠ c.dp ∧ c.tx ≠ c.dl ∧ c.tx ≠ c.dm ∧ c.tx ≠ c.ds ∧ c.tx ≠ c.dp ∧ c.dl ≠ c.dm ∧ c.dl ≠ c.ds ∧ c.dl ≠ c.dp ∧ c.dm ≠ c.ds ∧ c.dm ≠ c.dp ∧ c.ds ≠ c.dp
  ni : c.il ≠ c.im ∧ c.il ≠ c.ib ∧ c.il ≠ c.ip ∧ c.il ≠ c.it ∧ c.im ≠ c.ib ∧ c.im ≠ c.ip ∧ c.im ≠ c.it ∧ c.ib ≠ c.ip ∧ c.ib ≠ c.it ∧ c.ip ≠ c.it
section
variable {P : Program} {ops : Array Oper} {N : Nat} {c : Ch} {S : Nat → Prop} {L : Nat → Bool} {a : Act} {w : World}
end
section
variable {F : Fence} {n : Nat} {P : Program} {ops : Array Oper} {Q : Exit → Act → World → Prop} {c1 c2 : Ch} {N : Nat} {w0 : World} {S0 : Nat → Prop}
end
end
section
open Go.RowKit
theorem row_cells {W : World} {base e size k : Nat} {v : Value} {xs : List Value} (h : W.ownsRow base e size v k xs) {g : Nat} (hg : v.ownBlock = some g) : base ≤ g ∧ ∃ o, W.heap[g]? = some o ∧ o.isCells = true := by
  rcases h.2 with ⟨rfl, _⟩ | ⟨g', cap, cur, rfl, hb, hgg, _⟩
  · simp [Value.ownBlock] at hg
  · have : g' = g := by simpa [Value.ownBlock] using hg
    subst this
    exact ⟨hb, _, hgg, rfl⟩
theorem own_shape {w : World} {base : Nat} {e : TypeId} {size k : Nat} {v : Value} {xs : List Value} (h : w.ownsRow base e size v k xs) : ∃ a c, v = .slice a k c := by
  rcases h.2 with ⟨rfl, rfl⟩ | ⟨g, cap, cur, rfl, _⟩
  · exact ⟨_, _, rfl⟩
  · exact ⟨_, _, rfl⟩
theorem ownsRow_le {w : World} {base base' : Nat} {e : TypeId} {size k : Nat} {v : Value} {xs : List Value} (h : w.ownsRow base e size v k xs) (hb : base' ≤ base) : w.ownsRow base' e size v k xs := by
  refine ⟨h.1, ?_⟩
  rcases h.2 with h' | ⟨g, cap, cur, e1, e2, rest⟩
  · exact .inl h'
  · exact .inr ⟨g, cap, cur, e1, Nat.le_trans hb e2, rest⟩
end
section
open Go.RowKit
section
variable {P : Program} {α : Type} {f : α → List Value} {z : α} {c : Nat} {w : World}
theorem flat_cell {blk off : Nat} {qs : List α} (hf : ∀ q ∈ qs, (f q).length = c) (h : ∀ i, i < qs.length → w.rangeAt blk (off + i * c) (f (qs[i]?.getD z))) (j : Nat) (u : Value) (hj : (flatR f qs)[j]? = some u) : w.cell? ⟨blk, off + j, none⟩ = some u := by
  have hl := flatR_length qs hf
  have hlt : j < qs.length * c := by
    have := (List.getElem?_eq_some_iff.1 hj).1
    rw [hl] at this
    exact this
  have hc : 0 < c := by
    rcases Nat.eq_zero_or_pos c with h0 | h0
    · rw [h0] at hlt; omega
    · exact h0
  have e : j = j / c * c + j % c := by rw [Nat.mul_comm]; exact (Nat.div_add_mod j c).symm
  have hi : j / c < qs.length := by rw [Nat.div_lt_iff_lt_mul hc]; exact hlt
  have h2 := h (j / c) hi (j % c) u (by
    rw [← flatR_get (f := f) (z := z) (c := c) qs (j / c) (j % c) hf hi (Nat.mod_lt _ hc), ← e]; exact hj)
  rw [show off + j = off + j / c * c + j % c from by rw [Nat.add_assoc, ← e]]
  exact h2
theorem run_append_zero (base : Nat) (t ty e : TypeId) (i : TypeInfo) (size : Nat) (ht : P.underlying t = some (.slice e)) (hi : P.info? e = some i)
    (v : Value) (n : Nat) (xs : List Value) (hown : w.ownsRow base e size v n xs) (cap : Nat) :
    (Builtin.append_ #[t, t] ty #[v, .slice none 0 cap]).run P w = .ok v w := by
  rcases hown.2 with ⟨rfl, rfl⟩ | ⟨g, cap', cur, rfl, _, _, hnc, _⟩
  · simp [Builtin.append_, run_underlying ht, sizeOf, typeInfo, hi, Builtin.lenOf, Builtin.firstCells]
  · simp [Builtin.append_, run_underlying ht, sizeOf, typeInfo, hi, Builtin.lenOf, Builtin.firstCells, hnc, storeCells]
theorem run_append_rows (base : Nat) (t ty e : TypeId) (i : TypeInfo) (z0 : Value) (bytes : Nat) (ht : P.underlying t = some (.slice e)) (hi : P.info? e = some i) (hz : i.zero = some z0)
    (hsize : i.size = c) (hby : i.bytes = bytes) (hzs : z0.cells.size = c) (hsz : 0 < c)
    (v : Value) (n : Nat) (xs : List Value) (hown : w.ownsRow base e c v n xs) (x : Value) (rs : List α) (hx : RowsSl f z c w x rs) (hf : ∀ q ∈ rs, (f q).length = c) (h1 : ∀ q ∈ rs, ∀ u ∈ f q, u.oneCell' = true)
    (h63 : n + rs.length ≤ maxLen) (hbytes : (n + rs.length) * bytes ≤ 140737488355328) (hbase : base ≤ w.heap.size) :
    ∃ v' w', (Builtin.append_ #[t, t] ty #[v, x]).run P w = .ok v' w' ∧ w'.ownsRow base e c v' (n + rs.length) (xs ++ flatR f rs) ∧ w.grownBy w' v.ownBlock := by
  have one : ∀ u ∈ flatR f rs, u.oneCell' = true := fun u hu => by
    obtain ⟨q, hq, hu⟩ := List.mem_flatMap.1 hu
    exact h1 q hq u hu
  rcases hx with ⟨⟨a, cap, rfl⟩, rfl⟩ | ⟨blk, off, cap, rfl, hc, hm, hr⟩
  · cases a with
    | none =>
      refine ⟨v, w, run_append_zero base t ty e i c ht hi v n xs hown cap, ?_, ?_⟩
      · simpa [flatR] using hown
      · exact World.grownBy.refl _ _
    | some ad =>
      obtain ⟨v', w', h2, h3, h4, _⟩ := run_append_own (P := P) w base t ty e i z0 c bytes ht hi hz hsize hby hzs hsz v n xs hown ad 0 cap [] (by simp) (fun j u hj => by simp at hj) (fun u hu => by simp at hu) (by simpa using h63) (by simpa using hbytes) hbase
      exact ⟨v', w', h2, by simpa [flatR] using h3, h4⟩
  · obtain ⟨v', w', h2, h3, h4, _⟩ := run_append_own (P := P) w base t ty e i z0 c bytes ht hi hz hsize hby hzs hsz v n xs hown ⟨blk, off, none⟩ rs.length cap (flatR f rs) (flatR_length rs hf)
      (fun j u hj => by rw [add_mid]; exact flat_cell hf hr j u hj) one h63 hbytes hbase
    exact ⟨v', w', h2, h3, h4⟩
theorem wpList_append_rows {ops : Array Oper} {rest : List Oper} {o : Oper} {a : Act} {Q : Exit → Act → World → Prop} (hgd : o.guard = none) (s x : Operand) (t : TypeId)
    (ho : o.op = .call { callee := .builtin .append, args := #[s, x], argTypes := #[t, t] })
    (base : Nat) (e : TypeId) (i : TypeInfo) (z0 : Value) (bytes : Nat) (ht : P.underlying t = some (.slice e)) (hi : P.info? e = some i) (hz : i.zero = some z0)
    (hsize : i.size = c) (hby : i.bytes = bytes) (hzs : z0.cells.size = c) (hsz : 0 < c)
    (v : Value) (n : Nat) (xs : List Value) (hs : a.eval s = v) (hown : w.ownsRow base e c v n xs) (xv : Value) (rs : List α) (hxv : a.eval x = xv) (hx : RowsSl f z c w xv rs) (hf : ∀ q ∈ rs, (f q).length = c) (h1 : ∀ q ∈ rs, ∀ u ∈ f q, u.oneCell' = true)
    (h63 : n + rs.length ≤ maxLen) (hbytes : (n + rs.length) * bytes ≤ 140737488355328) (hbase : base ≤ w.heap.size)
    (h : ∀ v' w', w'.ownsRow base e c v' (n + rs.length) (xs ++ flatR f rs) → w.grownBy w' v.ownBlock → wpList P ops Q rest (a.put o.dst v') w') : wpList P ops Q (o :: rest) a w := by
  obtain ⟨v', w', hrun, h2, h3⟩ := run_append_rows (P := P) (w := w) base t o.type e i z0 bytes ht hi hz hsize hby hzs hsz v n xs hown xv rs hx hf h1 h63 hbytes hbase
  refine wpList_plain hgd fun K hK => ?_
  unfold Oper.wp
  simp [execOp, ho, resolve, invoke, builtin, hs, hxv, hrun, Result.andThen]
  exact hK _ _ (h v' w' h2 h3)
/-- What the call owns, as a slice of rows. -/
theorem rows_owned {base e : Nat} {v : Value} {qs : List α} (h : w.ownsRow base e c v qs.length (flatR f qs)) (hf : ∀ q ∈ qs, (f q).length = c) : RowsSl f z c w v qs := by
  by_cases hn : 0 < qs.length
  · obtain ⟨g, cap, rest, rfl, -, hb, h1, h2⟩ := own_blk h hn
    refine .inr ⟨g, 0, cap, rfl, h1, h2, fun i hi => ?_⟩
    rw [Nat.zero_add]
    refine flat_range hb hf i hi ?_
    rw [List.getElem?_eq_getElem hi]
    exact hf _ (List.getElem_mem hi)
  · have e : qs = [] := List.length_eq_zero_iff.1 (by omega)
    subst e
    obtain ⟨p, q, rfl⟩ := own_shape h
    exact .inl ⟨⟨_, _, rfl⟩, rfl⟩
end
end
section
open Go.RowKit
theorem region_inv0 {P : Program} {ops : Array Oper} {Q : Exit → Act → World → Prop} {rid : Nat} {a : Act} {w : World} (hm : P.follows .mixedOrders = true) (hup : ∀ (i : Nat) (o : Oper), ops[i]? = some o → ∀ e ∈ o.after, Region.binds .any e = true → e.on < i)
    (Inv : (Nat → Bool) → Act → World → Prop) (h0 : Inv (fun _ => false) a w.drew)
    (hstep : ∀ (L : Nat → Bool) (a : Act) (w : World) (i : Nat) (o : Oper), Inv L a w → ops[i]? = some o → L i = false → (∀ e ∈ o.after, Region.binds .any e = true → L e.on = true) → wpOp P ops Q i (Inv (upd L i)) a w)
    (hend : ∀ (L : Nat → Bool) (a : Act) (w : World), Inv L a w → (∀ i, i < ops.size → L i = true) → Q .normal a w) : (Code.region rid ops true).wp P Q a w := by
  have key : ∀ (fuel : Nat) (listed : Array Bool) (a : Act) (w : World), listed.size = ops.size → ops.size ≤ fuel + listed.toList.countP id → Inv (bitsOf listed) a w → wpAny P .any ops Q fuel listed a w := by
    intro fuel
    induction fuel with
    | zero =>
      intro listed a w hs hc hi
      have hall : ∀ b ∈ listed.toList, b = true := by
        have h1 : listed.toList.countP id ≤ listed.toList.length := List.countP_le_length
        have h2 : listed.toList.length = listed.size := Array.length_toList
        have h3 : listed.toList.countP id = listed.toList.length := by omega
        intro b hb
        exact List.countP_eq_length.1 h3 b hb
      have hr : Region.ready .any ops listed = [] := by
        apply List.eq_nil_iff_forall_not_mem.2
        intro j hj
        have h1 := (mem_ready.1 hj).1
        rw [Array.getD_eq_getD_getElem?] at h1
        cases hg : listed[j]? with
        | none => rw [hg] at h1; cases h1
        | some b =>
          rw [hg] at h1
          have : b ∈ listed.toList := by simpa using Array.mem_of_getElem? hg
          rw [hall b this] at h1
          cases h1
      exact ⟨hr, hend _ a w hi (bits_done listed hs hup hr)⟩
    | succ fuel ih =>
      intro listed a w hs hc hi
      refine ⟨fun hr => hend _ a w hi (bits_done listed hs hup hr), fun i hr => ?_⟩
      obtain ⟨h1, o, ho, hall⟩ := mem_ready.1 hr
      have hlt : i < listed.size := by have := (Array.getElem?_eq_some_iff.1 ho).1; omega
      have hb : bitsOf listed i = false := by
        unfold bitsOf
        rw [Array.getD_eq_getD_getElem?, Array.getElem?_eq_getElem hlt] at h1 ⊢
        exact h1
      refine wpOp_mono (fun a' w' h => ih _ a' w' (by simpa using hs) ?_ ?_) (hstep _ a w i o hi ho hb hall)
      · rw [countP_snoc listed i hlt h1]; omega
      · rw [bitsOf_set listed i hlt]; exact h
  refine wp_region_any hm (key _ _ _ _ (by simp) (by omega) ?_)
  have : bitsOf (Array.replicate ops.size false) = fun _ => false := by
    funext i
    unfold bitsOf
    rw [Array.getD_eq_getD_getElem?, Array.getElem?_replicate]
    split <;> rfl
  rw [this]
  exact h0
def aft (o : Oper) (j : Nat) : Bool := o.after.toList.any fun e => Region.binds .any e && e.on == j
/-- wr: which operation writes a slot; reads: which slots an operation reads, and whose value it finds there (none: that of the beginning). -/
def okOne (ops : Array Oper) (wr : List (Option Nat)) (N i : Nat) (rd : List (Nat × Option Nat)) : Bool :=
  match ops[i]? with
  | none => false
  | some o =>
    (o.after.toList.all fun e => !Region.binds .any e || decide (e.on < i)) &&
    (match o.dst with | none => true | some d => decide (d < N) && wr.getD d none == some i) &&
    (match o.guard with | none => true | some (g, _) => aft o g && (match ops[g]? with | some og => og.dst.isSome | none => false)) &&
    rd.all fun p => match p.2 with
      | some j => wr.getD p.1 none == some j && aft o j
      | none => match wr.getD p.1 none with | none => true | some j => (match ops[j]? with | some oj => aft oj i | none => false)
def okAll (ops : Array Oper) (wr : List (Option Nat)) (N : Nat) (reads : List (List (Nat × Option Nat))) : Bool :=
  ((List.range ops.size).all fun i => okOne ops wr N i (reads.getD i [])) &&
  (wr.length == N && (List.range N).all fun s => match wr.getD s none with | none => true | some i => (match ops[i]? with | some o => o.dst == some s | none => false))
def EvOk (ev : Operand → Value) : Prop := (∀ v, ev (.const v) = v) ∧ (∀ f, ev (.func f) = .func (.func f) #[] #[])
def srcV (a0 : Act) (vals : List Value) : Nat × Option Nat → Value
  | (s, none) => a0.eval (.tmp s)
  | (_, some j) => vals.getD j undef
/-- What an operation's run must be. -/
def RunsTo (P : Program) (S : World → Prop) (o : Oper) (u : Value) (facts : (Operand → Value) → Prop) : Prop :=
  ∀ (ev : Operand → Value) (w : World), S w → EvOk ev → facts ev →
    (execOp ev o).run P w = .ok (.value u) w ∨ ∃ f args, (execOp ev o).run P w = .ok (.enter f args) w ∧ Calls P f args w fun e w' => e = .returned u ∧ S w'
def VStep (P : Program) (S : World → Prop) (ops : Array Oper) (a0 : Act) (vals : List Value) (reads : List (List (Nat × Option Nat))) (i : Nat) : Prop :=
  ∀ o, ops[i]? = some o →
    ((match o.guard with | none => True | some (g, b) => vals.getD g undef = .bool b) ∧ RunsTo P S o (vals.getD i undef) fun ev => ∀ p ∈ reads.getD i [], ev (.tmp p.1) = srcV a0 vals p) ∨
    (match o.guard with | none => False | some (g, b) => vals.getD g undef = .bool (!b) ∧ vals.getD i undef = undef)
def curV (wr : List (Option Nat)) (vals : List Value) (a0 : Act) (L : Nat → Bool) (s : Nat) : Value :=
  match wr.getD s none with
  | none => a0.eval (.tmp s)
  | some i => if L i then vals.getD i undef else a0.eval (.tmp s)
structure InvV (S : World → Prop) (ops : Array Oper) (wr : List (Option Nat)) (vals : List Value) (a0 : Act) (L : Nat → Bool) (a : Act) (w : World) : Prop where
  s : S w
  size : a.tmps.size = a0.tmps.size
  defers : a.defers = a0.defers
  closed : ∀ i o, ops[i]? = some o → L i = true → ∀ e ∈ o.after, Region.binds .any e = true → L e.on = true
  slot : ∀ s, a.eval (.tmp s) = curV wr vals a0 L s
section
variable {P : Program} {ops : Array Oper} {Q : Exit → Act → World → Prop} {S : World → Prop} {wr : List (Option Nat)} {vals : List Value} {reads : List (List (Nat × Option Nat))} {a0 : Act}
theorem aft_spec {o : Oper} {j : Nat} (h : aft o j = true) : ∃ e ∈ o.after, Region.binds .any e = true ∧ e.on = j := by
  unfold aft at h
  rw [List.any_eq_true] at h
  obtain ⟨e, he, hb⟩ := h
  rw [Bool.and_eq_true] at hb
  exact ⟨e, by simpa using he, hb.1, by simpa using hb.2⟩
theorem okAll_one (h : okAll ops wr a0.tmps.size reads = true) {i : Nat} {o : Oper} (ho : ops[i]? = some o) : okOne ops wr a0.tmps.size i (reads.getD i []) = true := by
  unfold okAll at h
  rw [Bool.and_eq_true, List.all_eq_true] at h
  exact h.1 i (by rw [List.mem_range]; exact (Array.getElem?_eq_some_iff.1 ho).1)
theorem okAll_wr (h : okAll ops wr a0.tmps.size reads = true) {s i : Nat} (hs : wr.getD s none = some i) : ∃ o, ops[i]? = some o ∧ o.dst = some s := by
  unfold okAll at h
  rw [Bool.and_eq_true, Bool.and_eq_true] at h
  have hlen : wr.length = a0.tmps.size := by simpa using h.2.1
  have hlt : s < a0.tmps.size := by
    rw [← hlen]
    rcases Nat.lt_or_ge s wr.length with h' | h'
    · exact h'
    · rw [List.getD_eq_getElem?_getD, List.getElem?_eq_none h'] at hs; cases hs
  have := List.all_eq_true.1 h.2.2 s (by rw [List.mem_range]; exact hlt)
  rw [hs] at this
  dsimp only at this
  split at this
  · rename_i o ho
    exact ⟨o, ho, by simpa using this⟩
  · cases this
theorem okAll_up (hok : okAll ops wr a0.tmps.size reads = true) : ∀ (i : Nat) (o : Oper), ops[i]? = some o → ∀ e ∈ o.after, Region.binds .any e = true → e.on < i := by
  intro i o ho e he hb
  have h := okAll_one hok ho
  unfold okOne at h
  rw [ho] at h
  dsimp only at h
  rw [Bool.and_eq_true, Bool.and_eq_true, Bool.and_eq_true] at h
  have h1 := List.all_eq_true.1 h.1.1.1 e (by simpa using he)
  rw [hb] at h1
  simpa using h1
theorem vals_init {w : World} (hS : S w) : InvV S ops wr vals a0 (fun _ => false) a0 w := by
  refine ⟨hS, rfl, rfl, fun i o _ h => (by cases h), fun s => ?_⟩
  unfold curV
  split <;> simp
theorem vals_step {L : Nat → Bool} {a : Act} {w : World} {i : Nat} {o : Oper} {K : Act → World → Prop} (hok : okAll ops wr a0.tmps.size reads = true) (hI : InvV S ops wr vals a0 L a w) (ho : ops[i]? = some o) (hu : L i = false) (hdep : ∀ e ∈ o.after, Region.binds .any e = true → L e.on = true)
    (hstep : VStep P S ops a0 vals reads i) (hK : ∀ a' w', InvV S ops wr vals a0 (upd L i) a' w' → K a' w') : wpOp P ops Q i K a w := by
  have hlt : i < ops.size := (Array.getElem?_eq_some_iff.1 ho).1
  have h := okAll_one hok ho
  unfold okOne at h
  rw [ho] at h
  dsimp only at h
  rw [Bool.and_eq_true, Bool.and_eq_true, Bool.and_eq_true] at h
  obtain ⟨⟨⟨h1, h2⟩, h3⟩, h4⟩ := h
  have hafter : ∀ j, aft o j = true → L j = true := fun j hj => by
    obtain ⟨e, he, hb, rfl⟩ := aft_spec hj
    exact hdep e he hb
  -- what stands in the slots that are read
  have hread : ∀ p ∈ reads.getD i [], a.eval (.tmp p.1) = srcV a0 vals p := by
    rintro ⟨s, src⟩ hp
    have hp' := List.all_eq_true.1 h4 _ hp
    dsimp only at hp'
    rw [hI.slot s]
    unfold curV
    cases src with
    | some j =>
      rw [Bool.and_eq_true] at hp'
      have e1 : wr.getD s none = some j := by simpa using hp'.1
      rw [e1]
      simp only [hafter j hp'.2, if_true]
      rfl
    | none =>
      dsimp only at hp'
      split at hp'
      · rename_i e1
        first | rfl | (rw [e1]; rfl)
      · rename_i j e1
        split at hp'
        · rename_i oj hoj
          obtain ⟨e, he, hb, hon⟩ := aft_spec hp'
          have hj : L j = false := by
            cases hLj : L j with
            | false => rfl
            | true =>
              have := hI.closed j oj hoj hLj e he hb
              rw [hon, hu] at this
              cases this
          first | (simp [hj]; rfl) | (rw [e1]; simp [hj]; rfl)
        · cases hp'
  -- the invariant behind it
  have hnext : ∀ w', S w' → InvV S ops wr vals a0 (upd L i) (a.put o.dst (vals.getD i undef)) w' := fun w' hw' => by
    refine ⟨hw', by rw [size_put]; exact hI.size, ?_, ?_, ?_⟩
    · rw [← hI.defers]; unfold Act.put; split <;> rfl
    · intro j oj hoj hLj e he hb
      unfold upd at hLj ⊢
      rw [Bool.or_eq_true] at hLj
      rcases hLj with hLj | hLj
      · rw [hI.closed j oj hoj hLj e he hb]; rfl
      · have : j = i := by simpa using hLj
        subst this
        rw [ho] at hoj
        injection hoj with hoj
        subst hoj
        rw [hdep e he hb]; rfl
    · intro s
      cases hd : o.dst with
      | none =>
        show a.eval (.tmp s) = _
        rw [hI.slot s]
        unfold curV
        cases hws : wr.getD s none with
        | none => rfl
        | some j =>
          have hne : (j == i) = false := by
            rw [beq_eq_false_iff_ne]
            rintro rfl
            obtain ⟨oj, hoj, hdj⟩ := okAll_wr hok hws
            rw [ho] at hoj
            injection hoj with hoj
            subst hoj
            rw [hd] at hdj
            cases hdj
          simp only [upd, hne, Bool.or_false]
      | some d =>
        rw [hd] at h2
        dsimp only at h2
        rw [Bool.and_eq_true] at h2
        have hdN : d < a.tmps.size := by rw [hI.size]; exact of_decide_eq_true h2.1
        have hwd : wr.getD d none = some i := by simpa using h2.2
        by_cases hsd : d = s
        · subst hsd
          rw [eval_put_same a d _ hdN]
          unfold curV
          rw [hwd]
          simp [upd]
        · rw [eval_put_ne a d s _ hsd, hI.slot s]
          unfold curV
          cases hws : wr.getD s none with
          | none => rfl
          | some j =>
            have hne : (j == i) = false := by
              rw [beq_eq_false_iff_ne]
              rintro rfl
              obtain ⟨oj, hoj, hdj⟩ := okAll_wr hok hws
              rw [ho] at hoj
              injection hoj with hoj
              subst hoj
              rw [hd] at hdj
              injection hdj with hdj
              exact hsd hdj
            simp only [upd, hne, Bool.or_false]
  -- what the guard says
  have hguard : ∀ g b, o.guard = some (g, b) → ∀ c, vals.getD g undef = .bool c → yielded ops a.tmps g = some c := fun g b hg c hc => by
    rw [hg] at h3
    dsimp only at h3
    rw [Bool.and_eq_true] at h3
    split at h3
    · rename_i og hog
      obtain ⟨d, hd⟩ := Option.isSome_iff_exists.1 h3.2
      have hgo := okAll_one hok hog
      unfold okOne at hgo
      rw [hog] at hgo
      dsimp only at hgo
      rw [Bool.and_eq_true, Bool.and_eq_true, Bool.and_eq_true, hd] at hgo
      dsimp only at hgo
      rw [Bool.and_eq_true] at hgo
      have hdN : d < a.tmps.size := by rw [hI.size]; exact of_decide_eq_true hgo.1.1.2.1
      have hwd : wr.getD d none = some g := by simpa using hgo.1.1.2.2
      have he : a.eval (.tmp d) = .bool c := by
        rw [hI.slot d]
        unfold curV
        rw [hwd]
        simp only [hafter g h3.1, if_true, hc]
      have ht : a.tmps[d]? = some (.bool c) := by
        rw [Array.getElem?_eq_getElem hdN]
        congr 1
        rw [← he]
        simp [Act.eval, hdN]
      unfold yielded
      rw [hog]
      simp [hd, ht]
    · cases h3.2
  rcases hstep o ho with ⟨hg, hrun⟩ | hskip
  · have hw : Region.wanted o (yielded ops a.tmps) = true := by
      unfold Region.wanted
      cases hgd : o.guard with
      | none => rfl
      | some gb =>
        obtain ⟨g, b⟩ := gb
        rw [hgd] at hg
        dsimp only at hg ⊢
        rw [hguard g b hgd b hg]
        simp
    unfold wpOp
    rw [ho]
    simp only [hw, if_true]
    refine .inl ?_
    rcases hrun a.eval w hI.s ⟨fun _ => rfl, fun _ => rfl⟩ hread with hr | ⟨f, args, hr, hc⟩
    · unfold Oper.wp
      rw [hr]
      exact hK _ _ (hnext w hI.s)
    · unfold Oper.wp
      rw [hr]
      exact hc.mono fun e w' ⟨he, hS'⟩ => by subst he; exact hK _ _ (hnext w' hS')
  · cases hgd : o.guard with
    | none => rw [hgd] at hskip; exact hskip.elim
    | some gb =>
      obtain ⟨g, b⟩ := gb
      rw [hgd] at hskip
      dsimp only at hskip
      have hw : Region.wanted o (yielded ops a.tmps) = false := by
        unfold Region.wanted
        rw [hgd]
        dsimp only
        rw [hguard g b hgd _ hskip.1]
        cases b <;> rfl
      unfold wpOp
      rw [ho]
      simp only [hw, Bool.false_eq_true, if_false]
      have := hnext w hI.s
      rw [hskip.2] at this
      exact hK _ _ this
theorem vals_end {L : Nat → Bool} {a : Act} {w : World} (hI : InvV S ops wr vals a0 L a w) (hall : ∀ i s, wr.getD s none = some i → L i = true) (aF : Act) (hF : aF.tmps.toList = (List.range a0.tmps.size).map fun s => match wr.getD s none with | none => a0.eval (.tmp s) | some i => vals.getD i undef) (hD : aF.defers = a0.defers) : a = aF := by
  obtain ⟨t, d⟩ := a
  obtain ⟨tF, dF⟩ := aF
  have h1 : t = tF := by
    apply Array.toList_inj.1
    rw [hF]
    have hsz : t.toList.length = a0.tmps.size := hI.size
    apply List.ext_getElem?
    intro s
    rw [List.getElem?_map]
    rcases Nat.lt_or_ge s a0.tmps.size with hs | hs
    · rw [List.getElem?_range hs]
      have e := hI.slot s
      have hts : s < t.size := by rw [show t.size = a0.tmps.size from hI.size]; exact hs
      have e2 : t[s]? = some ((Act.mk t d).eval (.tmp s)) := by
        rw [Array.getElem?_eq_getElem hts]
        simp [Act.eval, hts]
      show t.toList[s]? = _
      rw [Array.getElem?_toList, e2, e]
      unfold curV
      cases hws : wr.getD s none with
      | none => simp only [Option.map_some, hws]
      | some i =>
        simp only [Option.map_some, hws, hall i s hws, if_true]
    · rw [List.getElem?_eq_none (by omega), List.getElem?_eq_none (by simpa using hs)]
      rfl
  have h2 : d = dF := by
    have := hI.defers
    simp only at this hD
    rw [this, hD]
  rw [h1, h2]
def putAll (dsts : List (Option Nat)) (vals : List Value) (a0 : Act) : Act := (dsts.zip vals).foldl (fun a p => a.put p.1 p.2) a0
theorem putAll_defers (dsts : List (Option Nat)) (vals : List Value) (a0 : Act) : (putAll dsts vals a0).defers = a0.defers := by
  unfold putAll
  generalize dsts.zip vals = l
  induction l generalizing a0 with
  | nil => rfl
  | cons p l ih =>
    rw [List.foldl_cons, ih]
    unfold Act.put
    split <;> rfl
theorem region_vals {rid : Nat} {w : World} (wr : List (Option Nat)) (reads : List (List (Nat × Option Nat))) (vals : List Value) (hm : P.follows .mixedOrders = true) (hok : okAll ops wr a0.tmps.size reads = true) (S : World → Prop) (hS : S w.drew)
    (hstep : ∀ i, i < ops.size → VStep P S ops a0 vals reads i) (aF : Act) (hF : aF.tmps.toList = (List.range a0.tmps.size).map fun s => match wr.getD s none with | none => a0.eval (.tmp s) | some i => vals.getD i undef) (hD : aF.defers = a0.defers)
    (hend : ∀ w, S w → Q .normal aF w) : (Code.region rid ops true).wp P Q a0 w := by
  refine region_inv0 hm (okAll_up hok) (InvV S ops wr vals a0) (vals_init hS) ?_ ?_
  · intro L a w i o hI ho hu hdep
    exact vals_step hok hI ho hu hdep (hstep i (Array.getElem?_eq_some_iff.1 ho).1) (fun _ _ h => h)
  · intro L a w hI hall
    have : a = aF := vals_end hI (fun i s hws => by
      obtain ⟨o, ho, _⟩ := okAll_wr hok hws
      exact hall i (Array.getElem?_eq_some_iff.1 ho).1) aF hF hD
    rw [this]
    exact hend w hI.s
/-- The last operation waits for all the others (a store of what they have made): it is met at the frame that they leave. -/
theorem region_vals_last {rid n : Nat} {w : World} (wr : List (Option Nat)) (reads : List (List (Nat × Option Nat))) (dsts : List (Option Nat)) (vals : List Value) (S : World → Prop) (hm : P.follows .mixedOrders = true) (hok : okAll ops wr a0.tmps.size reads = true)
    (hF : (putAll dsts vals a0).tmps.toList = (List.range a0.tmps.size).map fun s => match wr.getD s none with | none => a0.eval (.tmp s) | some i => vals.getD i undef)
    (hn : ops.size = n + 1) (ol : Oper) (hol : ops[n]? = some ol) (hgl : ol.guard = none) (hwr : (wr.all fun x => x != some n) = true) (haft : ((List.range n).all fun i => aft ol i) = true) (hS : S w.drew)
    (hstep : ∀ i, i < n → VStep P S ops a0 vals reads i) (hend : ∀ a w, Hid (a = putAll dsts vals a0) → S w → Oper.wp P ol a w (fun a w => Q .normal a w) Q) : (Code.region rid ops true).wp P Q a0 w := by
  have hall : ∀ (L : Nat → Bool), (∀ e ∈ ol.after, Region.binds .any e = true → L e.on = true) → ∀ i, i < n → L i = true := fun L hd i hi => by
    obtain ⟨e, he, hb, rfl⟩ := aft_spec (List.all_eq_true.1 haft i (List.mem_range.2 hi))
    exact hd e he hb
  refine region_inv0 hm (okAll_up hok) (fun L a w => (L n = false → InvV S ops wr vals a0 L a w) ∧ (L n = true → (∀ i, i < n → L i = true) ∧ Q .normal a w)) ⟨fun _ => vals_init hS, fun h => by cases h⟩ ?_ ?_
  · intro L a w i o hI ho hu hdep
    have hlt : i < n + 1 := by rw [← hn]; exact (Array.getElem?_eq_some_iff.1 ho).1
    by_cases hin : i = n
    · subst hin
      rw [hol] at ho
      injection ho with ho
      subst ho
      have h1 := hall L hdep
      have hV := hI.1 hu
      have ha : a = putAll dsts vals a0 := vals_end hV (fun j s hws => by
        obtain ⟨oj, hoj, _⟩ := okAll_wr hok hws
        have hj : j < i + 1 := by rw [← hn]; exact (Array.getElem?_eq_some_iff.1 hoj).1
        have hne : j ≠ i := by
          rintro rfl
          have hmem : some j ∈ wr := by
            rw [List.getD_eq_getElem?_getD] at hws
            cases hg : wr[s]? with
            | none => rw [hg] at hws; cases hws
            | some x =>
              rw [hg] at hws
              simp only [Option.getD_some] at hws
              subst hws
              exact List.mem_of_getElem? hg
          have := List.all_eq_true.1 hwr _ hmem
          simp at this
        exact h1 j (by omega)) _ hF (putAll_defers dsts vals a0)
      unfold wpOp
      rw [hol]
      have hw : Region.wanted ol (yielded ops a.tmps) = true := by simp [Region.wanted, hgl]
      simp only [hw, if_true]
      refine .inl ?_
      refine Oper.wp_mono (fun a' w' h => ⟨fun hf => ?_, fun _ => ⟨fun j hj => ?_, h⟩⟩) (hend a w ha hV.s)
      · unfold upd at hf; simp at hf
      · unfold upd; rw [h1 j hj]; rfl
    · have hi : i < n := by omega
      have hLn : L n = false := by
        cases hL : L n with
        | false => rfl
        | true =>
          have := (hI.2 hL).1 i hi
          rw [hu] at this
          cases this
      refine vals_step hok (hI.1 hLn) ho hu hdep (hstep i hi) (fun a' w' h => ⟨fun _ => h, fun hf => ?_⟩)
      unfold upd at hf
      rw [hLn, Bool.false_or] at hf
      exact absurd (by simpa using hf : n = i) (fun e => hin e.symm)
  · intro L a w hI hd
    exact (hI.2 (hd n (by omega))).2
theorem region_vals2 {rid : Nat} {w : World} (wr : List (Option Nat)) (reads : List (List (Nat × Option Nat))) (dsts : List (Option Nat)) (vals : List Value) (S : World → Prop) (hm : P.follows .mixedOrders = true) (hok : okAll ops wr a0.tmps.size reads = true)
    (hF : (putAll dsts vals a0).tmps.toList = (List.range a0.tmps.size).map fun s => match wr.getD s none with | none => a0.eval (.tmp s) | some i => vals.getD i undef) (hS : S w.drew)
    (hstep : ∀ i, i < ops.size → VStep P S ops a0 vals reads i) (hend : ∀ w, S w → Q .normal (putAll dsts vals a0) w) : (Code.region rid ops true).wp P Q a0 w :=
  region_vals wr reads vals hm hok S hS hstep _ hF (putAll_defers dsts vals a0) hend
theorem VStep.val {i : Nat} (o : Oper) (ho : ops[i]? = some o) (rd : List (Nat × Option Nat)) (hrd : reads.getD i [] = rd) (u : Value) (hu : vals.getD i undef = u) (hg : match o.guard with | none => True | some (g, b) => vals.getD g undef = .bool b)
    (h : ∀ (ev : Operand → Value) (w : World), S w → EvOk ev → (∀ p ∈ rd, ev (.tmp p.1) = srcV a0 vals p) → (execOp ev o).run P w = .ok (.value u) w) : VStep P S ops a0 vals reads i := by
  intro o' ho'
  rw [ho] at ho'
  injection ho' with ho'
  subst ho' hrd hu
  exact .inl ⟨hg, fun ev w hS he hr => .inl (h ev w hS he hr)⟩
theorem VStep.call {i : Nat} (o : Oper) (ho : ops[i]? = some o) (rd : List (Nat × Option Nat)) (hrd : reads.getD i [] = rd) (u : Value) (hu : vals.getD i undef = u) (hg : match o.guard with | none => True | some (g, b) => vals.getD g undef = .bool b) (f : FuncId) (args : Array Value)
    (h : ∀ (ev : Operand → Value) (w : World), S w → EvOk ev → (∀ p ∈ rd, ev (.tmp p.1) = srcV a0 vals p) → (execOp ev o).run P w = .ok (.enter f args) w)
    (hc : ∀ w, S w → Calls P f args w fun e w' => e = .returned u ∧ S w') : VStep P S ops a0 vals reads i := by
  intro o' ho'
  rw [ho] at ho'
  injection ho' with ho'
  subst ho' hrd hu
  exact .inl ⟨hg, fun ev w hS he hr => .inr ⟨f, args, h ev w hS he hr, hc w hS⟩⟩
theorem VStep.skip {i : Nat} (o : Oper) (ho : ops[i]? = some o) (hu : vals.getD i undef = undef) (hg : match o.guard with | none => False | some (g, b) => vals.getD g undef = .bool (!b)) : VStep P S ops a0 vals reads i := by
  intro o' ho'
  rw [ho] at ho'
  injection ho' with ho'
  subst ho'
  refine .inr ?_
  split at hg
  · exact hg.elim
  · exact ⟨hg, hu⟩
def VFrom (P : Program) (S : World → Prop) (ops : Array Oper) (a0 : Act) (vals : List Value) (reads : List (List (Nat × Option Nat))) (k n : Nat) : Prop := ∀ i, k ≤ i → i < n → VStep P S ops a0 vals reads i
theorem VFrom.cons {k n : Nat} (h : VStep P S ops a0 vals reads k) (t : VFrom P S ops a0 vals reads (k + 1) n) : VFrom P S ops a0 vals reads k n := fun i h1 h2 => by
  by_cases e : i = k
  · subst e; exact h
  · exact t i (by omega) h2
theorem VFrom.nil {n : Nat} : VFrom P S ops a0 vals reads n n := fun i h1 h2 => by omega
theorem VFrom.start {n : Nat} (h : VFrom P S ops a0 vals reads 0 n) : ∀ i, i < n → VStep P S ops a0 vals reads i := fun i hi => h i (Nat.zero_le _) hi
theorem VFrom.all {n : Nat} (hn : ops.size = n) (h : VFrom P S ops a0 vals reads 0 n) : ∀ i, i < ops.size → VStep P S ops a0 vals reads i := fun i hi => h i (Nat.zero_le _) (by rw [← hn]; exact hi)
end
theorem exec_build {P : Program} {ev : Operand → Value} {o : Oper} {T : TypeId} {ps : Array (Nat × Operand)} {qs : Array (Nat × Value)} {v : Value} {w : World} (ho : o.op = .build T ps) (hq : (ps.map fun (i, x) => (i, ev x)) = qs) (hl : (Instr.build T qs).run P w = .ok v w) : (execOp ev o).run P w = .ok (.value v) w := by
  unfold execOp
  simp only [ho, hq, Sem.run_bind, Sem.run_pure, Result.andThen_ok, hl]
end
section
open Go.RowKit
/-- Which of the designated operations have come up. -/
def bitsAt (marks : List Nat) (L : Nat → Bool) : List Bool := marks.map L
theorem bitsAt_upd {marks : List Nat} {i : Nat} (h : marks.contains i = false) (L : Nat → Bool) : bitsAt marks (upd L i) = bitsAt marks L := by
  unfold bitsAt
  apply List.map_congr_left
  intro j hj
  unfold upd
  have : (j == i) = false := by
    rw [beq_eq_false_iff_ne]
    rintro rfl
    rw [List.contains_iff_mem.2 hj] at h
    cases h
  rw [this, Bool.or_false]
section
variable {G : Type} {P : Program} {ops : Array Oper} {Q : Exit → Act → World → Prop} {marks : List Nat} {S : List Bool → G → World → Prop} {wr : List (Option Nat)} {vals : G → List Value} {reads : List (List (Nat × Option Nat))} {a0 : Act}
/-- What stands behind an operation: its value, and the others' as they were. -/
def GNext (marks : List Nat) (S : List Bool → G → World → Prop) (vals : G → List Value) (i : Nat) (L : Nat → Bool) (g : G) (u : Value) (g' : G) (w' : World) : Prop :=
  (vals g').getD i undef = u ∧ (∀ j, L j = true → (vals g').getD j undef = (vals g).getD j undef) ∧ S (bitsAt marks (upd L i)) g' w'
def GStep (P : Program) (ops : Array Oper) (marks : List Nat) (S : List Bool → G → World → Prop) (vals : G → List Value) (reads : List (List (Nat × Option Nat))) (a0 : Act) (i : Nat) : Prop :=
  ∀ (o : Oper) (L : Nat → Bool) (g : G) (w : World), ops[i]? = some o → L i = false → (∀ j, aft o j = true → L j = true) → (∀ (j : Nat) (oj : Oper), ops[j]? = some oj → L j = true → ∀ k, aft oj k = true → L k = true) → S (bitsAt marks L) g w →
    ((match o.guard with | none => True | some (x, b) => (vals g).getD x undef = .bool b) ∧
      ∀ ev : Operand → Value, EvOk ev → (∀ p ∈ reads.getD i [], ev (.tmp p.1) = srcV a0 (vals g) p) →
        (∃ u g' w', (execOp ev o).run P w = .ok (.value u) w' ∧ GNext marks S vals i L g u g' w') ∨
        (∃ g' w', (execOp ev o).run P w = .ok .skip w' ∧ GNext marks S vals i L g undef g' w') ∨
        ∃ f args, (execOp ev o).run P w = .ok (.enter f args) w ∧ Calls P f args w fun e w' => ∃ u g', e = .returned u ∧ GNext marks S vals i L g u g' w') ∨
    ((match o.guard with | none => False | some (x, b) => (vals g).getD x undef = .bool (!b)) ∧ ∃ g', GNext marks S vals i L g undef g' w)
structure InvG (S : List Bool → G → World → Prop) (marks : List Nat) (ops : Array Oper) (wr : List (Option Nat)) (vals : G → List Value) (a0 : Act) (L : Nat → Bool) (g : G) (a : Act) (w : World) : Prop where
  s : S (bitsAt marks L) g w
  size : a.tmps.size = a0.tmps.size
  defers : a.defers = a0.defers
  closed : ∀ i o, ops[i]? = some o → L i = true → ∀ e ∈ o.after, Region.binds .any e = true → L e.on = true
  slot : ∀ s, a.eval (.tmp s) = curV wr (vals g) a0 L s
theorem ghost_step {L : Nat → Bool} {a : Act} {w : World} {i : Nat} {o : Oper} {g : G} {K : Act → World → Prop} (hok : okAll ops wr a0.tmps.size reads = true) (hI : InvG S marks ops wr vals a0 L g a w) (ho : ops[i]? = some o) (hu : L i = false) (hdep : ∀ e ∈ o.after, Region.binds .any e = true → L e.on = true)
    (hstep : GStep P ops marks S vals reads a0 i) (hK : ∀ g' a' w', InvG S marks ops wr vals a0 (upd L i) g' a' w' → K a' w') : wpOp P ops Q i K a w := by
  have hlt : i < ops.size := (Array.getElem?_eq_some_iff.1 ho).1
  have h := okAll_one hok ho
  unfold okOne at h
  rw [ho] at h
  dsimp only at h
  rw [Bool.and_eq_true, Bool.and_eq_true, Bool.and_eq_true] at h
  obtain ⟨⟨⟨h1, h2⟩, h3⟩, h4⟩ := h
  have hafter : ∀ j, aft o j = true → L j = true := fun j hj => by
    obtain ⟨e, he, hb, rfl⟩ := aft_spec hj
    exact hdep e he hb
  -- what stands in the slots that are read
  have hread : ∀ p ∈ reads.getD i [], a.eval (.tmp p.1) = srcV a0 (vals g) p := by
    rintro ⟨s, src⟩ hp
    have hp' := List.all_eq_true.1 h4 _ hp
    dsimp only at hp'
    rw [hI.slot s]
    unfold curV
    cases src with
    | some j =>
      rw [Bool.and_eq_true] at hp'
      have e1 : wr.getD s none = some j := by simpa using hp'.1
      rw [e1]
      simp only [hafter j hp'.2, if_true]
      rfl
    | none =>
      dsimp only at hp'
      split at hp'
      · rename_i e1
        first | rfl | (rw [e1]; rfl)
      · rename_i j e1
        split at hp'
        · rename_i oj hoj
          obtain ⟨e, he, hb, hon⟩ := aft_spec hp'
          have hj : L j = false := by
            cases hLj : L j with
            | false => rfl
            | true =>
              have := hI.closed j oj hoj hLj e he hb
              rw [hon, hu] at this
              cases this
          first | (simp [hj]; rfl) | (rw [e1]; simp [hj]; rfl)
        · cases hp'
  -- the invariant behind it
  have hnext : ∀ u g' w', GNext marks S vals i L g u g' w' → InvG S marks ops wr vals a0 (upd L i) g' (a.put o.dst u) w' := fun u g' w' hw' => by
    obtain ⟨hui, hold, hSn⟩ := hw'
    have hcur : ∀ s, (∀ j, wr.getD s none = some j → (j == i) = false) → curV wr (vals g') a0 (upd L i) s = curV wr (vals g) a0 L s := fun s hs => by
      unfold curV
      cases hws : wr.getD s none with
      | none => rfl
      | some j =>
        have hne := hs j hws
        simp only [upd, hne, Bool.or_false]
        cases hLj : L j with
        | false => rfl
        | true => simp only [if_true]; exact hold j hLj
    refine ⟨hSn, by rw [size_put]; exact hI.size, ?_, ?_, ?_⟩
    · rw [← hI.defers]; unfold Act.put; split <;> rfl
    · intro j oj hoj hLj e he hb
      unfold upd at hLj ⊢
      rw [Bool.or_eq_true] at hLj
      rcases hLj with hLj | hLj
      · rw [hI.closed j oj hoj hLj e he hb]; rfl
      · have : j = i := by simpa using hLj
        subst this
        rw [ho] at hoj
        injection hoj with hoj
        subst hoj
        rw [hdep e he hb]; rfl
    · intro s
      cases hd : o.dst with
      | none =>
        show a.eval (.tmp s) = _
        rw [hI.slot s]
        refine (hcur s (fun j hws => ?_)).symm
        rw [beq_eq_false_iff_ne]
        rintro rfl
        obtain ⟨oj, hoj, hdj⟩ := okAll_wr hok hws
        rw [ho] at hoj
        injection hoj with hoj
        subst hoj
        rw [hd] at hdj
        cases hdj
      | some d =>
        rw [hd] at h2
        dsimp only at h2
        rw [Bool.and_eq_true] at h2
        have hdN : d < a.tmps.size := by rw [hI.size]; exact of_decide_eq_true h2.1
        have hwd : wr.getD d none = some i := by simpa using h2.2
        by_cases hsd : d = s
        · subst hsd
          rw [eval_put_same a d _ hdN]
          unfold curV
          rw [hwd]
          have hii : upd L i i = true := by simp [upd]
          simp only [hii, if_true, hui]
        · rw [eval_put_ne a d s _ hsd, hI.slot s]
          refine (hcur s (fun j hws => ?_)).symm
          rw [beq_eq_false_iff_ne]
          rintro rfl
          obtain ⟨oj, hoj, hdj⟩ := okAll_wr hok hws
          rw [ho] at hoj
          injection hoj with hoj
          subst hoj
          rw [hd] at hdj
          injection hdj with hdj
          exact hsd hdj
  -- what the guard says
  have hguard : ∀ x b, o.guard = some (x, b) → ∀ c, (vals g).getD x undef = .bool c → yielded ops a.tmps x = some c := fun x b hg c hc => by
    rw [hg] at h3
    dsimp only at h3
    rw [Bool.and_eq_true] at h3
    split at h3
    · rename_i og hog
      obtain ⟨d, hd⟩ := Option.isSome_iff_exists.1 h3.2
      have hgo := okAll_one hok hog
      unfold okOne at hgo
      rw [hog] at hgo
      dsimp only at hgo
      rw [Bool.and_eq_true, Bool.and_eq_true, Bool.and_eq_true, hd] at hgo
      dsimp only at hgo
      rw [Bool.and_eq_true] at hgo
      have hdN : d < a.tmps.size := by rw [hI.size]; exact of_decide_eq_true hgo.1.1.2.1
      have hwd : wr.getD d none = some x := by simpa using hgo.1.1.2.2
      have he : a.eval (.tmp d) = .bool c := by
        rw [hI.slot d]
        unfold curV
        rw [hwd]
        simp only [hafter x h3.1, if_true, hc]
      have ht : a.tmps[d]? = some (.bool c) := by
        rw [Array.getElem?_eq_getElem hdN]
        congr 1
        rw [← he]
        simp [Act.eval, hdN]
      unfold yielded
      rw [hog]
      simp [hd, ht]
    · cases h3.2
  rcases hstep o L g w ho hu hafter (fun j oj hoj hLj k hk => by
      obtain ⟨e, he, hb, rfl⟩ := aft_spec hk
      exact hI.closed j oj hoj hLj e he hb) hI.s with ⟨hg, hrun⟩ | ⟨hskip, g', hn⟩
  · have hw : Region.wanted o (yielded ops a.tmps) = true := by
      unfold Region.wanted
      cases hgd : o.guard with
      | none => rfl
      | some gb =>
        obtain ⟨x, b⟩ := gb
        rw [hgd] at hg
        dsimp only at hg ⊢
        rw [hguard x b hgd b hg]
        simp
    unfold wpOp
    rw [ho]
    simp only [hw, if_true]
    refine .inl ?_
    rcases hrun a.eval ⟨fun _ => rfl, fun _ => rfl⟩ hread with ⟨u, g', w', hr, hn⟩ | ⟨g', w', hr, hn⟩ | ⟨f, args, hr, hc⟩
    · unfold Oper.wp
      rw [hr]
      exact hK _ _ _ (hnext u g' w' hn)
    · unfold Oper.wp
      rw [hr]
      exact hK _ _ _ (hnext undef g' w' hn)
    · unfold Oper.wp
      rw [hr]
      exact hc.mono fun e w' ⟨u, g', he, hn⟩ => by subst he; exact hK _ _ _ (hnext u g' w' hn)
  · cases hgd : o.guard with
    | none => rw [hgd] at hskip; exact hskip.elim
    | some gb =>
      obtain ⟨x, b⟩ := gb
      rw [hgd] at hskip
      dsimp only at hskip
      have hw : Region.wanted o (yielded ops a.tmps) = false := by
        unfold Region.wanted
        rw [hgd]
        dsimp only
        rw [hguard x b hgd _ hskip]
        cases b <;> rfl
      unfold wpOp
      rw [ho]
      simp only [hw, Bool.false_eq_true, if_false]
      exact hK _ _ _ (hnext undef g' w hn)
theorem ghost_end {L : Nat → Bool} {a : Act} {w : World} {g : G} (hI : InvG S marks ops wr vals a0 L g a w) (hall : ∀ i s, wr.getD s none = some i → L i = true) (aF : Act) (hF : aF.tmps.toList = (List.range a0.tmps.size).map fun s => match wr.getD s none with | none => a0.eval (.tmp s) | some i => (vals g).getD i undef) (hD : aF.defers = a0.defers) : a = aF := by
  obtain ⟨t, d⟩ := a
  obtain ⟨tF, dF⟩ := aF
  have h1 : t = tF := by
    apply Array.toList_inj.1
    rw [hF]
    have hsz : t.toList.length = a0.tmps.size := hI.size
    apply List.ext_getElem?
    intro s
    rw [List.getElem?_map]
    rcases Nat.lt_or_ge s a0.tmps.size with hs | hs
    · rw [List.getElem?_range hs]
      have e := hI.slot s
      have hts : s < t.size := by rw [show t.size = a0.tmps.size from hI.size]; exact hs
      have e2 : t[s]? = some ((Act.mk t d).eval (.tmp s)) := by
        rw [Array.getElem?_eq_getElem hts]
        simp [Act.eval, hts]
      show t.toList[s]? = _
      rw [Array.getElem?_toList, e2, e]
      unfold curV
      cases hws : wr.getD s none with
      | none => simp only [Option.map_some, hws]
      | some i =>
        simp only [Option.map_some, hws, hall i s hws, if_true]
    · rw [List.getElem?_eq_none (by omega), List.getElem?_eq_none (by simpa using hs)]
      rfl
  have h2 : d = dF := by
    have := hI.defers
    simp only at this hD
    rw [this, hD]
  rw [h1, h2]
theorem region_ghost {rid : Nat} {w : World} {g0 : G} (wr : List (Option Nat)) (reads : List (List (Nat × Option Nat))) (dsts : List (Option Nat)) (vals : G → List Value) (marks : List Nat) (S : List Bool → G → World → Prop) (hm : P.follows .mixedOrders = true) (hok : okAll ops wr a0.tmps.size reads = true)
    (hF : ∀ g, (putAll dsts (vals g) a0).tmps.toList = (List.range a0.tmps.size).map fun s => match wr.getD s none with | none => a0.eval (.tmp s) | some i => (vals g).getD i undef) (hmk : (marks.all fun i => decide (i < ops.size)) = true)
    (hS : S (marks.map fun _ => false) g0 w.drew) (hstep : ∀ i, i < ops.size → GStep P ops marks S vals reads a0 i) (hend : ∀ g w, S (marks.map fun _ => true) g w → Q .normal (putAll dsts (vals g) a0) w) : (Code.region rid ops true).wp P Q a0 w := by
  refine region_inv0 hm (okAll_up hok) (fun L a w => ∃ g, InvG S marks ops wr vals a0 L g a w) ⟨g0, hS, rfl, rfl, fun i o _ h => (by cases h), fun s => ?_⟩ ?_ ?_
  · unfold curV
    split <;> simp
  · rintro L a w i o ⟨g, hI⟩ ho hu hdep
    exact ghost_step hok hI ho hu hdep (hstep i (Array.getElem?_eq_some_iff.1 ho).1) (fun g' _ _ h => ⟨g', h⟩)
  · rintro L a w ⟨g, hI⟩ hall
    have ha : a = putAll dsts (vals g) a0 := ghost_end hI (fun i s hws => by
      obtain ⟨o, ho, _⟩ := okAll_wr hok hws
      exact hall i (Array.getElem?_eq_some_iff.1 ho).1) _ (hF g) (putAll_defers dsts (vals g) a0)
    rw [ha]
    refine hend g w ?_
    have hb : bitsAt marks L = marks.map fun _ => true := by
      unfold bitsAt
      apply List.map_congr_left
      intro j hj
      exact hall j (of_decide_eq_true (List.all_eq_true.1 hmk j hj))
    rw [← hb]
    exact hI.s
/-- Steps: an operation that leaves a value known ahead and turns nothing (i is not designated). -/
theorem GStep.val {i : Nat} (o : Oper) (ho : ops[i]? = some o) (hi : marks.contains i = false) (rd : List (Nat × Option Nat)) (hrd : reads.getD i [] = rd) (u : G → Value) (hu : ∀ g, (vals g).getD i undef = u g) (hg : ∀ g, match o.guard with | none => True | some (x, b) => (vals g).getD x undef = .bool b)
    (h : ∀ (bs : List Bool) (g : G) (ev : Operand → Value) (w : World), S bs g w → EvOk ev → (∀ p ∈ rd, ev (.tmp p.1) = srcV a0 (vals g) p) → (execOp ev o).run P w = .ok (.value (u g)) w) : GStep P ops marks S vals reads a0 i := by
  intro o' L g w ho' hL hd hcl hS
  rw [ho] at ho'
  injection ho' with ho'
  subst ho' hrd
  refine .inl ⟨hg g, fun ev he hr => .inl ⟨u g, g, w, h _ g ev w hS he hr, hu g, fun _ _ => rfl, ?_⟩⟩
  rw [bitsAt_upd hi L]
  exact hS
/-- A call whose answer is known ahead (i is not designated). -/
theorem GStep.call {i : Nat} (o : Oper) (ho : ops[i]? = some o) (hi : marks.contains i = false) (rd : List (Nat × Option Nat)) (hrd : reads.getD i [] = rd) (u : G → Value) (hu : ∀ g, (vals g).getD i undef = u g) (hg : ∀ g, match o.guard with | none => True | some (x, b) => (vals g).getD x undef = .bool b) (f : FuncId) (args : G → Array Value)
    (h : ∀ (bs : List Bool) (g : G) (ev : Operand → Value) (w : World), S bs g w → EvOk ev → (∀ p ∈ rd, ev (.tmp p.1) = srcV a0 (vals g) p) → (execOp ev o).run P w = .ok (.enter f (args g)) w)
    (hc : ∀ (L : Nat → Bool) (g : G) (w : World), (∀ j, aft o j = true → L j = true) → L i = false → S (bitsAt marks L) g w → Calls P f (args g) w fun e w' => e = .returned (u g) ∧ S (bitsAt marks L) g w') : GStep P ops marks S vals reads a0 i := by
  intro o' L g w ho' hL hd hcl hS
  rw [ho] at ho'
  injection ho' with ho'
  subst ho' hrd
  refine .inl ⟨hg g, fun ev he hr => .inr (.inr ⟨f, args g, h _ g ev w hS he hr, (hc L g w hd hL hS).mono fun e w' ⟨h1, h2⟩ => ⟨u g, g, h1, hu g, fun _ _ => rfl, ?_⟩⟩)⟩
  rw [bitsAt_upd hi L]
  exact h2
/-- A designated operation that leaves a value and makes memory (a made slice). -/
theorem GStep.make {i : Nat} (o : Oper) (ho : ops[i]? = some o) (rd : List (Nat × Option Nat)) (hrd : reads.getD i [] = rd) (hg : ∀ g, match o.guard with | none => True | some (x, b) => (vals g).getD x undef = .bool b)
    (h : ∀ (L : Nat → Bool) (g : G) (ev : Operand → Value) (w : World), L i = false → (∀ j, aft o j = true → L j = true) → (∀ (j : Nat) (oj : Oper), ops[j]? = some oj → L j = true → ∀ k, aft oj k = true → L k = true) → S (bitsAt marks L) g w → EvOk ev → (∀ p ∈ rd, ev (.tmp p.1) = srcV a0 (vals g) p) →
      ∃ u g' w', (execOp ev o).run P w = .ok (.value u) w' ∧ GNext marks S vals i L g u g' w') : GStep P ops marks S vals reads a0 i := by
  intro o' L g w ho' hL hd hcl hS
  rw [ho] at ho'
  injection ho' with ho'
  subst ho' hrd
  exact .inl ⟨hg g, fun ev he hr => .inl (h L g ev w hL hd hcl hS he hr)⟩
/-- A designated call. -/
theorem GStep.callm {i : Nat} (o : Oper) (ho : ops[i]? = some o) (rd : List (Nat × Option Nat)) (hrd : reads.getD i [] = rd) (hg : ∀ g, match o.guard with | none => True | some (x, b) => (vals g).getD x undef = .bool b) (f : FuncId) (args : G → Array Value)
    (h : ∀ (bs : List Bool) (g : G) (ev : Operand → Value) (w : World), S bs g w → EvOk ev → (∀ p ∈ rd, ev (.tmp p.1) = srcV a0 (vals g) p) → (execOp ev o).run P w = .ok (.enter f (args g)) w)
    (hc : ∀ (L : Nat → Bool) (g : G) (w : World), L i = false → (∀ j, aft o j = true → L j = true) → (∀ (j : Nat) (oj : Oper), ops[j]? = some oj → L j = true → ∀ k, aft oj k = true → L k = true) → S (bitsAt marks L) g w → Calls P f (args g) w fun e w' => ∃ u g', e = .returned u ∧ GNext marks S vals i L g u g' w') : GStep P ops marks S vals reads a0 i := by
  intro o' L g w ho' hL hd hcl hS
  rw [ho] at ho'
  injection ho' with ho'
  subst ho' hrd
  exact .inl ⟨hg g, fun ev he hr => .inr (.inr ⟨f, args g, h _ g ev w hS he hr, hc L g w hL hd hcl hS⟩)⟩
theorem GStep.skip {i : Nat} (o : Oper) (ho : ops[i]? = some o) (hi : marks.contains i = false) (hu : ∀ g, (vals g).getD i undef = undef) (hg : ∀ g, match o.guard with | none => False | some (x, b) => (vals g).getD x undef = .bool (!b)) : GStep P ops marks S vals reads a0 i := by
  intro o' L g w ho' hL hd hcl hS
  rw [ho] at ho'
  injection ho' with ho'
  subst ho'
  refine .inr ⟨hg g, g, hu g, fun _ _ => rfl, ?_⟩
  rw [bitsAt_upd hi L]
  exact hS
def GFrom (P : Program) (ops : Array Oper) (marks : List Nat) (S : List Bool → G → World → Prop) (vals : G → List Value) (reads : List (List (Nat × Option Nat))) (a0 : Act) (k n : Nat) : Prop := ∀ i, k ≤ i → i < n → GStep P ops marks S vals reads a0 i
theorem GFrom.cons {k n : Nat} (h : GStep P ops marks S vals reads a0 k) (t : GFrom P ops marks S vals reads a0 (k + 1) n) : GFrom P ops marks S vals reads a0 k n := fun i h1 h2 => by
  by_cases e : i = k
  · subst e; exact h
  · exact t i (by omega) h2
theorem GFrom.nil {n : Nat} : GFrom P ops marks S vals reads a0 n n := fun i h1 h2 => by omega
theorem GFrom.all {n : Nat} (hn : ops.size = n) (h : GFrom P ops marks S vals reads a0 0 n) : ∀ i, i < ops.size → GStep P ops marks S vals reads a0 i := fun i hi => h i (Nat.zero_le _) (by rw [← hn]; exact hi)
end
end
section
open Go.RowKit
theorem exec_store {P : Program} {ev : Operand → Value} {o : Oper} {T : TypeId} {x y : Operand} {a : Addr} {v : Value} {w w' : World} (ho : o.op = .store T x y) (hx : ev x = .pointer (some a)) (hy : ev y = v) (hl : (Instr.storeAt T (.pointer (some a)) v).run P w = .ok () w') : (execOp ev o).run P w = .ok .skip w' := by
  unfold execOp
  simp only [ho, hx, hy, Sem.run_bind, Sem.run_pure, Result.andThen_ok, hl]
/-- One operation of a plain region, by what its run is. -/
theorem wpList_val {P : Program} {ops : Array Oper} {rest : List Oper} {op : Oper} {a : Act} {w : World} {Q : Exit → Act → World → Prop} (hgd : op.guard = none) (v : Value) (w' : World) (h1 : (execOp a.eval op).run P w = .ok (.value v) w')
    (h : wpList P ops Q rest (a.put op.dst v) w') : wpList P ops Q (op :: rest) a w := wpList_plain hgd fun _ hK => by
  unfold Oper.wp
  rw [h1]
  exact hK _ _ h
/-- A store met at the end of a region, by what its run is. -/
theorem wp_store_at {P : Program} {op : Oper} {a : Act} {w w' : World} {K : Act → World → Prop} {Q : Exit → Act → World → Prop} (T : TypeId) (x y : Operand) (ho : op.op = .store T x y) {p : Addr} {v : Value}
    (hx : a.eval x = .pointer (some p)) (hy : a.eval y = v) (hl : (Instr.storeAt T (.pointer (some p)) v).run P w = .ok () w') (h : K (a.put op.dst undef) w') : op.wp P a w K Q := by
  unfold Oper.wp execOp
  simp only [ho, hx, hy, Sem.run_bind, Sem.run_pure, Result.andThen_ok, hl]
  exact h
variable {W : World} {n : Nat} {ts : Nat → TypeId} {zs vs : Nat → List Value} {bs : List Bool} {g : Nat → Nat} {w : World}
section
variable {P : Program} {ops : Array Oper} {marks : List Nat} {vals : (Nat → Nat) → List Value} {reads : List (List (Nat × Option Nat))} {a0 : Act} {i : Nat}
end
end
section
open Go.RowKit
section
variable {G : Type} {P : Program} {ops : Array Oper} {Q : Exit → Act → World → Prop} {a0 : Act}
theorem GFrom.start {marks : List Nat} {S : List Bool → G → World → Prop} {vals : G → List Value} {reads : List (List (Nat × Option Nat))} {n : Nat} (h : GFrom P ops marks S vals reads a0 0 n) : ∀ i, i < n → GStep P ops marks S vals reads a0 i := fun i hi => h i (Nat.zero_le _) hi
/-- A designated operation that leaves no value (a store). -/
theorem GStep.storem {marks : List Nat} {S : List Bool → G → World → Prop} {vals : G → List Value} {reads : List (List (Nat × Option Nat))} {i : Nat} (o : Oper) (ho : ops[i]? = some o) (rd : List (Nat × Option Nat)) (hrd : reads.getD i [] = rd) (hu : ∀ g, (vals g).getD i undef = undef) (hg : ∀ g, match o.guard with | none => True | some (x, b) => (vals g).getD x undef = .bool b)
    (h : ∀ (L : Nat → Bool) (g : G) (ev : Operand → Value) (w : World), L i = false → (∀ j, aft o j = true → L j = true) → (∀ (j : Nat) (oj : Oper), ops[j]? = some oj → L j = true → ∀ k, aft oj k = true → L k = true) → S (bitsAt marks L) g w → EvOk ev → (∀ p ∈ rd, ev (.tmp p.1) = srcV a0 (vals g) p) →
      ∃ w', (execOp ev o).run P w = .ok .skip w' ∧ S (bitsAt marks (upd L i)) g w') : GStep P ops marks S vals reads a0 i := by
  intro o' L g w ho' hL hd hcl hS
  rw [ho] at ho'
  injection ho' with ho'
  subst ho' hrd
  refine .inl ⟨hg g, fun ev he hr => .inr (.inl ?_)⟩
  obtain ⟨w', h1, h2⟩ := h L g ev w hL hd hcl hS he hr
  exact ⟨g, w', h1, hu g, fun _ _ => rfl, h2⟩
end
end

end Go.Proofs.YtogoophofgkboaaGreatDoor
