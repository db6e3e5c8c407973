/-
  Layer 19: the region of FrameJoined that appends to two rows, as a ghost's state; the frames of a list. No condition.
-/
import Derived.Test.YtmgmghlflldepaaFrR
namespace Go.Proofs.Ytmgmghlflldepaa
open Go.RowKit Go.Shelf

theorem old_setF {L : Nat → Bool} {i : Nat} {l l' : List Value} (u : Value) (hL : L i = false) (h : l' = l.set i u) : ∀ j, L j = true → l'.getD j undef = l.getD j undef := by
  intro j hj
  subst h
  have hn : i ≠ j := by rintro rfl; rw [hL] at hj; cases hj
  rw [List.getD_eq_getElem?_getD, List.getD_eq_getElem?_getD, List.getElem?_set_ne hn]
theorem exec_buildSliceF {P : Program} {ev : Operand → Value} {o : Oper} {T : TypeId} {n : Nat} {ps : Array (Nat × Operand)} {qs : Array (Nat × Value)} {v : Value} {w w' : World} (ho : o.op = .buildSlice T n ps) (hq : (ps.map fun (i, x) => (i, ev x)) = qs) (hl : (Instr.buildSlice T n qs).run P w = .ok v w') : (execOp ev o).run P w = .ok (.value v) w' := by
  unfold execOp
  simp only [ho, hq, Sem.run_bind, Sem.run_pure, Result.andThen_ok, hl]
theorem exec_append {P : Program} {ev : Operand → Value} {o : Oper} {s x : Operand} {t : TypeId} {v xv v' : Value} {w w' : World} (ho : o.op = .call { callee := .builtin .append, args := #[s, x], argTypes := #[t, t] })
    (hs : ev s = v) (hx : ev x = xv) (hr : (Builtin.append_ #[t, t] o.type #[v, xv]).run P w = .ok v' w') : (execOp ev o).run P w = .ok (.value v') w' := by
  simp [execOp, ho, resolve, invoke, builtin, hs, hx, hr, Result.andThen]
/-- An append to a row of one type leaves the blocks of the others. -/
theorem grown_ty {w w' : World} {base e size n : Nat} {v : Value} {xs : List Value} (h : w.ownsRow base e size v n xs) (g : w.grownBy w' v.ownBlock) {B t : Nat} {cs : Array Value} {fr : Nat × Nat} (hb : w.heap[B]? = some (.cells cs t fr)) (ht : t ≠ e) : w'.heap[B]? = some (.cells cs t fr) := by
  refine (g.block B (Array.getElem?_eq_some_iff.1 hb).1 (fun e' => ?_)).trans hb
  obtain ⟨cs', fr', e2⟩ := row_ty h e'.symm
  rw [hb] at e2
  injection e2 with e2
  injection e2 with _ e2
  exact ht e2
theorem grown_row {w w' : World} {base e size n : Nat} {v : Value} {xs : List Value} (h : w.ownsRow base e size v n xs) (g : w.grownBy w' v.ownBlock) {base2 e2 size2 n2 : Nat} {v2 : Value} {xs2 : List Value} (h2 : w.ownsRow base2 e2 size2 v2 n2 xs2) (ht : e2 ≠ e) : w'.ownsRow base2 e2 size2 v2 n2 xs2 :=
  ownsRow_same h2 (fun b hb => by
    obtain ⟨cs', fr', e'⟩ := row_ty h2 hb
    rw [grown_ty h g e' ht, e'])
theorem grown_blk {w w' : World} {base e size n : Nat} {v : Value} {xs : List Value} (h : w.ownsRow base e size v n xs) (g : w.grownBy w' v.ownBlock) {B t : Nat} {vs : List Value} (hb : Blk w B t vs) (ht : t ≠ e) : Blk w' B t vs := grown_ty h g hb ht
theorem kp_grown {w0 w w' : World} {base e size n : Nat} {v : Value} {xs : List Value} (h : w.ownsRow base e size v n xs) (g : w.grownBy w' v.ownBlock) (hb : base = w0.heap.size) (k : Kp Nb w0 w) : Kp Nb w0 w' :=
  k.grown g (fun b hb' hlt => by have := (row_cells h hb').1; omega)

/-- A frame of a list: its kind, its body as a value, the body's bytes. -/
abbrev FrT := Int × Value × List Int
abbrev ftL (q : FrT) : List Value := frL q.1 q.2.1
abbrev ftK (q : FrT) : FrK := (q.1, q.2.2)
abbrev ftZ : FrT := (0, .slice none 0 0, [])
theorem int_one (z : Int) : ∀ u ∈ ([Value.int .i64 z] : List Value), u.oneCell' = true := fun u hu => by rw [List.mem_singleton.1 hu]; rfl
/-- What stands while the two rows are appended to. -/
structure JnS (w0 : World) (va vb v3 : Value) (zs3 : List Int) (is : List Int) (fs : List FrT) (z : Int) (q : FrT) (P7 : Nat) (bs : List Bool) (g : Value × Value × Value × Value) (w : World) : Prop where
  kp : Kp Nb w0 w
  r3 : w.ownsRow w0.heap.size 5 1 v3 zs3.length (zs3.map (Value.int .u8))
  b7 : Blk w P7 24 (ftL q)
  a0 : bs[1]?.getD false = false → w.ownsRow w0.heap.size 3 1 va is.length (is.map (Value.int .i64))
  a1 : bs[1]?.getD false = true → w.ownsRow w0.heap.size 3 1 g.2.1 (is ++ [z]).length ((is ++ [z]).map (Value.int .i64))
  b0 : bs[3]?.getD false = false → w.ownsRow w0.heap.size 24 2 vb fs.length (fs.flatMap ftL)
  b1 : bs[3]?.getD false = true → w.ownsRow w0.heap.size 24 2 g.2.2.2 (fs ++ [q]).length ((fs ++ [q]).flatMap ftL)
  ma : bs[0]?.getD false = true → bs[1]?.getD false = false → ∃ B, g.1 = .slice (some ⟨B, 0, none⟩) 1 1 ∧ Blk w B 3 [.int .i64 z]
  mb : bs[2]?.getD false = true → bs[3]?.getD false = false → ∃ B, g.2.2.1 = .slice (some ⟨B, 0, none⟩) 1 1 ∧ Blk w B 24 (ftL q)
section
variable {w0 w w' : World} {va vb v3 : Value} {zs3 : List Int} {is : List Int} {fs : List FrT} {z : Int} {q : FrT} {P7 : Nat} {bs : List Bool} {g : Value × Value × Value × Value}
theorem JnS.keptN (h : JnS w0 va vb v3 zs3 is fs z q P7 bs g w) (k : Kp Nb w w') : JnS w0 va vb v3 zs3 is fs z q P7 bs g w' :=
  ⟨h.kp.trans k (fun _ _ h => h), ownsRow_kpn h.r3 k, h.b7.kept k (fun h => h), fun e => ownsRow_kpn (h.a0 e) k, fun e => ownsRow_kpn (h.a1 e) k, fun e => ownsRow_kpn (h.b0 e) k, fun e => ownsRow_kpn (h.b1 e) k,
    fun e e' => by obtain ⟨B, h1, h2⟩ := h.ma e e'; exact ⟨B, h1, h2.kept k (fun h => h)⟩, fun e e' => by obtain ⟨B, h1, h2⟩ := h.mb e e'; exact ⟨B, h1, h2.kept k (fun h => h)⟩⟩
theorem JnS.start (k : Kp Nb w0 w) (r3 : w.ownsRow w0.heap.size 5 1 v3 zs3.length (zs3.map (Value.int .u8))) (b7 : Blk w P7 24 (ftL q)) (a0 : w.ownsRow w0.heap.size 3 1 va is.length (is.map (Value.int .i64)))
    (b0 : w.ownsRow w0.heap.size 24 2 vb fs.length (fs.flatMap ftL)) : JnS w0 va vb v3 zs3 is fs z q P7 [false, false, false, false] g w.drew := by
  have kd : Kp Nb w w.drew := (Kp.refl Nb w).drew
  refine ⟨k.trans kd (fun _ _ h => h), ownsRow_kpn r3 kd, b7.kept kd (fun h => h), fun _ => ownsRow_kpn a0 kd, ?_, fun _ => ownsRow_kpn b0 kd, ?_, ?_, ?_⟩ <;> intro h <;> simp at h
theorem mark4 (L : Nat → Bool) (a b c d i : Nat) : bitsAt [a, b, c, d] (upd L i) = [L a || a == i, L b || b == i, L c || c == i, L d || d == i] := rfl
theorem bits4 (L : Nat → Bool) (a b c d : Nat) : bitsAt [a, b, c, d] L = [L a, L b, L c, L d] := rfl
theorem JnS.made1 {b1 b2 b3 : Bool} (h : JnS w0 va vb v3 zs3 is fs z q P7 [false, b1, b2, b3] g w) : JnS w0 va vb v3 zs3 is fs z q P7 [true, b1, b2, b3] (.slice (some ⟨w.heap.size, 0, none⟩) 1 1, g.2) (w.alloc (.cells #[.int .i64 z] 3 (0, 0))) := by
  have k := h.keptN ((Kp.refl Nb w).alloc (.cells #[.int .i64 z] 3 (0, 0)))
  exact ⟨k.kp, k.r3, k.b7, k.a0, k.a1, k.b0, k.b1, fun _ _ => ⟨_, rfl, Blk.new w _ [.int .i64 z]⟩, k.mb⟩
theorem JnS.made2 {b0 b1 b3 : Bool} (h : JnS w0 va vb v3 zs3 is fs z q P7 [b0, b1, false, b3] g w) : JnS w0 va vb v3 zs3 is fs z q P7 [b0, b1, true, b3] (g.1, g.2.1, .slice (some ⟨w.heap.size, 0, none⟩) 1 1, g.2.2.2) (w.alloc (.cells (ftL q).toArray 24 (0, 0))) := by
  have k := h.keptN ((Kp.refl Nb w).alloc (.cells (ftL q).toArray 24 (0, 0)))
  exact ⟨k.kp, k.r3, k.b7, k.a0, k.a1, k.b0, k.b1, k.ma, fun _ _ => ⟨_, rfl, Blk.new w _ (ftL q)⟩⟩
theorem JnS.put1 {b0 b2 b3 : Bool} (h : JnS w0 va vb v3 zs3 is fs z q P7 [b0, false, b2, b3] g w) {v' : Value} (ho : w'.ownsRow w0.heap.size 3 1 v' (is.length + 1) (is.map (Value.int .i64) ++ [.int .i64 z])) (hg : w.grownBy w' va.ownBlock) :
    JnS w0 va vb v3 zs3 is fs z q P7 [b0, true, b2, b3] (g.1, v', g.2.2) w' := by
  have r := h.a0 rfl
  refine ⟨kp_grown r hg rfl h.kp, grown_row r hg h.r3 (by decide), grown_blk r hg h.b7 (by decide), (fun e => by cases e), fun _ => ?_, fun e => grown_row r hg (h.b0 e) (by decide), fun e => grown_row r hg (h.b1 e) (by decide), (fun _ e => by cases e), fun e e' => ?_⟩
  · rw [List.length_append, List.map_append]; exact ho
  · obtain ⟨B, h1, h2⟩ := h.mb e e'
    exact ⟨B, h1, grown_blk r hg h2 (by decide)⟩
theorem JnS.put2 {b0 b1 b2 : Bool} (h : JnS w0 va vb v3 zs3 is fs z q P7 [b0, b1, b2, false] g w) (hb7 : w'.heap[P7]? = w.heap[P7]?) {v' : Value} (ho : w'.ownsRow w0.heap.size 24 2 v' (fs.length + 1) (fs.flatMap ftL ++ ftL q)) (hg : w.grownBy w' vb.ownBlock) :
    JnS w0 va vb v3 zs3 is fs z q P7 [b0, b1, b2, true] (g.1, g.2.1, g.2.2.1, v') w' := by
  have r := h.b0 rfl
  refine ⟨kp_grown r hg rfl h.kp, grown_row r hg h.r3 (by decide), hb7.trans h.b7, fun e => grown_row r hg (h.a0 e) (by decide), fun e => grown_row r hg (h.a1 e) (by decide), (fun e => by cases e), fun _ => ?_, fun e e' => ?_, (fun _ e => by cases e)⟩
  · rw [List.length_append, List.flatMap_append, List.flatMap_singleton]; exact ho
  · obtain ⟨B, h1, h2⟩ := h.ma e e'
    exact ⟨B, h1, grown_blk r hg h2 (by decide)⟩
end

theorem old_set2F {L : Nat → Bool} {i i2 : Nat} {l l' : List Value} (u u2 : Value) (hL : L i = false) (hL2 : L i2 = false) (h : l' = (l.set i u).set i2 u2) : ∀ j, L j = true → l'.getD j undef = l.getD j undef := by
  intro j hj
  subst h
  have hn : i ≠ j := by rintro rfl; rw [hL] at hj; cases hj
  have hn2 : i2 ≠ j := by rintro rfl; rw [hL2] at hj; cases hj
  rw [List.getD_eq_getElem?_getD, List.getD_eq_getElem?_getD, List.getElem?_set_ne hn2, List.getElem?_set_ne hn]
theorem app_int {w : World} {base ty B : Nat} {va : Value} {is : List Int} {z : Int} (own : w.ownsRow base 3 1 va is.length (is.map (Value.int .i64))) (hB : Blk w B 3 [.int .i64 z]) (hn : is.length ≤ 100000) (hb : base ≤ w.heap.size) :
    ∃ v' w', (Builtin.append_ #[40, 40] ty #[va, .slice (some ⟨B, 0, none⟩) 1 1]).run Try.prog w = .ok v' w' ∧ w'.ownsRow base 3 1 v' (is.length + 1) (is.map (Value.int .i64) ++ [.int .i64 z]) ∧ w.grownBy w' va.ownBlock := by
  obtain ⟨i0, hi, h1, h2, h3⟩ := info_parts fi_info
  have hx : RowsSl (fun z => [Value.int .i64 z]) 0 1 w (.slice (some ⟨B, 0, none⟩) 1 1) [z] := by
    refine .inr ⟨B, 0, 1, rfl, Nat.le_refl _, by unfold maxLen; omega, fun i hi => ?_⟩
    have e : i = 0 := by simp at hi; omega
    subst e
    exact hB.range 0 _ (fun j _ => by rw [Nat.zero_add]; rfl)
  exact run_append_rows (f := fun z => [Value.int .i64 z]) (z := 0) (c := 1) base 40 ty 3 i0 (.int .i64 0) 8 Try.underlying40 hi h1 h2 h3 rfl (by decide) va is.length _ own _ [z] hx (fun _ _ => rfl) (fun _ _ u hu => int_one _ u hu) (by rw [List.length_singleton]; unfold maxLen; omega) (by rw [List.length_singleton]; omega) hb
theorem app_fr {w : World} {base ty B : Nat} {vb : Value} {fs : List FrT} {k : Int} {y : Option Addr} {n d : Nat} {zs : List Int} (own : w.ownsRow base 24 2 vb fs.length (fs.flatMap ftL)) (hB : Blk w B 24 (ftL (k, .slice y n d, zs))) (hn : fs.length ≤ 100000) (hb : base ≤ w.heap.size) :
    ∃ v' w', (Builtin.append_ #[41, 41] ty #[vb, .slice (some ⟨B, 0, none⟩) 1 1]).run Try.prog w = .ok v' w' ∧ w'.ownsRow base 24 2 v' (fs.length + 1) (fs.flatMap ftL ++ ftL (k, .slice y n d, zs)) ∧ w.grownBy w' vb.ownBlock := by
  obtain ⟨i0, hi, h1, h2, h3⟩ := info_parts ff_info
  have hx : RowsSl ftL ftZ 2 w (.slice (some ⟨B, 0, none⟩) 1 1) [(k, .slice y n d, zs)] := by
    refine .inr ⟨B, 0, 1, rfl, Nat.le_refl _, by unfold maxLen; omega, fun i hi => ?_⟩
    have e : i = 0 := by simp at hi; omega
    subst e
    exact hB.range 0 _ (fun j _ => by rw [Nat.zero_add]; rfl)
  have h := run_append_rows (f := ftL) (z := ftZ) (c := 2) base 41 ty 24 i0 (frV 0 (.slice none 0 0)) 32 Try.underlying41 hi h1 h2 h3 rfl (by decide) vb fs.length _ own _ [(k, .slice y n d, zs)] hx (fun _ _ => rfl) (fun q hq u hu => by rw [List.mem_singleton.1 hq] at hu; exact frL_one _ _ rfl u hu) (by rw [List.length_singleton]; unfold maxLen; omega) (by rw [List.length_singleton]; omega) hb
  exact h

/-- The places of frames one behind the other. -/
def plF (fs : List FrK) : List Int := (List.range fs.length).map fun i => ((joinF (fs.take i)).length : Int)
theorem plF_length (fs : List FrK) : (plF fs).length = fs.length := by simp [plF]
theorem plF_at (fs : List FrK) (j : Nat) (h : j < fs.length) : (plF fs)[j]? = some ((joinF (fs.take j)).length : Int) := by
  unfold plF
  rw [List.getElem?_map, List.getElem?_range h]
  rfl
theorem plF_snoc (fs : List FrK) (f : FrK) : plF (fs ++ [f]) = plF fs ++ [((joinF fs).length : Int)] := by
  unfold plF
  rw [List.length_append, List.length_singleton, List.range_succ, List.map_append, List.map_singleton]
  congr 1
  · apply List.map_congr_left
    intro i hi
    rw [List.take_append_of_le_length (by have := List.mem_range.1 hi; omega)]
  · rw [List.take_left]
/-- The right ones of a list. -/
def pickF (l : List FrT) : List FrT := l.filter fun q => rightF q.1 q.2.2.length
theorem pickF_yes (l : List FrT) (j : Nat) (h : j < l.length) (hr : rightF l[j].1 l[j].2.2.length = true) : pickF (l.take (j + 1)) = pickF (l.take j) ++ [l[j]] := by
  unfold pickF
  rw [List.take_succ_eq_append_getElem h, List.filter_append, List.filter_cons_of_pos (by exact hr), List.filter_nil]
theorem pickF_no (l : List FrT) (j : Nat) (h : j < l.length) (hr : rightF l[j].1 l[j].2.2.length = false) : pickF (l.take (j + 1)) = pickF (l.take j) := by
  unfold pickF
  rw [List.take_succ_eq_append_getElem h, List.filter_append, List.filter_cons_of_neg (by rw [hr]; decide), List.filter_nil, List.append_nil]
theorem pickF_rt {l : List FrT} (h : ∀ q ∈ l, IsBytes q.2.2) : ∀ g ∈ (pickF l).map ftK, RtF g := fun g hg => by
  obtain ⟨q, hq, rfl⟩ := List.mem_map.1 hg
  have := List.mem_filter.1 hq
  exact ⟨this.2, h q this.1⟩
theorem join_long : ∀ fs : List FrK, (∀ g ∈ fs, RtF g) → 10 * fs.length ≤ (joinF fs).length
  | [], _ => by simp
  | f :: r, h => by
    have ih := join_long r (fun g hg => h g (by simp [hg]))
    have hf := h f (by simp)
    have hl := frame_length f.1 f.2 hf.1
    have rp := right_parts hf.1
    unfold costF at hl
    rw [if_pos (by omega)] at hl
    rw [joinF_cons, List.length_append, List.length_cons]
    omega

end Go.Proofs.Ytmgmghlflldepaa
