/-
  Layer 11: kit for IbltPlays: an operation as a row; what its case hands on. No condition.
  A region of a function, by its number: so that it can be met in a theorem of its own. Nothing of the program is named here. No condition.
  Layer 11: IbltPlays' drawn regions by their numbers. No condition.
-/
import Derived.Test.YteedceepoindeaaPkA
import Derived.Test.YteedceepoindeaaPkK
import Derived.Test.YteedceepoindeaaGhostL
import Derived.Test.YteedceepoindeaaVars
namespace Go.Proofs.Yteedceepoindeaa
open Go.RowKit

/-- An operation: kind, at, to, n, mark. -/
abbrev OpQ : Type := Int × Int × Int × Int × List Int
def opl (o : OpQ) : List Value := [.int .i64 o.1, .int .i64 o.2.1, .int .i64 o.2.2.1, .int .i64 o.2.2.2.1] ++ markL o.2.2.2.2
def opZ : OpQ := (0, 0, 0, 0, List.replicate 16 0)
def i64R (n : Int) : Prop := -9223372036854775808 ≤ n ∧ n < 9223372036854775808
def OpOk (o : OpQ) : Prop := i64R o.1 ∧ i64R o.2.1 ∧ i64R o.2.2.1 ∧ i64R o.2.2.2.1 ∧ MarkOk o.2.2.2.2
theorem opl_len (o : OpQ) (h : o.2.2.2.2.length = 16) : (opl o).length = 20 := by simp [opl, markL_length, h]
theorem op_info : (Try.prog.info? 50).map (·.size) = some 20 := by kernel_rfl
theorem op_infoL (o : OpQ) (h : o.2.2.2.2.length = 16) : (Try.prog.info? 50).map (·.size) = some (opl o).length := by rw [opl_len o h]; exact op_info
theorem op_under : ∃ d, Try.prog.underlying 50 = some d ∧ d.isRow = true := ⟨_, Try.underlying50, rfl⟩
theorem opl_one (o : OpQ) : ∀ u ∈ opl o, u.oneCell' = true := fun u hu => by
  unfold opl at hu
  rcases List.mem_append.1 hu with h | h
  · simp only [List.mem_cons, List.not_mem_nil, or_false] at h
    rcases h with rfl | rfl | rfl | rfl <;> rfl
  · exact (by unfold markL at h; obtain ⟨z, -, rfl⟩ := List.mem_map.1 h; rfl)
theorem opl_mark (o : OpQ) (h : o.2.2.2.2.length = 16) : ((opl o).drop 4).take 16 = markL o.2.2.2.2 := by
  unfold opl
  rw [show ([.int .i64 o.1, .int .i64 o.2.1, .int .i64 o.2.2.1, .int .i64 o.2.2.2.1] ++ markL o.2.2.2.2 : List Value).drop 4 = markL o.2.2.2.2 from rfl]
  exact List.take_of_length_le (by rw [markL_length, h]; exact Nat.le_refl _)
theorem fresh_op {wr W5 : World} {M5 : Nat} (x : OpQ) (hx : x.2.2.2.2.length = 16) (h1 : wr.heap.size = M5) (h2 : W5 = (wr.alloc (.cells #[.int .i64 0, .int .i64 0, .int .i64 0, .int .i64 0, .int .u8 0, .int .u8 0, .int .u8 0, .int .u8 0, .int .u8 0, .int .u8 0, .int .u8 0, .int .u8 0, .int .u8 0, .int .u8 0, .int .u8 0, .int .u8 0, .int .u8 0, .int .u8 0, .int .u8 0, .int .u8 0] 50)).setCells M5 0 (opl x)) :
    Blk W5 M5 50 (opl x) ∧ Kp Nb wr W5 ∧ (wr.alloc (.cells #[.int .i64 0, .int .i64 0, .int .i64 0, .int .i64 0, .int .u8 0, .int .u8 0, .int .u8 0, .int .u8 0, .int .u8 0, .int .u8 0, .int .u8 0, .int .u8 0, .int .u8 0, .int .u8 0, .int .u8 0, .int .u8 0, .int .u8 0, .int .u8 0, .int .u8 0, .int .u8 0] 50)).there M5 0 (opl x).toArray.size := by
  have hb0 : Blk (wr.alloc (.cells #[.int .i64 0, .int .i64 0, .int .i64 0, .int .i64 0, .int .u8 0, .int .u8 0, .int .u8 0, .int .u8 0, .int .u8 0, .int .u8 0, .int .u8 0, .int .u8 0, .int .u8 0, .int .u8 0, .int .u8 0, .int .u8 0, .int .u8 0, .int .u8 0, .int .u8 0, .int .u8 0] 50)) wr.heap.size 50 (opl opZ) := Blk.new wr 50 (opl opZ)
  rw [h1] at hb0
  refine ⟨by rw [h2]; exact row_set hb0 (by rw [opl_len x hx]; rfl), by rw [h2]; exact Kp.setCells (fun h => by omega) _ _ _ ((Kp.refl Nb wr).alloc _), by rw [List.size_toArray, opl_len x hx]; exact hb0.there 0 20 (Nat.le_refl _)⟩
theorem op_at {w : World} {D : Nat} {T : TypeId} {cs : List Value} {m : List Int} (h : Blk w D T cs) (hc : (cs.drop 4).take 16 = markL m) : w.rangeAt D 4 (markL m) := fun j v hv => by
  rw [← hc] at hv
  rw [h.cell (4 + j)]
  rw [List.getElem?_take] at hv
  split at hv
  · rwa [List.getElem?_drop] at hv
  · cases hv
theorem exec_loadQ {P : Program} {ev : Operand → Value} {o : Oper} {T : TypeId} {x : Operand} {a : Addr} {v : Value} {w : World} (ho : o.op = .load T x) (hx : ev x = .pointer (some a)) (hl : (Instr.loadAt T (.pointer (some a))).run P w = .ok v w) : (execOp ev o).run P w = .ok (.value v) w := by
  unfold execOp
  simp only [ho, hx, Sem.run_bind, Sem.run_pure, Result.andThen_ok, hl]
theorem exec_buildSliceQ {P : Program} {ev : Operand → Value} {o : Oper} {T : TypeId} {n : Nat} {ps : Array (Nat × Operand)} {qs : Array (Nat × Value)} {v : Value} {w w' : World} (ho : o.op = .buildSlice T n ps) (hq : (ps.map fun (i, x) => (i, ev x)) = qs) (hl : (Instr.buildSlice T n qs).run P w = .ok v w') : (execOp ev o).run P w = .ok (.value v) w' := by
  unfold execOp
  simp only [ho, hq, Sem.run_bind, Sem.run_pure, Result.andThen_ok, hl]
theorem exec_makeSliceQ {P : Program} {ev : Operand → Value} {o : Oper} {T : TypeId} {x y : Operand} {a b v : Value} {w w' : World} (ho : o.op = .makeSlice T x y) (hx : ev x = a) (hy : ev y = b) (hl : (Instr.makeSlice T a b).run P w = .ok v w') : (execOp ev o).run P w = .ok (.value v) w' := by
  unfold execOp
  simp only [ho, hx, hy, Sem.run_bind, Sem.run_pure, Result.andThen_ok, hl]
theorem u64_nat (z : Int) : ∃ u : Nat, IntKind.u64.wrap z = (u : Int) ∧ u < 18446744073709551616 := by
  have e : IntKind.u64.wrap z = z % 18446744073709551616 := by simp [IntKind.wrap, IntKind.bits, IntKind.signed]
  refine ⟨(z % 18446744073709551616).toNat, ?_, ?_⟩
  · rw [e]; omega
  · omega
theorem u64_small (n : Nat) (h : n < 1000000) : IntKind.u64.wrap (n : Int) = (n : Int) := by
  have e : IntKind.u64.wrap (n : Int) = (n : Int) % 18446744073709551616 := by simp [IntKind.wrap, IntKind.bits, IntKind.signed]
  rw [e]; omega
theorem i64_small (n : Nat) (h : n < 1000000) : IntKind.i64.wrap (n : Int) = (n : Int) := by
  have e : IntKind.i64.wrap (n : Int) = ((n : Int) + 9223372036854775808) % 18446744073709551616 - 9223372036854775808 := by
    simp [IntKind.wrap, IntKind.bits, IntKind.signed]
    split <;> omega
  rw [e]; omega
/-- What stands while the first two rows are made. -/
structure S16 (w0 w3 : World) (n : Nat) (u1 u2 vf : Value) (bs : List Bool) (g : Value × Value × Value) (w : World) : Prop where
  kp : Kp Nb w3 w
  p : bs[0]?.getD false = true → w.ownsRow w0.heap.size PtrT 1 g.1 2 [u1, u2]
  z : bs[1]?.getD false = true → ∃ Z, g.2.1 = .slice (some ⟨Z, 0, none⟩) n n ∧ w3.heap.size ≤ Z ∧ Blk w Z 41 (rws (zeroS n))
  l : bs[2]?.getD false = true → w.ownsRow w0.heap.size LstT 1 g.2.2 2 [g.2.1, vf]
theorem S16.keptN {w0 w3 w w' : World} {n : Nat} {u1 u2 vf : Value} {bs : List Bool} {g : Value × Value × Value} (h : S16 w0 w3 n u1 u2 vf bs g w) (k : Kp Nb w w') : S16 w0 w3 n u1 u2 vf bs g w' :=
  ⟨h.kp.trans k (fun _ _ h => h), fun e => ownsRow_kp (h.p e) k, fun e => by obtain ⟨Z, a, b, c⟩ := h.z e; exact ⟨Z, a, b, c.kept k (fun h => h)⟩, fun e => ownsRow_kp (h.l e) k⟩
/-- The two first entries. -/
theorem S16.pls {w0 w3 w : World} {n B1 C1 B2 C2 : Nat} {cs : List Cel} {vf : Value} {g : Value × Value × Value} (h : S16 w0 w3 n (.pointer (some ⟨B1, 0, none⟩)) (.pointer (some ⟨B2, 0, none⟩)) vf [true, true, true] g w) (k3 : Kp Nb w0 w3)
    (hx : SkAt w3 B1 C1 (zeroS n)) (hy : SkAt w3 B2 C2 cs) (l1 : w0.heap.size ≤ C1) (l2 : w0.heap.size ≤ C2) (hne : C1 ≠ C2) (hv : RowsSl cl c0 18 w0 vf cs) (ho : AllOk cs) (f1 : fitB (n : Int) = true) (f2 : fitB (cs.length : Int) = true) :
    PlS w0 [⟨B1, C1, zeroS n, g.2.1, zeroS n⟩, ⟨B2, C2, cs, vf, cs⟩] g.1 g.2.2 w := by
  obtain ⟨Z, z1, z2, z3⟩ := h.z rfl
  have kw : Kp Nb w0 w := k3.trans h.kp (fun _ _ h => h)
  have hZ : 0 < n := by
    unfold fitB at f1
    have := of_decide_eq_true f1
    omega
  have c1 := hx.lt.2
  have c2 := hy.lt.2
  have s3 := k3.size
  have vlt : ∀ (blk off m cap : Nat), vf = .slice (some ⟨blk, off, none⟩) m cap → blk < w0.heap.size := fun blk off m cap e => by
    rcases hv with ⟨_, e0⟩ | ⟨b, o, c, e1, hc, hm, hr⟩
    · have hp := hy.pos
      rw [e0] at hp
      simp at hp
    · rw [e1] at e
      injection e with e
      injection e with e
      injection e with e
      subst e
      have h0 := hr 0 hy.pos 0 (.int .i64 (celAt cs 0).1) rfl
      exact World.block_lt_of_cell? w0 _ h0
  have zn : ∀ C', C' < w3.heap.size → NeB g.2.1 C' := fun C' hC blk off m cap e => by
    rw [z1] at e
    injection e with e
    injection e with e
    injection e with e
    omega
  have vn : ∀ C', w0.heap.size ≤ C' → NeB vf C' := fun C' hC blk off m cap e => by
    have := vlt _ _ _ _ e
    omega
  have cases2 : ∀ (i : Nat) (q : En), ([⟨B1, C1, zeroS n, g.2.1, zeroS n⟩, ⟨B2, C2, cs, vf, cs⟩] : List En)[i]? = some q → (i = 0 ∧ q = ⟨B1, C1, zeroS n, g.2.1, zeroS n⟩) ∨ (i = 1 ∧ q = ⟨B2, C2, cs, vf, cs⟩) := fun i q e => by
    match i with
    | 0 => exact .inl ⟨rfl, by simpa using e.symm⟩
    | 1 => exact .inr ⟨rfl, by simpa using e.symm⟩
    | i + 2 => simp at e
  refine ⟨kw, h.p rfl, h.l rfl, fun i q e => ?_, fun i j p q ei ej hij => ?_, fun i j p q ei ej => ?_, fun i q e => ?_⟩
  · rcases cases2 i q e with ⟨_, rfl⟩ | ⟨_, rfl⟩
    · refine ⟨hx.kept h.kp (fun h => h) (fun h => h), l1, zeroS_ok n, ?_, rfl, by rw [zeroS_length]; exact f1⟩
      dsimp only
      rw [z1]
      exact .inr ⟨Z, 0, n, by rw [zeroS_length], by rw [zeroS_length]; exact Nat.le_refl _, by unfold fitB at f1; have := of_decide_eq_true f1; unfold maxLen; omega, fun i hi j u hu => by
        rw [z3.cell, Nat.zero_add]
        rw [flatR_get (f := cl) (z := c0) (c := 18) (zeroS n) i j (zeroS_ok n).len hi (by
          have hj := (List.getElem?_eq_some_iff.1 hu).1
          rw [zeroS_at, cl_length c0_ok] at hj
          exact hj)]
        exact hu⟩
    · exact ⟨hy.kept h.kp (fun h => h) (fun h => h), l2, ho, hv.kept kw, rfl, f2⟩
  · rcases cases2 i p ei with ⟨_, rfl⟩ | ⟨_, rfl⟩ <;> rcases cases2 j q ej with ⟨_, rfl⟩ | ⟨_, rfl⟩
    · omega
    · exact hne
    · exact fun e => hne e.symm
    · omega
  · rcases cases2 i p ei with ⟨_, rfl⟩ | ⟨_, rfl⟩ <;> rcases cases2 j q ej with ⟨_, rfl⟩ | ⟨_, rfl⟩
    · exact zn _ c1
    · exact vn _ l1
    · exact zn _ c2
    · exact vn _ l2
  · rcases cases2 i q e with ⟨_, rfl⟩ | ⟨_, rfl⟩
    · intro blk off m cap e
      dsimp only at e
      rw [z1] at e
      injection e with e
      injection e with e
      injection e with e
      subst e
      exact .inr ⟨_, z3⟩
    · exact fun blk off m cap e => .inl (vlt _ _ _ _ e)

/-- A call's answer g, met once (b). -/
structure SG {G : Type} (w6 : World) (R : G → World → Prop) (b : Bool) (g : G) (w : World) : Prop where
  kp : Kp Nb w6 w
  h1 : b = true → R g w
/-- A call that turns the world, met once (b). -/
structure S27 (w6 : World) (R : World → Prop) (b : Bool) (w : World) : Prop where
  h0 : b = false → Kp Nb w6 w
  h1 : b = true → R w
/-- What the operation's case hands on. -/
def CutS (w0 : World) (k a D : Nat) (cs : List Value) (s16 s17 : Value) (wc : World) : Prop := ∃ K : List En, Hid (PlS w0 K s16 s17 wc) ∧ Hid (K.length ≤ k + 3 ∧ a < K.length) ∧ Hid (∀ (j : Nat) (q : En), K[j]? = some q → q.sc = q.wc ∧ q.wc.length ≤ 60) ∧ Hid (Blk wc D 50 cs)
theorem rows_cut {f : Cel → List Value} {z : Cel} {c : Nat} {w : World} {y : Option Addr} {n d : Nat} {cs : List Cel} (h : RowsSl f z c w (.slice y n d) cs) (m : Nat) (hn : cs.length = n) (hm : m ≤ n) : RowsSl f z c w (.slice y m d) (cs.take m) := by
  rcases h with ⟨_, rfl⟩ | ⟨blk, off, cap, e, hc, hx, hr⟩
  · have : m = 0 := by simp at hn; omega
    subst this
    exact .inl ⟨⟨_, _, rfl⟩, rfl⟩
  · injection e with e1 e2 e3
    subst e1 e3
    refine .inr ⟨blk, off, d, by rw [List.length_take, Nat.min_eq_left (by omega)], by rw [List.length_take]; omega, hx, fun i hi => ?_⟩
    rw [List.length_take] at hi
    rw [List.getElem?_take, if_pos (by omega)]
    exact hr i (by omega)
theorem store_lst {w : World} {B i : Nat} {vs : List Value} {t : Nat} (h : Blk w B t vs) (hi : i < vs.length) (y : Option Addr) (n d : Nat) : (Instr.storeAt LstT (.pointer (some ⟨B, i, none⟩)) (.slice y n d)).run Try.prog w = .ok () (w.setCell ⟨B, i, none⟩ (.slice y n d)) := by
  have hc := h.cell i
  rw [List.getElem?_eq_getElem hi] at hc
  have hf := h.frozen i
  go_simp
/-- A list put in the place of the one that is wanted, behind a sketch's turn. -/
theorem PlS.done {w0 w7 wy : World} {K : List En} {va : Value} {gW n d a Z cap Lq : Nat} {qB qC : Nat} {qv : Value} {sn qc : List Cel} {rest : List Value} (h7 : PlS w0 (K.set a ⟨qB, qC, sn, qv, qc⟩) va (.slice (some ⟨gW, 0, none⟩) n d) w7) (k : Kp Nb w7 wy) (hq : ∃ q, K[a]? = some q) (hl : qc.length = Lq) (hs : sn.length = Lq) (ho : AllOk sn)
    (hZ : w7.heap.size ≤ Z) (hb : Blk wy Z 41 (rws sn ++ rest)) (hc : Lq ≤ cap) (hx : cap ≤ maxLen) :
    PlS w0 (K.set a ⟨qB, qC, sn, .slice (some ⟨Z, 0, none⟩) Lq cap, sn⟩) va (.slice (some ⟨gW, 0, none⟩) n d) (wy.setCell ⟨gW, a, none⟩ (.slice (some ⟨Z, 0, none⟩) Lq cap)) ∧
      (Instr.storeAt LstT (.pointer (some ⟨gW, a, none⟩)) (.slice (some ⟨Z, 0, none⟩) Lq cap)).run Try.prog wy = .ok () (wy.setCell ⟨gW, a, none⟩ (.slice (some ⟨Z, 0, none⟩) Lq cap)) ∧ ∀ (D t : Nat) (xs : List Value), Blk wy D t xs → t ≠ LstT → Blk (wy.setCell ⟨gW, a, none⟩ (.slice (some ⟨Z, 0, none⟩) Lq cap)) D t xs := by
  obtain ⟨q, hq⟩ := hq
  have ha : a < K.length := (List.getElem?_eq_some_iff.1 hq).1
  have h := h7.kept k
  have hq1 : (K.set a ⟨qB, qC, sn, qv, qc⟩)[a]? = some ⟨qB, qC, sn, qv, qc⟩ := List.getElem?_set_self ha
  have hr : RowsSl cl c0 18 wy (.slice (some ⟨Z, 0, none⟩) Lq cap) sn := .inr ⟨Z, 0, cap, by rw [hs], by rw [hs]; exact hc, hx, fun i hi j u hu => by
    have hj := (List.getElem?_eq_some_iff.1 hu).1
    have hok : CelOk (sn[i]?.getD c0) := by rw [List.getElem?_eq_getElem hi]; exact ho _ (List.getElem_mem hi)
    rw [cl_length hok] at hj
    rw [hb.cell, Nat.zero_add, List.getElem?_append_left (by rw [flatR_length sn ho.len]; have : i + 1 ≤ sn.length := hi; calc i * 18 + j < (i + 1) * 18 := by omega
      _ ≤ sn.length * 18 := Nat.mul_le_mul_right 18 this), flatR_get (f := cl) (z := c0) (c := 18) sn i j ho.len hi hj]
    exact hu⟩
  have hp := h.putW hq1 hr ho (by rw [hs]; exact hl.symm) (fun j p e blk off m c ev => by
    injection ev with ev
    injection ev with ev
    injection ev with ev
    have := (h7.sk j p e).1.lt.2
    omega) (fun blk off m c ev => by
    injection ev with ev
    injection ev with ev
    injection ev with ev
    subst ev
    exact .inr ⟨_, hb⟩)
  rw [List.set_set] at hp
  obtain ⟨g2, rest2, e1, -, -, hB, -, -⟩ := h.wantAt (by rw [List.length_set]; omega)
  injection e1 with e1
  injection e1 with e1
  subst e1
  refine ⟨hp, store_lst hB (by rw [List.length_append, List.length_map, List.length_set]; omega) _ _ _, fun D t xs hD ht => hD.other _ (fun e => ?_) _⟩
  have e : D = gW := e
  exact blk_ty hD hB ht e
theorem eq_neCell {ev : Operand → Value} {o : Oper} {x y : Operand} {t' : TypeId} {p : Cel} {w : World} (hp : CelOk p) (ho : o.op = .binOp .neq 41 x y t') (hx : ev x = cv p) (hy : ev y = cv p) : (execOp ev o).run Try.prog w = .ok (.value (.bool false)) w := by
  have h := eq_cells p p hp.mark.len hp.mark.len w
  rw [decide_eq_true rfl] at h
  exact exec_neqCell (b := true) ho hx hy h
/-- The cell at a place, or none. -/
theorem kcell_all (B C : Nat) (cs : List Cel) (on : Int) (wc : World) (h : SkAt wc B C cs) : ∃ (x : Cel) (bb : Bool), CelOk x ∧ bb = decide (0 ≤ on ∧ on < (cs.length : Int)) ∧ (bb = true → x = celAt cs on.toNat) ∧ (bb = false → x = c0) ∧
    ∀ wq, Kp Nb wc wq → Calls Try.prog 20 #[.pointer (some ⟨B, 0, none⟩), .int .i64 on] wq fun e w' => e = .returned (.tuple #[cv x, .bool bb]) ∧ Kp Nb wq w' := by
  by_cases h0 : on < 0
  · exact ⟨c0, false, c0_ok, (decide_eq_false (by omega)).symm, (fun e => by cases e), fun _ => rfl, fun wq k => kcell_neg _ on wq h0 (.inr ⟨B, rfl⟩)⟩
  by_cases h1 : on < (cs.length : Int)
  · refine ⟨celAt cs on.toNat, true, h.ok.at _, (decide_eq_true (by omega)).symm, fun _ => rfl, (fun e => by cases e), fun wq k => ?_⟩
    have e : ((on.toNat : Nat) : Int) = on := by omega
    have hc := kcell_yes B C cs on.toNat wq (h.kept k (fun h => h) (fun h => h)) (by omega)
    rw [e] at hc
    exact hc
  · exact ⟨c0, false, c0_ok, (decide_eq_false (by omega)).symm, (fun e => by cases e), fun _ => rfl, fun wq k => kcell_big _ cs.length on wq (by omega) (by omega) (.inr ⟨B, rfl⟩) (fun W kW => size_any B C cs W (h.kept (k.trans kW (fun _ _ h => h)) (fun h => h) (fun h => h)))⟩
def cxT : Nat → TypeId := fun _ => 41
def cxZ : Nat → List Value := fun _ => cl c0
def cxV (x : Cel) : Nat → List Value := fun _ => cl x

theorem rowcell {w : World} {base e g n d m i : Nat} {xs : List Value} {u : Value} (h : w.ownsRow base e 1 (.slice (some ⟨g, 0, none⟩) n d) m xs) (hx : xs[i]? = some u) : w.cell? ⟨g, i, none⟩ = some u := by
  have hi : i < xs.length := (List.getElem?_eq_some_iff.1 hx).1
  have hl : xs.length = m * 1 := h.1
  obtain ⟨g', cap, rest, e1, -, hb, -, -⟩ := own_blk h (by omega)
  injection e1 with e1
  injection e1 with e1
  injection e1 with e1
  subst e1
  rw [hb.cell, List.getElem?_append_left hi]
  exact hx
theorem ptrs_at {K : List En} {a B C : Nat} {sc wc : List Cel} {v : Value} (h : K[a]? = some ⟨B, C, sc, v, wc⟩) : (ptrsQ K)[a]? = some (.pointer (some ⟨B, 0, none⟩)) := by
  unfold ptrsQ
  rw [List.getElem?_map, h]
  rfl
theorem lsts_at {K : List En} {a B C : Nat} {sc wc : List Cel} {v : Value} (h : K[a]? = some ⟨B, C, sc, v, wc⟩) : (lstsQ K)[a]? = some v := by
  unfold lstsQ
  rw [List.getElem?_map, h]
  rfl
theorem newNe {w : World} {v : Value} {wc : List Cel} {C : Nat} (h : RowsSl cl c0 18 w v wc) (hC : w.heap.size ≤ C) (hp : 0 < wc.length) : NeB v C := fun blk off n cap e => by
  rcases h with ⟨_, e0⟩ | ⟨b, o, c, e1, hc, hm, hr⟩
  · rw [e0] at hp
    simp at hp
  · rw [e1] at e
    injection e with e
    injection e with e
    injection e with e
    subst e
    have h0 := hr 0 hp 0 (.int .i64 (wc[0]?.getD c0).1) rfl
    have hb := World.block_lt_of_cell? w _ h0
    have hb' : b < w.heap.size := hb
    omega

theorem old_set4 {L : Nat → Bool} {i j k m : Nat} {l l' : List Value} {u1 u2 u3 u4 : Value} (h1 : L i = false) (h2 : L j = false) (h3 : L k = false) (h4 : L m = false) (h : l' = (((l.set i u1).set j u2).set k u3).set m u4) : ∀ n, L n = true → l'.getD n undef = l.getD n undef := by
  intro n hn
  subst h
  have n1 : i ≠ n := by rintro rfl; rw [h1] at hn; cases hn
  have n2 : j ≠ n := by rintro rfl; rw [h2] at hn; cases hn
  have n3 : k ≠ n := by rintro rfl; rw [h3] at hn; cases hn
  have n4 : m ≠ n := by rintro rfl; rw [h4] at hn; cases hn
  rw [List.getD_eq_getElem?_getD, List.getD_eq_getElem?_getD, List.getElem?_set_ne n4, List.getElem?_set_ne n3, List.getElem?_set_ne n2, List.getElem?_set_ne n1]
theorem rowsCap {w : World} {y : Option Addr} {n d : Nat} {cs : List Cel} (h : RowsSl cl c0 18 w (.slice y n d) cs) (hp : 0 < cs.length) : cs.length ≤ d ∧ d ≤ maxLen := by
  rcases h with ⟨_, e0⟩ | ⟨b, o, c, e1, hc, hm, hr⟩
  · rw [e0] at hp
    simp at hp
  · injection e1 with _ _ e3
    subst e3
    exact ⟨hc, hm⟩
theorem rowsAdr {w : World} {v : Value} {cs : List Cel} (h : RowsSl cl c0 18 w v cs) (hp : 0 < cs.length) : ∃ b o d, v = .slice (some ⟨b, o, none⟩) cs.length d ∧ cs.length ≤ d ∧ d ≤ maxLen := by
  rcases h with ⟨_, e0⟩ | ⟨b, o, c, e1, hc, hm, hr⟩
  · rw [e0] at hp
    simp at hp
  · exact ⟨b, o, c, e1, hc, hm⟩
theorem sameB_self (a : List Cel) : sameB a a = true := by unfold sameB; exact decide_eq_true rfl

/-- What stands while a sketch is looked at, at the end. -/
structure S49 (w8 : World) (qc : List Cel) (n : Nat) (b0 b1 : Bool) (g : Value × Value) (w : World) : Prop where
  kp : Kp Nb w8 w
  h1 : b0 = true → RowsSl cl c0 18 w g.1 qc
  h2 : b1 = true → RowsSl cl c0 18 w g.2 (zeroS n)
theorem S49.keptN {w8 w w' : World} {qc : List Cel} {n : Nat} {b0 b1 : Bool} {g : Value × Value} (h : S49 w8 qc n b0 b1 g w) (k : Kp Nb w w') : S49 w8 qc n b0 b1 g w' := ⟨h.kp.trans k (fun _ _ h => h), fun e => (h.h1 e).kept k, fun e => (h.h2 e).kept k⟩
theorem zero_rows (w : World) (n : Nat) (hn : n ≤ 100) : RowsSl cl c0 18 (w.alloc (.cells (rws (zeroS n)).toArray 41)) (.slice (some ⟨w.heap.size, 0, none⟩) n n) (zeroS n) :=
  .inr ⟨w.heap.size, 0, n, by rw [zeroS_length], by rw [zeroS_length]; exact Nat.le_refl _, by unfold maxLen; omega, fun i hi j u hu => by
    have hb := Blk.new w 41 (rws (zeroS n))
    rw [hb.cell, Nat.zero_add]
    rw [flatR_get (f := cl) (z := c0) (c := 18) (zeroS n) i j (zeroS_ok n).len hi (by
      have hj := (List.getElem?_eq_some_iff.1 hu).1
      rw [zeroS_at, cl_length c0_ok] at hj
      exact hj)]
    exact hu⟩
theorem sameB_zero (qc : List Cel) : sameB qc (zeroS qc.length) = emptyB qc := by
  unfold sameB emptyB zeroS
  rw [Bool.eq_iff_iff, decide_eq_true_iff, List.all_eq_true, List.eq_replicate_iff]
  simp

end Go.Proofs.Yteedceepoindeaa

namespace Go.Proofs.Yteedceepoindeaa
open Go.RowKit

def rgnOf (n : Nat) : Code → Option Code
  | .region m ops d => if m = n then some (.region m ops d) else none
  | .seq a b => match rgnOf n a with | some c => some c | none => rgnOf n b
  | .cond _ a b => match rgnOf n a with | some c => some c | none => rgnOf n b
  | .block _ b => rgnOf n b
  | .loop b => rgnOf n b
  | .rangeFunc _ _ a b => match rgnOf n a with | some c => some c | none => rgnOf n b
  | .scope b => rgnOf n b
  | _ => none
def rgn (n : Nat) (f : Func) : Code := match f.body with | some c => (rgnOf n c).getD .skip | none => .skip
def blkOf (n : Nat) : Code → Option Code
  | .seq a b => match blkOf n a with | some c => some c | none => blkOf n b
  | .cond _ a b => match blkOf n a with | some c => some c | none => blkOf n b
  | .block m b => if m = n then some (.block m b) else blkOf n b
  | .loop b => blkOf n b
  | .rangeFunc _ _ a b => match blkOf n a with | some c => some c | none => blkOf n b
  | .scope b => blkOf n b
  | _ => none
def blk (n : Nat) (f : Func) : Code := match f.body with | some c => (blkOf n c).getD .skip | none => .skip

end Go.Proofs.Yteedceepoindeaa

namespace Go.Proofs.Yteedceepoindeaa
open Go.RowKit

set_option maxRecDepth 100000 in
def ip_c16 : { c : Code // c = rgn 16 Try.f4 } := ⟨Code.region _ _ _, rfl⟩
set_option maxRecDepth 100000 in
def ip_c20 : { c : Code // c = rgn 20 Try.f4 } := ⟨Code.region _ _ _, rfl⟩
set_option maxRecDepth 100000 in
def ip_c23 : { c : Code // c = rgn 23 Try.f4 } := ⟨Code.region _ _ _, rfl⟩
set_option maxRecDepth 100000 in
def ip_c27 : { c : Code // c = rgn 27 Try.f4 } := ⟨Code.region _ _ _, rfl⟩
set_option maxRecDepth 100000 in
def ip_c28 : { c : Code // c = rgn 28 Try.f4 } := ⟨Code.region _ _ _, rfl⟩
set_option maxRecDepth 100000 in
def ip_c30 : { c : Code // c = rgn 30 Try.f4 } := ⟨Code.region _ _ _, rfl⟩
set_option maxRecDepth 100000 in
def ip_c31 : { c : Code // c = rgn 31 Try.f4 } := ⟨Code.region _ _ _, rfl⟩
set_option maxRecDepth 100000 in
def ip_c33 : { c : Code // c = rgn 33 Try.f4 } := ⟨Code.region _ _ _, rfl⟩
set_option maxRecDepth 100000 in
def ip_c35 : { c : Code // c = rgn 35 Try.f4 } := ⟨Code.region _ _ _, rfl⟩
set_option maxRecDepth 100000 in
def ip_c36 : { c : Code // c = rgn 36 Try.f4 } := ⟨Code.region _ _ _, rfl⟩
set_option maxRecDepth 100000 in
def ip_c41 : { c : Code // c = rgn 41 Try.f4 } := ⟨Code.region _ _ _, rfl⟩
set_option maxRecDepth 100000 in
def ip_c42 : { c : Code // c = rgn 42 Try.f4 } := ⟨Code.region _ _ _, rfl⟩
set_option maxRecDepth 100000 in
def ip_c43 : { c : Code // c = rgn 43 Try.f4 } := ⟨Code.region _ _ _, rfl⟩
set_option maxRecDepth 100000 in
def ip_c49 : { c : Code // c = rgn 49 Try.f4 } := ⟨Code.region _ _ _, rfl⟩
set_option maxRecDepth 100000 in
def ip_b2 : { c : Code // c = blk 2 Try.f4 } := ⟨Code.block _ _, rfl⟩

end Go.Proofs.Yteedceepoindeaa
