/-
  Layer 22: Rows and its iterator's contract; Total, of a ledger and of none. Conditions: rows of 64 bits.
-/
import Derived.Test.YtjipcmhknikcgaaDoorLgE
namespace Go.Proofs.YtjipcmhknikcgaaDoor
open Go.RowKit Go.Shelf
attribute [local go_sem] Oper.semAt_some

theorem exec_allocL {P : Program} {ev : Operand → Value} {o : Oper} {T : TypeId} {v : Value} {w w' : World} (ho : o.op = .alloc T) (hl : (Instr.alloc T true (.tuple #[])).run P w = .ok v w') : (execOp ev o).run P w = .ok (.value v) w' := by
  unfold execOp
  simp only [ho, Sem.run_bind, Sem.run_pure, Result.andThen_ok, hl]
theorem wpList_storeL {P : Program} {ops : Array Oper} {rest : List Oper} {o : Oper} {a : Act} {w w' : World} {Q : Exit → Act → World → Prop} (hg : o.guard = none) (T : TypeId) (x y : Operand) (hop : o.op = .store T x y) {p : Addr} {v : Value} (hx : a.eval x = .pointer (some p)) (hy : a.eval y = v) (hl : (Instr.storeAt T (.pointer (some p)) v).run P w = .ok () w')
    (hK : wpList P ops Q rest (a.put o.dst undef) w') : wpList P ops Q (o :: rest) a w := wpList_plain hg fun _ h => wp_store_at T x y hop hx hy hl (h _ _ hK)
/-- An operation of a fenced region that turns the world. -/
theorem wpListIn_stepL {F : Fence} {n : Nat} {P : Program} {ops : Array Oper} {rest : List Oper} {o : Oper} {a : Act} {w : World} {Q : Exit → Act → World → Prop} (hg : o.guard = none) (v : Value) (w' : World) (hd : ∀ c, o.op ≠ .defer c) (ha : o.about P w a.eval = none) (hl : (execOp a.eval o).run P w = .ok (.value v) w')
    (hK : wpListIn F n P ops Q rest (a.put o.dst v) w') : wpListIn F n P ops Q (o :: rest) a w := by
  refine wpListIn_plain hg fun K hK' => ?_
  unfold Oper.wpIn
  refine ⟨?_, ?_⟩
  · intro f hf; rw [ha] at hf; cases hf
  · rw [Oper.semAt_plain F _ _ hd]
    rw [hl]
    exact hK' _ _ hK
theorem wpIn_store_at {F : Fence} {n : Nat} {P : Program} {op : Oper} {a : Act} {w w' : World} {K : Act → World → Prop} {Q : Exit → Act → World → Prop} (T : TypeId) (x y : Operand) (ho : op.op = .store T x y) {p : Addr} {v : Value}
    (hx : a.eval x = .pointer (some p)) (hy : a.eval y = v) (hl : (Instr.storeAt T (.pointer (some p)) v).run P w = .ok () w') (h : K (a.put op.dst undef) w') : op.wpIn F n P a w K Q := by
  unfold Oper.wpIn
  refine ⟨?_, ?_⟩
  · simp [Oper.about, ho]
  · rw [Oper.semAt_plain F _ _ (by rw [ho]; intro c hc'; cases hc')]
    simp only [execOp, ho, hx, hy, Sem.run_bind, Sem.run_pure, Result.andThen_ok, hl]
    exact h
/-- The rows' array at a block. -/
structure ArAt (w : World) (B : Nat) (rs : List RwQ) : Prop where
  blk : Blk w B 55 (flatR rL rs)
  len : rs.length = 14
  ok : ∀ q ∈ rs, RwOk q
theorem ArAt.kept {S : Nat → Prop} {w w' : World} {B : Nat} {rs : List RwQ} (h : ArAt w B rs) (k : Kp S w w') (hB : ¬ S B) : ArAt w' B rs := ⟨h.blk.kept k hB, h.len, h.ok⟩
def lgP (p : Option Nat) : Value := .pointer (p.map fun B => ⟨B, 0, none⟩)
/-- A ledger, or none (no rows). -/
def LgO (w : World) (p : Option Nat) (rs : List RwQ) : Prop := (∃ B, p = some B ∧ LgAt w B rs) ∨ (p = none ∧ rs = zero14)
theorem LgO.kept {S : Nat → Prop} {w w' : World} {p : Option Nat} {rs : List RwQ} (h : LgO w p rs) (k : Kp S w w') (hB : ∀ B, p = some B → ¬ S B) : LgO w' p rs := by
  rcases h with ⟨B, rfl, h⟩ | h
  · exact .inl ⟨B, rfl, h.kept k (hB B rfl)⟩
  · exact .inr h
theorem zero14_ok : ∀ q ∈ zero14, RwOk q := fun q hq => by rw [List.eq_of_mem_replicate hq]; exact row0_ok
theorem LgO.len {w : World} {p : Option Nat} {rs : List RwQ} (h : LgO w p rs) : rs.length = 14 ∧ ∀ q ∈ rs, RwOk q := by
  rcases h with ⟨B, rfl, h⟩ | ⟨rfl, rfl⟩
  · exact ⟨h.len, h.ok⟩
  · exact ⟨rfl, zero14_ok⟩
theorem ar_load {w : World} {B t : Nat} {rs : List RwQ} (hs : Blk w B t (flatR rL rs)) (hl : rs.length = 14) : (Instr.loadAt ArT (.pointer (some ⟨B, 0, none⟩))).run Tryd.prog w = .ok (.agg (flatR rL rs).toArray) w :=
  run_loadAt_mid w B 0 ArT (flatR rL rs) _ (range_ofL hs) Tryd.underlying55 rfl (by rw [flatR_length rs (fun q _ => rl_len q), hl]; kernel_rfl)
theorem flat_one (rs : List RwQ) : ∀ v ∈ flatR rL rs, v.oneCell' = true := fun v hv => by
  unfold flatR at hv
  obtain ⟨q, _, h⟩ := List.mem_flatMap.1 hv
  exact rL_one q v h
theorem ar_store {w : World} {B : Nat} {rs : List RwQ} (hl : rs.length = 14) (ht : w.there B 0 28) : (Instr.storeAt ArT (.pointer (some ⟨B, 0, none⟩)) (.agg (flatR rL rs).toArray)).run Tryd.prog w = .ok () (w.setCells B 0 (flatR rL rs)) :=
  run_storeAt_mid w B 0 ArT (flatR rL rs).toArray (by rw [List.size_toArray, flatR_length rs (fun q _ => rl_len q), hl]; exact ht) (by rw [List.size_toArray, flatR_length rs (fun q _ => rl_len q), hl]; kernel_rfl) (all_oneCell_toArray (flat_one rs))
set_option maxRecDepth 100000 in
set_option maxHeartbeats 4000000 in
theorem lrows_any (p : Option Nat) (rs : List RwQ) (w : World) (h : LgO w p rs) : Calls Tryd.prog 22 #[lgP p] w fun e w' => ∃ Ba, e = .returned (.func (.func 30) #[] #[.pointer (some ⟨Ba, 0, none⟩)]) ∧ ArAt w' Ba rs ∧ w.heap.size ≤ Ba ∧ Kp Nb w w' := by
  obtain ⟨Z, hZ⟩ : ∃ Z, Z = flatR rL zero14 := ⟨_, rfl⟩
  obtain ⟨W1, hW1⟩ : ∃ W, W = w.alloc (.cells Z.toArray 55) := ⟨_, rfl⟩
  have hA : (Instr.alloc 55 true (.tuple #[])).run Tryd.prog w = .ok (.pointer (some ⟨w.heap.size, 0, none⟩)) W1 := by rw [hW1, hZ]; kernel_rfl
  have K1 : Kp Nb w W1 := by rw [hW1]; exact (Kp.refl Nb w).alloc _
  have B1 : Blk W1 w.heap.size 55 (flatR rL zero14) := by rw [hW1, hZ]; exact Blk.new w _ _
  rcases h with ⟨B, rfl, h⟩ | ⟨rfl, rfl⟩
  · have HL := hid (ar_load (h.blk.kept K1 (fun h => h)) h.len)
    obtain ⟨W2, hW2⟩ : ∃ W, W = W1.setCells w.heap.size 0 (flatR rL rs) := ⟨_, rfl⟩
    obtain ⟨vs, hvs⟩ : ∃ v, (flatR rL rs).toArray = v := ⟨_, rfl⟩
    have HST : Hid ((Instr.storeAt ArT (.pointer (some ⟨w.heap.size, 0, none⟩)) (.agg vs)).run Tryd.prog W1 = .ok () W2) := hid (by rw [hW2, ← hvs]; exact ar_store h.len (B1.there 0 28 (by decide)))
    rw [hvs] at HL
    have HR : Hid (ArAt W2 w.heap.size rs) := hid ⟨by rw [hW2]; exact row_set B1 (by rw [flatR_length rs (fun q _ => rl_len q), h.len]; rfl), h.len, h.ok⟩
    have K2 : Hid (Kp Nb w W2) := hid (by rw [hW2]; exact Kp.setCells (fun h => absurd h (Nat.lt_irrefl _)) _ _ _ K1)
    have HA := hid hA
    clear hW1 hA K1 B1 h hW2 hvs hZ
    unfold lgP
    simp only [Option.map_some]
    go_enter Tryd.func22, Tryd.ntmps22
    go_wp2_with (first
      | (refine wpList_val (by rfl) _ _ (exec_allocL rfl HA.out) ?_)
      | (refine wpList_val (by rfl) _ _ (exec_loadL (T := ArT) rfl rfl HL.out) ?_)
      | (refine wpList_storeL rfl ArT _ _ rfl (p := ⟨w.heap.size, 0, none⟩) (by rfl) (v := .agg vs) (by rfl) HST.out ?_))
    go_ret
    exact ⟨_, rfl, HR.out, Nat.le_refl _, K2.out⟩
  · have HR : Hid (ArAt W1 w.heap.size zero14) := hid ⟨B1, rfl, zero14_ok⟩
    have K2 := hid K1
    have HA := hid hA
    clear hW1 hA K1 B1 hZ
    unfold lgP
    simp only [Option.map_none]
    go_enter Tryd.func22, Tryd.ntmps22
    go_wp2_with (first
      | (refine wpList_val (by rfl) _ _ (exec_allocL rfl HA.out) ?_))
    go_ret
    exact ⟨_, rfl, HR.out, Nat.le_refl _, K2.out⟩

end Go.Proofs.YtjipcmhknikcgaaDoor
