/-
  A region that draws its order and makes variables and fills them: which block each one is hangs on the order, and is the ghost. Nothing of the program is named here. No condition.
-/
import Derived.Test.YtbbfibgijackhaaGreatDoorGhost
import Derived.Test.YtbbfibgijackhaaGreatDoorRow
namespace Go.Proofs.YtbbfibgijackhaaGreatDoor
open Go.RowKit

def updG (g : Nat → Nat) (k x : Nat) : Nat → Nat := fun j => if j = k then x else g j
theorem exec_store {P : Program} {ev : Operand → Value} {o : Oper} {T : TypeId} {x y : Operand} {a : Addr} {v : Value} {w w' : World} (ho : o.op = .store T x y) (hx : ev x = .pointer (some a)) (hy : ev y = v) (hl : (Instr.storeAt T (.pointer (some a)) v).run P w = .ok () w') : (execOp ev o).run P w = .ok .skip w' := by
  unfold execOp
  simp only [ho, hx, hy, Sem.run_bind, Sem.run_pure, Result.andThen_ok, hl]
/-- One operation of a plain region, by what its run is. -/
theorem wpList_val {P : Program} {ops : Array Oper} {rest : List Oper} {op : Oper} {a : Act} {w : World} {Q : Exit → Act → World → Prop} (hgd : op.guard = none) (v : Value) (w' : World) (h1 : (execOp a.eval op).run P w = .ok (.value v) w')
    (h : wpList P ops Q rest (a.put op.dst v) w') : wpList P ops Q (op :: rest) a w := wpList_plain hgd fun _ hK => by
  unfold Oper.wp
  rw [h1]
  exact hK _ _ h
/-- A store met at the end of a region, by what its run is. -/
theorem wp_store_at {P : Program} {op : Oper} {a : Act} {w w' : World} {K : Act → World → Prop} {Q : Exit → Act → World → Prop} (T : TypeId) (x y : Operand) (ho : op.op = .store T x y) {p : Addr} {v : Value}
    (hx : a.eval x = .pointer (some p)) (hy : a.eval y = v) (hl : (Instr.storeAt T (.pointer (some p)) v).run P w = .ok () w') (h : K (a.put op.dst undef) w') : op.wp P a w K Q := by
  unfold Oper.wp execOp
  simp only [ho, hx, hy, Sem.run_bind, Sem.run_pure, Result.andThen_ok, hl]
  exact h
/-- n variables: which are made (bits 0 ..), which are filled (bits n ..). -/
structure VarsS (W : World) (n : Nat) (ts : Nat → TypeId) (zs vs : Nat → List Value) (bs : List Bool) (g : Nat → Nat) (w : World) : Prop where
  kp : Kp Nb W w
  low : ∀ k, k < n → bs[k]?.getD false = true → W.heap.size ≤ g k
  zero : ∀ k, k < n → bs[k]?.getD false = true → bs[n + k]?.getD false = false → Blk w (g k) (ts k) (zs k)
  full : ∀ k, k < n → bs[k]?.getD false = true → bs[n + k]?.getD false = true → Blk w (g k) (ts k) (vs k)
  ne : ∀ k l, k < n → l < n → k ≠ l → bs[k]?.getD false = true → bs[l]?.getD false = true → g k ≠ g l
variable {W : World} {n : Nat} {ts : Nat → TypeId} {zs vs : Nat → List Value} {bs : List Bool} {g : Nat → Nat} {w : World}
theorem VarsS.lt (h : VarsS W n ts zs vs bs g w) {k : Nat} (hk : k < n) (hb : bs[k]?.getD false = true) : g k < w.heap.size := by
  cases hf : bs[n + k]?.getD false with
  | false => exact (h.zero k hk hb hf).lt
  | true => exact (h.full k hk hb hf).lt
theorem VarsS.start (W : World) (n : Nat) (ts : Nat → TypeId) (zs vs : Nat → List Value) (m : List Nat) (g : Nat → Nat) : VarsS W n ts zs vs (m.map fun _ => false) g W.drew := by
  have e : ∀ k : Nat, (m.map fun _ => false)[k]?.getD false = false := fun k => by
    rw [List.getElem?_map]; cases m[k]? <;> rfl
  refine ⟨(Kp.refl Nb W).drew, ?_, ?_, ?_, ?_⟩ <;> intros <;> simp_all
theorem VarsS.kept (h : VarsS W n ts zs vs bs g w) {w' : World} (k : Kp Nb w w') : VarsS W n ts zs vs bs g w' :=
  ⟨h.kp.trans k (fun _ _ h => h), h.low, fun i hi hb hf => (h.zero i hi hb hf).kept k (fun h => h), fun i hi hb hf => (h.full i hi hb hf).kept k (fun h => h), h.ne⟩
theorem bits_one {marks : List Nat} {L : Nat → Bool} {i p : Nat} (hp : marks[p]? = some i) : (bitsAt marks (upd L i))[p]?.getD false = true := by
  unfold bitsAt; rw [List.getElem?_map, hp]; simp [upd]
theorem bits_old {marks : List Nat} {L : Nat → Bool} {i p : Nat} (hp : marks[p]? = some i) : (bitsAt marks L)[p]?.getD false = L i := by
  unfold bitsAt; rw [List.getElem?_map, hp]; rfl
/-- Position p alone holds i. -/
def onlyAt (marks : List Nat) (p i : Nat) : Bool := (List.range marks.length).all fun q => (marks[q]? == some i) == (q == p)
theorem onlyAt_ne {marks : List Nat} {p i q : Nat} (h : onlyAt marks p i = true) (hq : q ≠ p) : marks[q]? ≠ some i := by
  intro e
  have hl : q < marks.length := (List.getElem?_eq_some_iff.1 e).1
  have := List.all_eq_true.1 h q (List.mem_range.2 hl)
  rw [e] at this
  simp [hq] at this
theorem bits_ne {marks : List Nat} {L : Nat → Bool} {i p q : Nat} (h : onlyAt marks p i = true) (hq : q ≠ p) : (bitsAt marks (upd L i))[q]?.getD false = (bitsAt marks L)[q]?.getD false := by
  unfold bitsAt
  rw [List.getElem?_map, List.getElem?_map]
  cases hm : marks[q]? with
  | none => rfl
  | some j =>
    have hj : j ≠ i := fun e => onlyAt_ne h hq (by rw [hm, e])
    simp [upd, hj]
theorem VarsS.made {marks : List Nat} {L : Nat → Bool} {i k s : Nat} (h : VarsS W n ts zs vs (bitsAt marks L) g w) (hk : k < n) (hi : marks[k]? = some i) (ho : onlyAt marks k i = true) (hs : marks[n + k]? = some s) (hsf : L s = false) :
    VarsS W n ts zs vs (bitsAt marks (upd L i)) (updG g k w.heap.size) (w.alloc (.cells (zs k).toArray (ts k))) := by
  have hn : ∀ q, q ≠ k → (bitsAt marks (upd L i))[q]?.getD false = (bitsAt marks L)[q]?.getD false := fun q hq => bits_ne ho hq
  have g1 : updG g k w.heap.size k = w.heap.size := by simp [updG]
  have g2 : ∀ j, j ≠ k → updG g k w.heap.size j = g j := fun j hj => by simp [updG, hj]
  refine ⟨h.kp.alloc _, fun j hj hb => ?_, fun j hj hb hf => ?_, fun j hj hb hf => ?_, fun j l hj hl hne hb hb' => ?_⟩
  · by_cases e : j = k
    · subst e; rw [g1]; exact h.kp.size
    · rw [g2 j e]; rw [hn j e] at hb; exact h.low j hj hb
  · by_cases e : j = k
    · subst e; rw [g1]; exact Blk.new w _ _
    · rw [g2 j e]; rw [hn j e] at hb; rw [hn (n + j) (by omega)] at hf; exact (h.zero j hj hb hf).alloc _
  · by_cases e : j = k
    · subst e
      rw [hn (n + j) (by omega), bits_old hs, hsf] at hf
      cases hf
    · rw [g2 j e]; rw [hn j e] at hb; rw [hn (n + j) (by omega)] at hf; exact (h.full j hj hb hf).alloc _
  · by_cases e : j = k
    · have e' : l ≠ k := fun x => hne (e.trans x.symm)
      rw [e, g1, g2 l e']
      rw [hn l e'] at hb'
      have := h.lt hl hb'
      omega
    · by_cases e' : l = k
      · rw [e', g1, g2 j e]
        rw [hn j e] at hb
        have := h.lt hj hb
        omega
      · rw [g2 j e, g2 l e']
        rw [hn j e] at hb
        rw [hn l e'] at hb'
        exact h.ne j l hj hl hne hb hb'
theorem VarsS.filled {marks : List Nat} {L : Nat → Bool} {i k a : Nat} (h : VarsS W n ts zs vs (bitsAt marks L) g w) (hk : k < n) (hi : marks[n + k]? = some i) (ho : onlyAt marks (n + k) i = true) (ha : marks[k]? = some a) (hu : L i = false) (hat : L a = true) (hl : (vs k).length = (zs k).length) :
    VarsS W n ts zs vs (bitsAt marks (upd L i)) g (w.setCells (g k) 0 (vs k)) := by
  have hn : ∀ q, q ≠ n + k → (bitsAt marks (upd L i))[q]?.getD false = (bitsAt marks L)[q]?.getD false := fun q hq => bits_ne ho hq
  have hb0 : (bitsAt marks L)[k]?.getD false = true := by rw [bits_old ha]; exact hat
  have hf0 : (bitsAt marks L)[n + k]?.getD false = false := by rw [bits_old hi]; exact hu
  have hz := h.zero k hk hb0 hf0
  have hlow := h.low k hk hb0
  have kq : Kp (Jb (g k)) w (w.setCells (g k) 0 (vs k)) := Kp.setCells (S := Jb (g k)) (fun _ => show g k = g k from rfl) _ 0 w (Kp.refl _ w)
  refine ⟨Kp.setCells (fun h' => by omega) _ 0 w h.kp, fun j hj hb => ?_, fun j hj hb hf => ?_, fun j hj hb hf => ?_, fun j l hj hl hne hb hb' => ?_⟩
  · rw [hn j (by omega)] at hb; exact h.low j hj hb
  · rw [hn j (by omega)] at hb
    by_cases e : j = k
    · subst e; rw [bits_one hi] at hf; cases hf
    · rw [hn (n + j) (by omega)] at hf
      exact (h.zero j hj hb hf).kept kq (fun x => h.ne j k hj hk e hb hb0 x)
  · rw [hn j (by omega)] at hb
    by_cases e : j = k
    · subst e; exact row_set hz hl
    · rw [hn (n + j) (by omega)] at hf
      exact (h.full j hj hb hf).kept kq (fun x => h.ne j k hj hk e hb hb0 x)
  · rw [hn j (by omega)] at hb
    rw [hn l (by omega)] at hb'
    exact h.ne j l hj hl hne hb hb'
theorem VarsS.there (h : VarsS W n ts zs vs bs g w) {k : Nat} (hk : k < n) (hb : bs[k]?.getD false = true) (hf : bs[n + k]?.getD false = false) (m : Nat) (hm : m = (zs k).length) : w.there (g k) 0 m := (h.zero k hk hb hf).there 0 m (by omega)
/-- Behind the region. -/
theorem VarsS.done {marks : List Nat} (h : VarsS W n ts zs vs (marks.map fun _ => true) g w) (hm : marks.length = n + n) : (∀ k, k < n → W.heap.size ≤ g k ∧ Blk w (g k) (ts k) (vs k)) ∧ ∀ k l, k < n → l < n → k ≠ l → g k ≠ g l := by
  have e : ∀ k, k < n + n → (marks.map fun _ => true)[k]?.getD false = true := fun k hk => by
    rw [List.getElem?_map, List.getElem?_eq_getElem (by omega)]; rfl
  exact ⟨fun k hk => ⟨h.low k hk (e k (by omega)), h.full k hk (e k (by omega)) (e (n + k) (by omega))⟩, fun k l hk hl hne => h.ne k l hk hl hne (e k (by omega)) (e l (by omega))⟩

section
variable {P : Program} {ops : Array Oper} {marks : List Nat} {vals : (Nat → Nat) → List Value} {reads : List (List (Nat × Option Nat))} {a0 : Act} {i : Nat}
theorem GStep.valloc (k : Nat) (o : Oper) (ho : ops[i]? = some o) (hk : k < n) (hgd : o.guard = none) (hi : marks[k]? = some i) (hon : onlyAt marks k i = true) (s : Nat) (os : Oper) (hs : marks[n + k]? = some s) (hos : ops[s]? = some os) (haf : aft os i = true)
    (hv : ∀ g x, vals (updG g k x) = (vals g).set i (.pointer (some ⟨x, 0, none⟩))) (hlen : ∀ g, i < (vals g).length)
    (hrun : ∀ (ev : Operand → Value) (w : World), (execOp ev o).run P w = .ok (.value (.pointer (some ⟨w.heap.size, 0, none⟩))) (w.alloc (.cells (zs k).toArray (ts k)))) : GStep P ops marks (fun bs g w => Hid (VarsS W n ts zs vs bs g w)) vals reads a0 i := by
  intro o' L g w ho' hL hd hcl hS
  rw [ho] at ho'
  injection ho' with ho'
  subst ho'
  rw [hgd]
  refine .inl ⟨trivial, fun ev he hr => .inl ⟨_, updG g k w.heap.size, _, hrun ev w, ?_, fun j hj => ?_, ?_⟩⟩
  · rw [hv, List.getD_eq_getElem?_getD, List.getElem?_set_self (hlen g)]; rfl
  · have hn : i ≠ j := by rintro rfl; rw [hL] at hj; cases hj
    rw [hv, List.getD_eq_getElem?_getD, List.getD_eq_getElem?_getD, List.getElem?_set_ne hn]
  · have hsf : L s = false := by
      cases h : L s with
      | false => rfl
      | true => have := hcl s os hos h i haf; rw [hL] at this; cases this
    exact VarsS.made hS hk hi hon hs hsf
theorem GStep.vfill (k : Nat) (o : Oper) (ho : ops[i]? = some o) (hk : k < n) (hgd : o.guard = none) (hi : marks[n + k]? = some i) (hon : onlyAt marks (n + k) i = true) (a : Nat) (ha : marks[k]? = some a) (haf : aft o a = true) (hl : (vs k).length = (zs k).length) (hun : ∀ g, (vals g).getD i undef = undef)
    (rd : List (Nat × Option Nat)) (hrd : reads.getD i [] = rd)
    (hrun : ∀ (g : Nat → Nat) (ev : Operand → Value) (w : World), EvOk ev → (∀ p ∈ rd, ev (.tmp p.1) = srcV a0 (vals g) p) → w.there (g k) 0 (vs k).length → (execOp ev o).run P w = .ok .skip (w.setCells (g k) 0 (vs k))) : GStep P ops marks (fun bs g w => Hid (VarsS W n ts zs vs bs g w)) vals reads a0 i := by
  intro o' L g w ho' hL hd hcl hS
  rw [ho] at ho'
  injection ho' with ho'
  subst ho' hrd
  rw [hgd]
  have hat := hd a haf
  refine .inl ⟨trivial, fun ev he hr => .inr (.inl ⟨g, _, hrun g ev w he hr (hS.there hk (by rw [bits_old ha]; exact hat) (by rw [bits_old hi]; exact hL) _ hl), hun g, fun _ _ => rfl, ?_⟩)⟩
  exact VarsS.filled hS hk hi hon ha hL hat hl
end

end Go.Proofs.YtbbfibgijackhaaGreatDoor
