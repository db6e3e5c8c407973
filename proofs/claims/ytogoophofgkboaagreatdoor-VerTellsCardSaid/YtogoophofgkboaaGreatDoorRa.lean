/-
  Of the texts Kp, OpenK, Row, RowCut, OpenRk, SipPlain, SipA, SipB, SipC, SipD what is used. No condition but what each says.
-/
import Derived.WalkKit
import Derived.WalkSmall
import Derived.Test.YtogoophofgkboaaGreatDoorProg
import Derived.ProofKit
import Derived.OpenShut
import Derived.SizedLaws
import Derived.Deep.Matrix
import Derived.Deep.MidRow
import Derived.Deep.Strs
import Derived.Test.YtogoophofgkboaaGreatDoorChecked
import Derived.WalkSpells
import Derived.WalkLawsBesides
import Derived.Deep.QuietTactic
import Derived.BigQuiet
import Derived.RegionTactic
import Derived.ChangeAlike
import Derived.StillTailTactics
namespace Go.Proofs.YtogoophofgkboaaGreatDoor
section
open Go.RowKit
/-- A fact kept from the walk (it takes what stands open for a rewrite rule); '.out' gives it back. -/
theorem hid {p : Prop} (h : p) : Hid p := h
structure Kp (S : Nat → Prop) (w w' : World) : Prop where
  os : w'.os = w.os
  tape : w'.tape = w.tape
  output : w'.output = w.output
  size : w.heap.size ≤ w'.heap.size
  block : ∀ k, k < w.heap.size → ¬ S k → w'.heap[k]? = w.heap[k]?
def Nb : Nat → Prop := fun _ => False
def Jb (B : Nat) : Nat → Prop := fun k => k = B
theorem Kp.refl (S : Nat → Prop) (w : World) : Kp S w w := ⟨rfl, rfl, rfl, Nat.le_refl _, fun _ _ _ => rfl⟩
theorem Kp.trans {S S' : Nat → Prop} {a b c : World} (h : Kp S a b) (k : Kp S' b c) (hs : ∀ i, i < a.heap.size → S' i → S i) : Kp S a c :=
  ⟨k.os.trans h.os, k.tape.trans h.tape, k.output.trans h.output, Nat.le_trans h.size k.size, fun i hi hn => (k.block i (Nat.lt_of_lt_of_le hi h.size) (fun h' => hn (hs i hi h'))).trans (h.block i hi hn)⟩
theorem Kp.mono {S S' : Nat → Prop} {a b : World} (h : Kp S a b) (hs : ∀ i, i < a.heap.size → S i → S' i) : Kp S' a b :=
  ⟨h.os, h.tape, h.output, h.size, fun i hi hn => h.block i hi (fun h' => hn (hs i hi h'))⟩
theorem Kp.alloc {S : Nat → Prop} {a b : World} (h : Kp S a b) (o : Obj) : Kp S a (b.alloc o) :=
  h.trans (S' := S) ⟨rfl, rfl, rfl, by simp, fun i hi _ => Below.heap_alloc _ _ _ hi⟩ (fun _ _ x => x)
theorem Kp.setCell {S : Nat → Prop} {a b : World} (h : Kp S a b) {p : Addr} (hp : p.block < a.heap.size → S p.block) (v : Value) : Kp S a (b.setCell p v) :=
  ⟨h.os, h.tape, h.output, by simpa using h.size, fun i hi hn => (Below.heap_setCell _ _ _ _ (fun e => hn (by rw [e]; exact hp (by omega)))).trans (h.block i hi hn)⟩
theorem Kp.set {B : Nat} {a b : World} (h : Kp (Jb B) a b) (i : Nat) (v : Value) : Kp (Jb B) a (b.setCell ⟨B, i, none⟩ v) := h.setCell (p := ⟨B, i, none⟩) (fun _ => show B = B from rfl) v
theorem Kp.new {S : Nat → Prop} {a b : World} (h : Kp S a b) {B : Nat} (hB : a.heap.size ≤ B) (i : Nat) (v : Value) : Kp S a (b.setCell ⟨B, i, none⟩ v) := h.setCell (p := ⟨B, i, none⟩) (fun h' => absurd h' (Nat.not_lt.2 hB)) v
theorem Kp.drew {S : Nat → Prop} {a b : World} (h : Kp S a b) : Kp S a b.drew := ⟨h.os, h.tape, h.output, h.size, h.block⟩
theorem Kp.drewN {S : Nat → Prop} {a b : World} (h : Kp S a b) (n : Nat) : Kp S a (b.drewN n) := ⟨h.os, h.tape, h.output, h.size, h.block⟩
theorem Kp.grown {S : Nat → Prop} {a b c : World} {row : Option Nat} (h : Kp S a b) (g : b.grownBy c row) (hr : ∀ k, row = some k → k < a.heap.size → S k) : Kp S a c :=
  ⟨g.os.trans h.os, g.tape.trans h.tape, g.output.trans h.output, Nat.le_trans h.size g.size, fun i hi hn => (g.block i (Nat.lt_of_lt_of_le hi h.size) (fun e => hn (hr i e.symm hi))).trans (h.block i hi hn)⟩
theorem Kp.heap {S : Nat → Prop} {a b : World} (h : Kp S a b) {k : Nat} (hk : k < a.heap.size) (hn : ¬ S k) : b.heap[k]? = a.heap[k]? := h.block k hk hn
theorem Kp.cell {S : Nat → Prop} {a b : World} (h : Kp S a b) {p : Addr} {v : Value} (hc : a.cell? p = some v) (hn : ¬ S p.block) : b.cell? p = some v :=
  (World.cell?_of_block (h.block p.block (World.block_lt_of_cell? a p hc) hn)).trans hc
theorem Kp.below {S : Nat → Prop} {a b : World} {N : Nat} (h : Kp S a b) (hN : N ≤ a.heap.size) (hs : ∀ k, k < N → ¬ S k) : Below N a b :=
  ⟨h.os, h.tape, h.output, h.size, fun k hk => h.block k (by omega) (hs k hk)⟩
/-- A block of cells, whole: its values, its type, nothing frozen. -/
def Blk (w : World) (B : Nat) (t : TypeId) (vs : List Value) : Prop := w.heap[B]? = some (.cells vs.toArray t (0, 0))
theorem Blk.lt {w : World} {B : Nat} {t : TypeId} {vs : List Value} (h : Blk w B t vs) : B < w.heap.size := by
  unfold Blk at h
  rcases Nat.lt_or_ge B w.heap.size with h' | h'
  · exact h'
  · simp [Array.getElem?_eq_none h'] at h
theorem Blk.cell {w : World} {B : Nat} {t : TypeId} {vs : List Value} (h : Blk w B t vs) (i : Nat) : w.cell? ⟨B, i, none⟩ = vs[i]? := by
  unfold Blk at h; simp [World.cell?, h]
theorem Blk.frozen {w : World} {B : Nat} {t : TypeId} {vs : List Value} (h : Blk w B t vs) (i : Nat) : w.frozen? ⟨B, i, none⟩ = false := by
  unfold Blk at h; simp [World.frozen?, h]
theorem Blk.new (w : World) (t : TypeId) (vs : List Value) : Blk (w.alloc (.cells vs.toArray t)) w.heap.size t vs := by
  exact heap_alloc_new w _
theorem Blk.alloc {w : World} {B : Nat} {t : TypeId} {vs : List Value} (h : Blk w B t vs) (o : Obj) : Blk (w.alloc o) B t vs := by
  unfold Blk; rw [Below.heap_alloc _ _ _ h.lt]; exact h
theorem Blk.drewN {w : World} {B : Nat} {t : TypeId} {vs : List Value} (h : Blk w B t vs) (n : Nat) : Blk (w.drewN n) B t vs := h
theorem Blk.drew {w : World} {B : Nat} {t : TypeId} {vs : List Value} (h : Blk w B t vs) : Blk w.drew B t vs := h
theorem Blk.set {w : World} {B : Nat} {t : TypeId} {vs : List Value} (h : Blk w B t vs) (i : Nat) (v : Value) : Blk (w.setCell ⟨B, i, none⟩ v) B t (vs.set i v) := by
  unfold Blk at h ⊢
  simp [World.setCell, Array.getElem?_modify, h]
theorem Blk.other {w : World} {B : Nat} {t : TypeId} {vs : List Value} (h : Blk w B t vs) (a : Addr) (hne : B ≠ a.block) (v : Value) : Blk (w.setCell a v) B t vs := by
  unfold Blk; rw [Below.heap_setCell _ _ _ _ hne]; exact h
theorem Blk.kept {w w' : World} {S : Nat → Prop} {B : Nat} {t : TypeId} {vs : List Value} (h : Blk w B t vs) (k : Kp S w w') (hn : ¬ S B) : Blk w' B t vs := by
  unfold Blk; rw [k.block B h.lt hn]; exact h
end
section
open Go.ChangeShapes Go.WideShapes Go.ChangeAt Go.RowKit
theorem own : ownKnob Tryz.prog.godebug = none := by kernel_rfl
theorem laidOut : laidOutB Tryz.prog = true := by kernel_rfl
theorem add_none (b off i : Nat) : Addr.add ⟨b, off, none⟩ i = ⟨b, off + i, none⟩ := by
  unfold Addr.add
  split <;> simp_all
end
section
open Go.RowKit
theorem Blk.range {w : World} {B : Nat} {t : TypeId} {vs : List Value} (h : Blk w B t vs) (o : Nat) (cs : List Value) (hcs : ∀ j, j < cs.length → vs[o + j]? = cs[j]?) : w.rangeAt B o cs := fun j v hv => by
  rw [h.cell (o + j), hcs j (List.getElem?_eq_some_iff.1 hv).1]
  exact hv
theorem Blk.there {w : World} {B : Nat} {t : TypeId} {vs : List Value} (h : Blk w B t vs) (o n : Nat) (hn : o + n ≤ vs.length) : w.there B o n := fun j hj => by
  refine ⟨?_, h.frozen _⟩
  rw [h.cell (o + j), List.getElem?_eq_getElem (by omega)]
  rfl
theorem take_set_succ (vs : List Value) (o : Nat) (v : Value) (h : o < vs.length) : (vs.set o v).take (o + 1) = vs.take o ++ [v] := by
  rw [List.take_succ_eq_append_getElem (by rw [List.length_set]; exact h), List.take_set_of_le (Nat.le_refl _), List.getElem_set_self]
theorem Blk.setCells {B : Nat} {t : TypeId} : ∀ (cs : List Value) (o : Nat) (w : World) (vs : List Value), Blk w B t vs → o + cs.length ≤ vs.length → Blk (w.setCells B o cs) B t (vs.take o ++ cs ++ vs.drop (o + cs.length))
  | [], o, _, vs, h, _ => by simpa [World.setCells] using h
  | v :: r, o, w, vs, h, hl => by
    rw [List.length_cons] at hl
    have h1 := Blk.setCells r (o + 1) _ _ (h.set o v) (by rw [List.length_set]; omega)
    rw [take_set_succ vs o v (by omega)] at h1
    have e : (vs.set o v).drop (o + 1 + r.length) = vs.drop (o + (r.length + 1)) := by
      rw [List.drop_set_of_lt (by omega)]
      congr 1
      omega
    rw [e] at h1
    simpa [World.setCells, List.append_assoc] using h1
theorem Kp.setCells {S : Nat → Prop} {a : World} {B : Nat} (hB : B < a.heap.size → S B) : ∀ (cs : List Value) (o : Nat) (w : World), Kp S a w → Kp S a (w.setCells B o cs)
  | [], _, _, h => h
  | v :: r, o, _, h => Kp.setCells hB r (o + 1) _ (h.setCell (p := ⟨B, o, none⟩) hB v)
section
variable {P : Program} {w : World} {B : Nat} {t T : TypeId} {vs cs : List Value} {d : TypeDesc}
theorem row_loadVar (hu : P.underlying T = some d) (hd : d.isRow = true) (hi : (P.info? T).map (·.size) = some cs.length) (h : Blk w B t vs) (o : Nat) (hcs : ∀ j, j < cs.length → vs[o + j]? = cs[j]?) :
    (loadVar T ⟨B, o, none⟩).run P w = .ok (.agg cs.toArray) w := run_loadVar_mid w B o T cs d (h.range o cs hcs) hu hd hi
theorem row_set (h : Blk w B t vs) (hl : cs.length = vs.length) : Blk (w.setCells B 0 cs) B t cs := by
  have h2 := Blk.setCells cs 0 w vs h (by omega)
  rw [List.take_zero, Nat.zero_add, List.drop_eq_nil_of_le (by omega)] at h2
  simpa using h2
end
end
section
open Go.RowKit
/-- A slice whose parts are lists of cells f q. -/
def RowsSl {α : Type} (f : α → List Value) (z : α) (c : Nat) (w : World) (v : Value) (qs : List α) : Prop :=
  ((∃ a cap, v = .slice a 0 cap) ∧ qs = []) ∨ ∃ blk off cap, v = .slice (some ⟨blk, off, none⟩) qs.length cap ∧ qs.length ≤ cap ∧ cap ≤ maxLen ∧ ∀ i, i < qs.length → w.rangeAt blk (off + i * c) (f (qs[i]?.getD z))
section
variable {α : Type} {f : α → List Value} {z : α} {c : Nat} {w : World} {v : Value} {qs : List α}
theorem RowsSl.shape (h : RowsSl f z c w v qs) : ∃ y d, v = .slice y qs.length d := by
  rcases h with ⟨⟨a, c, rfl⟩, rfl⟩ | ⟨blk, off, cap, rfl, _⟩
  · exact ⟨a, c, rfl⟩
  · exact ⟨_, _, rfl⟩
theorem RowsSl.kept {w' : World} (h : RowsSl f z c w v qs) (k : Kp Nb w w') : RowsSl f z c w' v qs := by
  rcases h with h | ⟨blk, off, cap, rfl, hc, hm, hr⟩
  · exact .inl h
  · exact .inr ⟨blk, off, cap, rfl, hc, hm, fun i hi j v hv => k.cell (hr i hi j v hv) (fun h => h)⟩
variable {P : Program} {t e : TypeId}
theorem elem_of (ht : P.underlying t = some (.slice e)) : P.elem t = e := by simp [Program.elem, ht]
theorem elem_under (ht : P.underlying t = some (.slice e)) : P.underlying t = some (.slice (P.elem t)) := by rw [elem_of ht]; exact ht
theorem size_of {n : Nat} (hs : (P.info? e).map (·.size) = some n) (w : World) : (sizeOf e).run P w = .ok n w := by
  obtain ⟨i, hi, hz⟩ : ∃ i, P.info? e = some i ∧ i.size = n := by simpa using hs
  simp [Go.sizeOf, typeInfo, hi, hz]
theorem add_mid (blk off n : Nat) : Addr.add ⟨blk, off, none⟩ n = ⟨blk, off + n, none⟩ := by unfold Addr.add; split <;> simp_all
/-- v[n:]. -/
theorem RowsSl.cutL (ht : P.underlying t = some (.slice e)) (hs : (P.info? e).map (·.size) = some c) (h : RowsSl f z c w v qs) (n : Nat) (hn : n ≤ qs.length) :
    ∃ x d, (∀ W, (Instr.slice t v (some (.int .i64 (n : Int))) none none).run P W = .ok (.slice x (qs.length - n) d) W) ∧ RowsSl f z c w (.slice x (qs.length - n) d) (qs.drop n) := by
  obtain ⟨⟨a, d, rfl⟩, rfl⟩ | ⟨blk, off, cap, rfl, hc, hm, hb⟩ := h
  · have h0 : n = 0 := by simpa using hn
    subst h0
    refine ⟨if d = 0 then a else a.map (·.add (0 * c)), d - 0, fun W => ?_, .inl ⟨⟨_, _, rfl⟩, rfl⟩⟩
    rw [run_slice_l W _ _ _ _ (elem_under ht) .i64 _ (by omega) (by omega), elem_of ht, size_of hs]
    rfl
  · refine ⟨if cap = n then some ⟨blk, off, none⟩ else some ⟨blk, off + n * c, none⟩, cap - n, fun W => ?_, ?_⟩
    · rw [run_slice_l W _ _ _ _ (elem_under ht) .i64 _ (by omega) (by omega), elem_of ht, size_of hs]
      show Result.ok (sliced _ _ _ _ _) W = _
      unfold sliced
      rw [Int.toNat_natCast]
      congr 2
      show (if cap = n then some (⟨blk, off, none⟩ : Addr) else some (Addr.add ⟨blk, off, none⟩ (n * c))) = _
      rw [add_mid]
    · have hl : (qs.drop n).length = qs.length - n := List.length_drop
      by_cases hcap : cap = n
      · refine .inl ⟨⟨if cap = n then some ⟨blk, off, none⟩ else some ⟨blk, off + n * c, none⟩, cap - n, ?_⟩, List.drop_eq_nil_of_le (by omega)⟩
        rw [show qs.length - n = 0 from by omega]
      · refine .inr ⟨blk, off + n * c, cap - n, ?_, by omega, by omega, fun i hi => ?_⟩
        · rw [if_neg hcap, hl]
        · rw [List.getElem?_drop, show off + n * c + i * c = off + (n + i) * c from by rw [Nat.add_mul]; omega]
          exact hb (n + i) (by omega)
/-- v[:n]. -/
theorem RowsSl.cutH (ht : P.underlying t = some (.slice e)) (hs : (P.info? e).map (·.size) = some c) (h : RowsSl f z c w v qs) (n : Nat) (hn : n ≤ qs.length) :
    ∃ x d, (∀ W, (Instr.slice t v none (some (.int .i64 (n : Int))) none).run P W = .ok (.slice x n d) W) ∧ RowsSl f z c w (.slice x n d) (qs.take n) := by
  obtain ⟨⟨a, d, rfl⟩, rfl⟩ | ⟨blk, off, cap, rfl, hc, hm, hb⟩ := h
  · have h0 : n = 0 := by simpa using hn
    subst h0
    refine ⟨if d = 0 then a else a.map (·.add (0 * c)), d - 0, fun W => ?_, .inl ⟨⟨_, _, rfl⟩, rfl⟩⟩
    rw [run_slice_h W _ _ _ _ (elem_under ht) .i64 _ (by omega) (by omega), elem_of ht, size_of hs]
    rfl
  · refine ⟨some ⟨blk, off, none⟩, cap, fun W => ?_, ?_⟩
    · rw [run_slice_h W _ _ _ _ (elem_under ht) .i64 _ (by omega) (by omega), elem_of ht, size_of hs]
      show Result.ok (sliced _ _ _ _ _) W = _
      unfold sliced
      congr 2
      split <;> simp [Addr.add]
    · have hl : (qs.take n).length = n := by rw [List.length_take]; omega
      refine .inr ⟨blk, off, cap, ?_, by omega, hm, fun i hi => ?_⟩
      · rw [hl]
      · rw [hl] at hi
        rw [List.getElem?_take_of_lt hi]
        exact hb i (by omega)
end
end
section
open Go.ChangeShapes Go.WideShapes Go.ChangeAt Go.RowKit
section
variable {P : Program} {H : Type} {enc : TypeId × Value → H} {W : World} {fuel : Nat} {t e : TypeId} {cs : List Value} {x : DataW H × List MemPlace}
theorem chunk_one {α : Type} {l : List α} {i : Nat} {y : α} (h : (l.drop i).take 1 = [y]) : l[i]? = some y := by
  have h1 : ((l.drop i).take 1)[0]? = some y := by rw [h]; rfl
  rw [List.getElem?_take_of_lt (by decide), List.getElem?_drop, Nat.add_zero] at h1
  exact h1
theorem open_array {k : IntKind} {n : Nat} (ht : P.underlying t = some (.array n e)) (he : P.underlying e = some (.int k)) (hc : P.cellsOf e = 1) (hn : P.cellsOf t = n)
    (h : DataW.trod enc P W 0 (fun _ => true) true fuel t cs = some x) : ∃ zs : List Int, cs = zs.map (Value.int k) ∧ zs.length = n ∧ ∀ z ∈ zs, (Lit.int k z).wf = true := by
  obtain ⟨xs, m, _, _, hl, hx, hel⟩ := DataW.trod_array ht h
  rw [hn] at hl
  have each : ∀ i, i < n → ∃ z : Int, cs[i]? = some (.int k z) ∧ (Lit.int k z).wf = true := by
    intro i hi
    have h1 := hel i hi
    rw [hc, Nat.mul_one, List.getElem?_eq_getElem (by omega)] at h1
    obtain ⟨z, hz, _, hw⟩ := DataW.trod_int he h1
    exact ⟨z, chunk_one hz, hw⟩
  obtain ⟨q, hq⟩ := Deep.choose_lt each
  refine ⟨(List.range n).map q, ?_, by simp, ?_⟩
  · apply List.ext_getElem?
    intro i
    rcases Nat.lt_or_ge i n with hi | hi
    · rw [(hq i hi).1]; simp [hi]
    · rw [List.getElem?_eq_none (by omega), List.getElem?_eq_none (by simpa using hi)]
  · intro z hz
    obtain ⟨i, hi, rfl⟩ := List.mem_map.1 hz
    exact (hq i (List.mem_range.1 hi)).2
theorem open_rows {α : Type} (f : α → List Value) (z : α) (Q : α → Prop) (c : Nat) (hce : P.cellsOf e = c) (hc : 0 < c) (ho : ∀ fuel cs x, DataW.trod enc P W 0 (fun _ => true) true fuel e cs = some x → ∃ q, Q q ∧ cs = f q)
    (ht : P.underlying t = some (.slice e)) {v : Value} (hf : DataW.trod enc P W 0 (fun _ => true) true fuel t [v] = some x) : ∃ qs : List α, (∀ q ∈ qs, Q q) ∧ RowsSl f z c W v qs := by
  rcases Deep.open_slice ht hf with ⟨hcs, _⟩ | ⟨a, len, cap, m, n, D, Pl, hcs, _, hl, hm, hmm, _, hel⟩
  · simp at hcs
    subst hcs
    exact ⟨[], by simp, .inl ⟨⟨_, _, rfl⟩, rfl⟩⟩
  · simp at hcs
    subst hcs
    have hmc : m = cap := by simpa using hmm
    subst hmc
    by_cases hn : len = 0
    · subst hn
      exact ⟨[], by simp, .inl ⟨⟨_, _, rfl⟩, rfl⟩⟩
    · have each : ∀ i, i < m → ∃ q : α, Q q ∧ (f q).length = c ∧ ∀ j, j < c → W.cell? (a.add (i * c + j)) = (f q)[j]? := by
        intro i hi
        obtain ⟨cs', h1, h2⟩ := hel i hi
        rw [hce] at h1
        obtain ⟨_, hlen, hcell⟩ := World.cells?_some h1
        obtain ⟨q, hQ, rfl⟩ := ho _ _ _ h2
        refine ⟨q, hQ, hlen, fun j hj => ?_⟩
        have := hcell j hj
        rw [Deep.add_add] at this
        exact this
      haveI : Inhabited α := ⟨z⟩
      obtain ⟨q, hq⟩ := Deep.choose_lt each
      obtain ⟨blk, off, spot⟩ := a
      have hspot : spot = none := by
        have h0 := hq 0 (by omega)
        have h1 := h0.2.2 0 hc
        rw [List.getElem?_eq_getElem (by rw [h0.2.1]; exact hc)] at h1
        have := World.cell?_spot h1
        simpa [Addr.add] using this
      subst hspot
      have hget : ∀ i, i < len → ((List.range len).map q)[i]?.getD z = q i := fun i hi => by simp [hi]
      refine ⟨(List.range len).map q, ?_, .inr ⟨blk, off, m, by simp, by simpa using hl, hm, fun i hi => ?_⟩⟩
      · intro y hy
        obtain ⟨i, hi, rfl⟩ := List.mem_map.1 hy
        exact (hq i (by have := List.mem_range.1 hi; omega)).1
      · have hi' : i < len := by simpa using hi
        rw [hget i hi']
        intro j v hv
        have hq' := hq i (by omega)
        have hj : j < c := by have := (List.getElem?_eq_some_iff.1 hv).1; rw [hq'.2.1] at this; exact this
        have := hq'.2.2 j hj
        rw [add_none, hv] at this
        rw [Nat.add_assoc]
        exact this
end
end
section
open Go.RowKit
def rotl (x : Int) (k : Nat) : Int := bits .or .u64 (IntKind.u64.wrap (x * 2 ^ k)) (x / 2 ^ (64 - k))
structure V4 where
  a : Int
  b : Int
  c : Int
  d : Int
def rnd (v : V4) : V4 :=
  let a := (v.a + v.b) % 18446744073709551616
  let b := bits .xor .u64 (rotl v.b 13) a
  let a := rotl a 32
  let c := (v.c + v.d) % 18446744073709551616
  let d := bits .xor .u64 (rotl v.d 16) c
  let a := (a + d) % 18446744073709551616
  let d := bits .xor .u64 (rotl d 21) a
  let c := (c + b) % 18446744073709551616
  let b := bits .xor .u64 (rotl b 17) c
  let c := rotl c 32
  ⟨a, b, c, d⟩
def rnds : Nat → V4 → V4
  | 0, v => v
  | n + 1, v => rnd (rnds n v)
/-- A sum of bytes: its four numbers, the bytes that make no whole word yet, how many bytes there are. -/
structure Sp where
  v : V4
  rest : Int
  n : Nat
def Sp.cells (s : Sp) : List Value := [.int .u64 s.v.a, .int .u64 s.v.b, .int .u64 s.v.c, .int .u64 s.v.d, .int .u64 s.rest, .int .i64 s.n]
def Sp.xorD (s : Sp) (x : Int) : Sp := { s with v := { s.v with d := bits .xor .u64 s.v.d x } }
def Sp.xorA (s : Sp) (x : Int) : Sp := { s with v := { s.v with a := bits .xor .u64 s.v.a x } }
def Sp.xorC (s : Sp) (x : Int) : Sp := { s with v := { s.v with c := bits .xor .u64 s.v.c x } }
def Sp.rounds (s : Sp) (t : Nat) : Sp := { s with v := rnds t s.v }
def Sp.count (s : Sp) (k : Nat) : Sp := { s with n := s.n + k }
def Sp.left (s : Sp) (x : Int) : Sp := { s with rest := x }
def Sp.word (s : Sp) (x : Int) : Sp := ((s.xorD x).rounds 2).xorA x
def Sp.put (s : Sp) (x : Int) : Int := bits .or .u64 s.rest (IntKind.u64.wrap (x * 2 ^ (8 * (s.n % 8))))
def Sp.single (s : Sp) (x : Int) : Sp :=
  if (s.n + 1) % 8 = 0 then (((s.left (s.put x)).count 1).word (s.put x)).left 0 else (s.left (s.put x)).count 1
def SipAt (w : World) (B : Nat) (s : Sp) : Prop := Blk w B 150 s.cells
theorem SipAt.facts {w : World} {B : Nat} {s : Sp} (h : SipAt w B s) :
    w.cell? ⟨B, 0, none⟩ = some (.int .u64 s.v.a) ∧ w.cell? ⟨B, 1, none⟩ = some (.int .u64 s.v.b) ∧ w.cell? ⟨B, 2, none⟩ = some (.int .u64 s.v.c) ∧ w.cell? ⟨B, 3, none⟩ = some (.int .u64 s.v.d) ∧
      w.cell? ⟨B, 4, none⟩ = some (.int .u64 s.rest) ∧ w.cell? ⟨B, 5, none⟩ = some (.int .i64 s.n) ∧ ∀ i, w.frozen? ⟨B, i, none⟩ = false :=
  ⟨Blk.cell h 0, Blk.cell h 1, Blk.cell h 2, Blk.cell h 3, Blk.cell h 4, Blk.cell h 5, Blk.frozen h⟩
theorem SipAt.setA {w : World} {B : Nat} {s : Sp} (h : SipAt w B s) (x : Int) : SipAt (w.setCell ⟨B, 0, none⟩ (.int .u64 (bits .xor .u64 s.v.a x))) B (s.xorA x) := Blk.set h 0 _
theorem SipAt.setC {w : World} {B : Nat} {s : Sp} (h : SipAt w B s) (x : Int) : SipAt (w.setCell ⟨B, 2, none⟩ (.int .u64 (bits .xor .u64 s.v.c x))) B (s.xorC x) := Blk.set h 2 _
theorem SipAt.setD {w : World} {B : Nat} {s : Sp} (h : SipAt w B s) (x : Int) : SipAt (w.setCell ⟨B, 3, none⟩ (.int .u64 (bits .xor .u64 s.v.d x))) B (s.xorD x) := Blk.set h 3 _
theorem SipAt.setRest {w : World} {B : Nat} {s : Sp} (h : SipAt w B s) (x : Int) : SipAt (w.setCell ⟨B, 4, none⟩ (.int .u64 x)) B (s.left x) := Blk.set h 4 _
theorem SipAt.setN {w : World} {B : Nat} {s : Sp} (h : SipAt w B s) (k : Nat) (m : Int) (hm : m = (s.n : Int) + k) : SipAt (w.setCell ⟨B, 5, none⟩ (.int .i64 m)) B (s.count k) := by subst hm; exact Blk.set h 5 _
theorem SipAt.kept {w w' : World} {S : Nat → Prop} {B : Nat} {s : Sp} (h : SipAt w B s) (k : Kp S w w') (hn : ¬ S B) : SipAt w' B s := Blk.kept h k hn
theorem SipAt.lt {w : World} {B : Nat} {s : Sp} (h : SipAt w B s) : B < w.heap.size := Blk.lt h
theorem SipAt.setRounds {w : World} {B : Nat} {s : Sp} (h : SipAt w B s) (t : Nat) :
    SipAt ((((w.setCell ⟨B, 0, none⟩ (.int .u64 (rnds t s.v).a)).setCell ⟨B, 1, none⟩ (.int .u64 (rnds t s.v).b)).setCell ⟨B, 2, none⟩ (.int .u64 (rnds t s.v).c)).setCell ⟨B, 3, none⟩ (.int .u64 (rnds t s.v).d)) B (s.rounds t) := by
  have e : (s.rounds t).v = rnds t s.v := rfl
  have e2 : (s.rounds t).rest = s.rest := rfl
  have e3 : (s.rounds t).n = s.n := rfl
  unfold SipAt Sp.cells
  rw [e, e2, e3]
  generalize rnds t s.v = u
  exact (((Blk.set h 0 _).set 1 _).set 2 _).set 3 _
def ByAt (w : World) (blk off : Nat) (zs : List Int) : Prop := ∀ i, i < zs.length → w.cell? ⟨blk, off + i, none⟩ = some (.int .u8 (zs[i]?.getD 0))
def IsBytes (zs : List Int) : Prop := ∀ i : Nat, 0 ≤ zs[i]?.getD 0 ∧ zs[i]?.getD 0 < 256
def loadTo (zs : List Int) : Nat → Int
  | 0 => 0
  | k + 1 => bits .or .u64 (loadTo zs k) (IntKind.u64.wrap (zs[k]?.getD 0 * 2 ^ (8 * k)))
def Sp.write (s : Sp) (zs : List Int) : Sp := zs.foldl Sp.single s
def Sp.Ok (s : Sp) : Prop := s.n % 8 = 0 → s.rest = 0
theorem Sp.single_n (s : Sp) (x : Int) : (s.single x).n = s.n + 1 := by unfold Sp.single; split <;> rfl
theorem Sp.single_ok (s : Sp) (x : Int) : (s.single x).Ok := by
  unfold Sp.Ok
  rw [Sp.single_n]
  intro h
  unfold Sp.single
  rw [if_pos h]; rfl
theorem Sp.write_append (s : Sp) (a b : List Int) : s.write (a ++ b) = (s.write a).write b := List.foldl_append
theorem Sp.write_n (zs : List Int) : ∀ s : Sp, (s.write zs).n = s.n + zs.length := by
  induction zs with
  | nil => intro s; rfl
  | cons x r ih => intro s; show ((s.single x).write r).n = _; rw [ih, Sp.single_n, List.length_cons]; omega
theorem Sp.write_ok (zs : List Int) : ∀ s : Sp, s.Ok → (s.write zs).Ok := by
  induction zs with
  | nil => intro s h; exact h
  | cons x r ih => intro s _; exact ih _ (s.single_ok x)
theorem take_snoc (zs : List Int) (k : Nat) (h : k < zs.length) : zs.take (k + 1) = zs.take k ++ [zs[k]?.getD 0] := by
  rw [List.take_succ_eq_append_getElem h, List.getElem?_eq_getElem h]; rfl
theorem Sp.write_snoc (s : Sp) (zs : List Int) (k : Nat) (h : k < zs.length) : s.write (zs.take (k + 1)) = (s.write (zs.take k)).single (zs[k]?.getD 0) := by
  rw [take_snoc zs k h, Sp.write_append]; rfl
theorem Sp.write_few (s : Sp) (zs : List Int) (h : 8 ≤ zs.length) (hn : s.n % 8 = 0) (hr : s.rest = 0) : ∀ k, k < 8 → s.write (zs.take k) = (s.left (loadTo zs k)).count k
  | 0, _ => by
    show s = _
    cases s; simp only at hr; subst hr; rfl
  | k + 1, hk => by
    rw [Sp.write_snoc s zs k (by omega), Sp.write_few s zs h hn hr k (by omega)]
    have e : (((s.left (loadTo zs k)).count k).n + 1) % 8 ≠ 0 := by show (s.n + k + 1) % 8 ≠ 0; omega
    have e2 : ((s.left (loadTo zs k)).count k).n % 8 = k := by show (s.n + k) % 8 = k; omega
    unfold Sp.single
    rw [if_neg e]
    unfold Sp.put
    rw [e2]
    rfl
theorem Sp.write_eight (s : Sp) (zs : List Int) (h : 8 ≤ zs.length) (hn : s.n % 8 = 0) (hr : s.rest = 0) : s.write (zs.take 8) = (s.word (loadTo zs 8)).count 8 := by
  rw [Sp.write_snoc s zs 7 (by omega), Sp.write_few s zs h hn hr 7 (by omega)]
  have e : (((s.left (loadTo zs 7)).count 7).n + 1) % 8 = 0 := by show (s.n + 7 + 1) % 8 = 0; omega
  have e2 : ((s.left (loadTo zs 7)).count 7).n % 8 = 7 := by show (s.n + 7) % 8 = 7; omega
  have e3 : ((s.left (loadTo zs 7)).count 7).put (zs[7]?.getD 0) = loadTo zs 8 := by unfold Sp.put; rw [e2]; rfl
  unfold Sp.single
  rw [if_pos e, e3]
  generalize loadTo zs 8 = L
  generalize loadTo zs 7 = M
  obtain ⟨v, rest, n⟩ := s
  simp only at hr
  subst hr
  rfl
theorem Sp.step_eight (s : Sp) (zs : List Int) (q n : Nat) (hl : zs.length = n) (ho : s.Ok) (h8 : 8 ≤ n - q) (hq : (s.n + q) % 8 = 0) :
    ((s.write (zs.take q)).word (loadTo (zs.drop q) 8)).count 8 = s.write (zs.take (q + 8)) := by
  have hn : (s.write (zs.take q)).n = s.n + q := by rw [Sp.write_n, List.length_take, hl]; omega
  have hr : (s.write (zs.take q)).rest = 0 := Sp.write_ok _ _ ho (by rw [hn]; exact hq)
  rw [← Sp.write_eight (s.write (zs.take q)) (zs.drop q) (by rw [List.length_drop, hl]; exact h8) (by rw [hn]; exact hq) hr, ← Sp.write_append, List.take_add]
theorem Sp.word_n (s : Sp) (x : Int) : (s.word x).n = s.n := rfl
theorem Sp.take_n (s : Sp) (zs : List Int) (q n : Nat) (hl : zs.length = n) (hq : q ≤ n) : (s.write (zs.take q)).n = s.n + q := by rw [Sp.write_n, List.length_take, hl]; omega
theorem IsBytes.drop {zs : List Int} (h : IsBytes zs) (q : Nat) : IsBytes (zs.drop q) := by
  intro i; rw [List.getElem?_drop]; exact h (q + i)
theorem ByAt.drop {S : Nat → Prop} {w wr : World} {blk off n : Nat} {zs : List Int} (h : ByAt w blk off zs) (hl : zs.length = n) (hk : Kp S w wr) (hne : ¬ S blk) (q : Nat) (hq : q ≤ n) : ByAt wr blk (off + q) (zs.drop q) := by
  intro i hi
  rw [List.length_drop] at hi
  rw [List.getElem?_drop, Nat.add_assoc]
  exact hk.cell (h (q + i) (by omega)) hne
def Sp.tail (s : Sp) : Int := bits .or .u64 s.rest (IntKind.u64.wrap ((s.n : Int) * 72057594037927936))
def Sp.out (s : Sp) : Int := bits .xor .u64 (bits .xor .u64 (bits .xor .u64 s.v.a s.v.b) s.v.c) s.v.d
def Sp.sum (s : Sp) : Int := (((s.word s.tail).xorC 255).rounds 4).out
def Sp.init (a b : Int) : Sp := ⟨⟨bits .xor .u64 a 8317987319222330741, bits .xor .u64 b 7237128888997146477, bits .xor .u64 a 7816392313619706465, bits .xor .u64 b 8387220255154660723⟩, 0, 0⟩
theorem Sp.init_ok (a b : Int) : (Sp.init a b).Ok := fun _ => rfl
theorem flat_snoc (ps : List (List Int)) (k : Nat) (h : k < ps.length) : (ps.take (k + 1)).flatten = (ps.take k).flatten ++ ps[k]?.getD [] := by
  rw [List.take_succ_eq_append_getElem h, List.getElem?_eq_getElem h, List.flatten_append]; simp
theorem flat_le (ps : List (List Int)) (k : Nat) : (ps.take k).flatten.length ≤ ps.flatten.length := by
  have h : ps.flatten = (ps.take k).flatten ++ (ps.drop k).flatten := by rw [← List.flatten_append, List.take_append_drop]
  rw [h, List.length_append]; omega
def seedA (n : Int) : Int := IntKind.u64.wrap n
def seedB (n : Int) : Int := bits .xor .u64 IntKind.u64.max (IntKind.u64.wrap n)
def hash (a b : Int) (zs : List Int) : Int := ((Sp.init a b).write zs).sum
/-- The i-th byte of a number of 64 bits, the greatest first. -/
def byteOf (h : Int) (i : Nat) : Int := h / 2 ^ (56 - 8 * i) % 256
/-- The bytes of a mark when k rounds are over. -/
def markList (h g : Int) (k : Nat) : List Int := (List.range 16).map fun i => if i < 8 then (if i < k then byteOf h i else 0) else if i - 8 < k then byteOf g (i - 8) else 0
def markCells (h g : Int) (k : Nat) : List Value := (markList h g k).map (Value.int .u8)
def markVal (h g : Int) : Value := .agg (markCells h g 8).toArray
theorem markCells_succ (h g : Int) : ∀ k, k < 8 → ((markCells h g k).set k (.int .u8 (byteOf h k))).set (8 + k) (.int .u8 (byteOf g k)) = markCells h g (k + 1)
  | 0, _ => rfl | 1, _ => rfl | 2, _ => rfl | 3, _ => rfl | 4, _ => rfl | 5, _ => rfl | 6, _ => rfl | 7, _ => rfl
theorem markCells_get (h g : Int) : ∀ k, k < 8 → ∃ u v, (markCells h g k)[k]? = some u ∧ (markCells h g k)[8 + k]? = some v
  | 0, _ => ⟨_, _, rfl, rfl⟩ | 1, _ => ⟨_, _, rfl, rfl⟩ | 2, _ => ⟨_, _, rfl, rfl⟩ | 3, _ => ⟨_, _, rfl, rfl⟩ | 4, _ => ⟨_, _, rfl, rfl⟩ | 5, _ => ⟨_, _, rfl, rfl⟩ | 6, _ => ⟨_, _, rfl, rfl⟩ | 7, _ => ⟨_, _, rfl, rfl⟩
def markA (zs : List Int) : Int := hash (seedA 1) (seedB 1) zs
def markB (zs : List Int) : Int := hash (seedA 2) (seedB 2) zs
def lenOf : Value → Nat | .slice _ n _ => n | _ => 0
end
section
open Go.RowKit
theorem ret_u64 {a b : Int} (h : a = b) : Ending.returned (.int .u64 a) = Ending.returned (.int .u64 b) := by rw [h]
set_option maxHeartbeats 400000 in
theorem rotl_any (x : Int) (k : Int) (w : World) (hk : k = 13 ∨ k = 16 ∨ k = 17 ∨ k = 21 ∨ k = 32) : Calls Tryz.prog 132 #[.int .u64 x, .int .i64 k] w fun e w' => e = .returned (.int .u64 (rotl x k.toNat)) ∧ w = w' := by
  have h13 : bits BinOp.and IntKind.u64 13 63 = 13 := by decide
  have h16 : bits BinOp.and IntKind.u64 16 63 = 16 := by decide
  have h17 : bits BinOp.and IntKind.u64 17 63 = 17 := by decide
  have h21 : bits BinOp.and IntKind.u64 21 63 = 21 := by decide
  have h32 : bits BinOp.and IntKind.u64 32 63 = 32 := by decide
  rcases hk with rfl | rfl | rfl | rfl | rfl
  all_goals
    go_enter Tryz.func132, Tryz.ntmps132
    go_wp2
    go_ret
    exact ⟨rfl, rfl⟩
set_option maxRecDepth 100000 in
set_option maxHeartbeats 400000 in
theorem rounds_any (B : Nat) (s : Sp) (t : Nat) (ht : t < 100) (w : World) (hs : SipAt w B s) :
    Calls Tryz.prog 121 #[.pointer (some ⟨B, 0, none⟩), .int .i64 t] w fun e w' => e = .returned (.tuple #[]) ∧ SipAt w' B (s.rounds t) ∧ Kp (Jb B) w w' := by
  obtain ⟨c0, c1, c2, c3, -, -, hf⟩ := hs.facts
  have HS := hid hs
  clear hs
  go_enter Tryz.func121, Tryz.ntmps121
  go_wp2
  go_quiet (fail)
  go_wp2
  go_loop [4, 5, 6, 7, 25] (fun a b c d i => ∃ k : Nat, k ≤ t ∧ i = .int .i64 k ∧ a = .int .u64 (rnds k s.v).a ∧ b = .int .u64 (rnds k s.v).b ∧ c = .int .u64 (rnds k s.v).c ∧ d = .int .u64 (rnds k s.v).d) (fun _ _ _ _ i => t - (intOf i).toNat)
  case atStart => exact ⟨0, Nat.zero_le _, rfl, rfl, rfl, rfl, rfl⟩
  case round =>
    obtain ⟨k, hk, rfl, rfl, rfl, rfl, rfl⟩ := hrel
    by_cases hlt : k < t
    · go_wp2_with (go_at_call 132; refine (rotl_any _ _ _ (by decide)).mono ?_; rintro e w' ⟨rfl, rfl⟩)
      go_round
      case rel => exact ⟨k + 1, by omega, by go_num, rfl, rfl, rfl, rfl⟩
      case measure => simp [intOf]; omega
    · obtain rfl : k = t := by omega
      go_wp2
      go_end0
      exact ⟨rfl, SipAt.setRounds (Blk.drewN HS.out nq) k, (((((Kp.refl (Jb B) w).drewN nq).set 0 _).set 1 _).set 2 _).set 3 _⟩
set_option maxHeartbeats 400000 in
theorem word_any (B : Nat) (s : Sp) (x : Int) (w : World) (hs : SipAt w B s) :
    Calls Tryz.prog 119 #[.pointer (some ⟨B, 0, none⟩), .int .u64 x] w fun e w' => e = .returned (.tuple #[]) ∧ SipAt w' B (s.word x) ∧ Kp (Jb B) w w' := by
  obtain ⟨-, -, -, c3, -, -, hf⟩ := hs.facts
  have HS := hid hs
  clear hs
  go_enter Tryz.func119, Tryz.ntmps119
  go_wp2_with fail
  refine (rounds_any B (s.xorD x) 2 (by decide) _ (HS.out.setD x)).mono ?_
  rintro e w1 ⟨rfl, h1, k1⟩
  obtain ⟨c0, -, -, -, -, -, hf1⟩ := SipAt.facts h1
  have H1 := hid h1
  have K1 := hid k1
  clear h1 k1 c3 hf
  go_wp2
  go_end0
  exact ⟨rfl, H1.out.setA x, (((Kp.refl (Jb B) w).set 3 _).trans K1.out (fun _ _ h => h)).set 0 _⟩
end
section
open Go.RowKit
set_option maxRecDepth 100000 in
set_option maxHeartbeats 400000 in
theorem single_word (B : Nat) (s : Sp) (x : Int) (w : World) (hs : SipAt w B s) (hn : s.n < 4611686018427387904) (hx : 0 ≤ x) (hx2 : x < 256) (hz : (s.n + 1) % 8 = 0) :
    Calls Tryz.prog 118 #[.pointer (some ⟨B, 0, none⟩), .int .u8 x] w fun e w' => e = .returned (.tuple #[]) ∧ SipAt w' B (s.single x) ∧ Kp (Jb B) w w' := by
  obtain ⟨-, -, -, -, c4, c5, hf⟩ := hs.facts
  have HS := hid hs
  clear hs
  have h8 : (0 : Int) ≤ 8 * ((s.n : Int) % 8) := by omega
  have hz' : (((s.n : Int) + 1) % 8 == 0) = true := by rw [beq_iff_eq]; omega
  have HZ := hid hz
  clear hz
  go_enter Tryz.func118, Tryz.ntmps118
  go_wp2
  go_region
  go_wp2_with fail
  refine (word_any B ((s.left (s.put x)).count 1) _ _ (Blk.drew ((HS.out.setRest (s.put x)).setN 1 _ rfl))).mono ?_
  rintro e w1 ⟨rfl, h1, k1⟩
  obtain ⟨-, -, -, -, d4, -, hf1⟩ := SipAt.facts h1
  have H1 := hid h1
  have K1 := hid k1
  clear h1 k1 c4 c5 hf
  go_wp2
  go_end0
  refine ⟨rfl, ?_, (((((Kp.refl (Jb B) w).set 4 _).set 5 _).drew).trans K1.out (fun _ _ h => h)).set 4 _⟩
  unfold Sp.single
  rw [if_pos HZ.out]
  exact H1.out.setRest 0
set_option maxRecDepth 100000 in
set_option maxHeartbeats 400000 in
theorem single_rest (B : Nat) (s : Sp) (x : Int) (w : World) (hs : SipAt w B s) (hn : s.n < 4611686018427387904) (hx : 0 ≤ x) (hx2 : x < 256) (hz : ¬ (s.n + 1) % 8 = 0) :
    Calls Tryz.prog 118 #[.pointer (some ⟨B, 0, none⟩), .int .u8 x] w fun e w' => e = .returned (.tuple #[]) ∧ SipAt w' B (s.single x) ∧ Kp (Jb B) w w' := by
  obtain ⟨-, -, -, -, c4, c5, hf⟩ := hs.facts
  have HS := hid hs
  clear hs
  have h8 : (0 : Int) ≤ 8 * ((s.n : Int) % 8) := by omega
  have hz' : (((s.n : Int) + 1) % 8 == 0) = false := by rw [beq_eq_false_iff_ne]; omega
  have HZ := hid hz
  clear hz
  go_enter Tryz.func118, Tryz.ntmps118
  go_wp2
  go_region
  go_wp2_with fail
  go_end0
  refine ⟨rfl, ?_, ((((Kp.refl (Jb B) w).set 4 _).set 5 _).drew)⟩
  unfold Sp.single
  rw [if_neg HZ.out]
  exact Blk.drew ((HS.out.setRest (s.put x)).setN 1 _ rfl)
theorem single_any (B : Nat) (s : Sp) (x : Int) (w : World) (hs : SipAt w B s) (hn : s.n < 4611686018427387904) (hx : 0 ≤ x) (hx2 : x < 256) :
    Calls Tryz.prog 118 #[.pointer (some ⟨B, 0, none⟩), .int .u8 x] w fun e w' => e = .returned (.tuple #[]) ∧ SipAt w' B (s.single x) ∧ Kp (Jb B) w w' := by
  by_cases hz : (s.n + 1) % 8 = 0
  · exact single_word B s x w hs hn hx hx2 hz
  · exact single_rest B s x w hs hn hx hx2 hz
set_option maxHeartbeats 400000 in
theorem load_any (blk off n cap : Nat) (zs : List Int) (w : World) (hl : zs.length = n) (h8 : 8 ≤ n) (hc : n ≤ cap) (hm : cap ≤ maxLen) (hz : IsBytes zs) (hb : ByAt w blk off zs) :
    Calls Tryz.prog 120 #[.slice (some ⟨blk, off, none⟩) n cap] w fun e w' => e = .returned (.int .u64 (loadTo zs 8)) ∧ w = w' := by
  unfold maxLen at hm
  have HB := hid hb
  have HZ := hid hz
  clear hb hz
  go_enter Tryz.func120, Tryz.ntmps120
  go_wp2
  go_loop [3, 9] (fun v i => ∃ k : Nat, k ≤ 8 ∧ i = .int .i64 k ∧ v = .int .u64 (loadTo zs k)) (fun _ i => 8 - (intOf i).toNat)
  case atStart => exact ⟨0, Nat.zero_le _, rfl, rfl⟩
  case round =>
    obtain ⟨k, hk, rfl, rfl⟩ := hrel
    by_cases hlt : k < 8
    · have hcell := HB.out k (by omega)
      have hx := HZ.out k
      have hsh : (0 : Int) ≤ 8 * (k : Int) := by omega
      go_wp2
      go_round
      case rel => exact ⟨k + 1, by omega, by go_num, rfl⟩
      case measure => simp [intOf]; omega
    · obtain rfl : k = 8 := by omega
      go_wp2
      go_ret
      exact ⟨rfl, rfl⟩
end
section
open Go.RowKit
def WrA (w : World) (B blk off n cap : Nat) (s : Sp) (zs : List Int) (v : Value) (wr : World) : Prop :=
  ∃ k off' : Nat, k ≤ n ∧ v = .slice (some ⟨blk, off', none⟩) (n - k) (cap - k) ∧ Hid (k < n → off' = off + k) ∧ Hid (SipAt wr B (s.write (zs.take k))) ∧ Hid (Kp (Jb B) w wr)
def WrB (w : World) (B blk off n cap : Nat) (s : Sp) (zs : List Int) (v : Value) (wr : World) : Prop :=
  ∃ k off' : Nat, k ≤ n ∧ v = .slice (some ⟨blk, off', none⟩) (n - k) (cap - k) ∧ Hid (k < n → off' = off + k) ∧ Hid (k = n ∨ (s.n + k) % 8 = 0) ∧ Hid (SipAt wr B (s.write (zs.take k))) ∧ Hid (Kp (Jb B) w wr)
def WrC (w : World) (B n q : Nat) (s : Sp) (zs : List Int) (v : Value) (wr : World) : Prop :=
  ∃ j : Nat, j ≤ n - q ∧ v = .int .i64 j ∧ Hid (SipAt wr B (s.write (zs.take (q + j)))) ∧ Hid (Kp (Jb B) w wr)
set_option maxRecDepth 100000 in
set_option maxHeartbeats 1000000 in
theorem write_some (B blk off n cap : Nat) (s : Sp) (zs : List Int) (w : World) (hs : SipAt w B s) (ho : s.Ok) (hsz : s.n + n < 4611686018427387904) (hl : zs.length = n) (hc : n ≤ cap) (hm : cap ≤ maxLen) (hz : IsBytes zs) (hb : ByAt w blk off zs) (hne : 0 < n → blk ≠ B) :
    Calls Tryz.prog 105 #[.pointer (some ⟨B, 0, none⟩), .slice (some ⟨blk, off, none⟩) n cap] w fun e w' => e = .returned (.tuple #[]) ∧ SipAt w' B (s.write zs) ∧ Kp (Jb B) w w' := by
  unfold maxLen at hm
  have HB := hid hb
  have HZ := hid hz
  have HS := hid hs
  have HO := hid ho
  have HL := hid hl
  clear hb hz hs ho hl
  go_enter Tryz.func105, Tryz.ntmps105
  go_wp2
  go_loopw [1] (WrA w B blk off n cap s zs) (fun v _ => lenOf v)
  case atStart => exact ⟨0, off, Nat.zero_le _, rfl, fun _ => rfl, HS.out, Kp.refl _ _⟩
  case round =>
    obtain ⟨k, off', hk, rfl, hoff, hst, hkp⟩ := hrel
    by_cases hlt : k < n ∧ ¬ (s.n + k) % 8 = 0
    · obtain ⟨hlt, h8⟩ := hlt
      have hoff' := hoff.out hlt
      subst hoff'
      clear hoff
      have hcell := hkp.out.cell (HB.out k (by rw [HL.out]; exact hlt)) (hne (by omega))
      obtain ⟨-, -, -, -, -, c5, hf⟩ := SipAt.facts hst.out
      rw [Sp.take_n s zs k n HL.out hk] at c5
      have hx := HZ.out k
      have g1 : (0 : Int) < ((n - k : Nat) : Int) := by omega
      have g2 : (((s.n + k : Nat) : Int) % 8 != 0) = true := by rw [bne_iff_ne]; omega
      by_cases hcap : cap - k = 1
      · have hn1 : n - k = 1 := by omega
        go_wp2_with fail
        refine (single_any B (s.write (zs.take k)) _ _ hst.out (by rw [Sp.take_n s zs k n HL.out hk]; omega) hx.1 hx.2).mono ?_
        rintro e w1 ⟨rfl, h2, k2⟩
        have hR : WrA w B blk off n cap s zs (.slice (some ⟨blk, off + k, none⟩) 0 0) w1 := ⟨k + 1, off + k, by omega, by rw [show n - (k + 1) = 0 from by omega, show cap - (k + 1) = 0 from by omega], fun h => by omega, by rw [Sp.write_snoc s zs k (by rw [HL.out]; exact hlt)]; exact h2, hkp.out.trans k2 (fun _ _ h => h)⟩
        have hM : lenOf (.slice (some ⟨blk, off + k, none⟩) 0 0) < lenOf (.slice (some ⟨blk, off + k, none⟩) (n - k) (cap - k)) := by simp [lenOf]; omega
        have HR := hid hR
        have HM := hid hM
        clear h2 k2 c5 hf hcell hR hM
        go_wp2
        first
          | exact ⟨HR.out, HM.out⟩
          | (go_roundw
             case rel => exact HR.out
             case measure => exact HM.out)
      · have g3 : 1 < cap - k := by omega
        go_wp2_with fail
        refine (single_any B (s.write (zs.take k)) _ _ hst.out (by rw [Sp.take_n s zs k n HL.out hk]; omega) hx.1 hx.2).mono ?_
        rintro e w1 ⟨rfl, h2, k2⟩
        have hR : WrA w B blk off n cap s zs (.slice (some ⟨blk, off + k + 1, none⟩) (n - k - 1) (cap - k - 1)) w1 := ⟨k + 1, off + k + 1, by omega, by rw [show n - (k + 1) = n - k - 1 from by omega, show cap - (k + 1) = cap - k - 1 from by omega], fun h => by omega, by rw [Sp.write_snoc s zs k (by rw [HL.out]; exact hlt)]; exact h2, hkp.out.trans k2 (fun _ _ h => h)⟩
        have hM : lenOf (.slice (some ⟨blk, off + k + 1, none⟩) (n - k - 1) (cap - k - 1)) < lenOf (.slice (some ⟨blk, off + k, none⟩) (n - k) (cap - k)) := by simp [lenOf]; omega
        have HR := hid hR
        have HM := hid hM
        clear h2 k2 c5 hf hcell hR hM
        go_wp2
        first
          | exact ⟨HR.out, HM.out⟩
          | (go_roundw
             case rel => exact HR.out
             case measure => exact HM.out)
    · have hst2 : Hid (k = n ∨ (s.n + k) % 8 = 0) := by
        by_cases e : k = n
        · exact .inl e
        · exact .inr (by omega)
      obtain ⟨-, -, -, -, -, c5, hf⟩ := SipAt.facts hst.out
      rw [Sp.take_n s zs k n HL.out hk] at c5
      have hw : n - k = 0 ∨ ((0 : Int) < ((n - k : Nat) : Int) ∧ ((((s.n : Int) + k) % 8 != 0) = false)) := by
        by_cases hkn : k = n
        · exact .inl (by omega)
        · exact .inr ⟨by omega, by rw [bne_eq_false_iff_eq]; omega⟩
      clear hlt
      rcases hw with g1 | ⟨g1, g2⟩
      all_goals
        go_wp2
        try simp only [g2]
        clear c5 hf
        try clear g2
        clear g1
        go_loopw [1] (WrB w B blk off n cap s zs) (fun v _ => lenOf v)
        case atStart => exact ⟨k, off', hk, rfl, hoff, hst2, hst, hkp⟩
        case round =>
          clear hst hkp hst2 hoff hk
          obtain ⟨q, off2, hq, rfl, hoff, hst2, hst, hkp⟩ := hrel
          by_cases h8 : 8 ≤ n - q
          · have hoff' := hoff.out (by omega)
            subst hoff'
            have g1 : (8 : Int) ≤ ((n - q : Nat) : Int) := by omega
            have hq8 : Hid ((s.n + q) % 8 = 0) := hst2.out.resolve_left (by omega)
            have HD := hid (show (zs.drop q).length = n - q by rw [List.length_drop, HL.out])
            have HY := hid (ByAt.drop HB.out HL.out hkp.out (hne (by omega)) q hq)
            have HF := hid (Sp.step_eight s zs q n HL.out HO.out h8 hq8.out)
            go_wp2_with fail
            refine (load_any blk (off + q) (n - q) (cap - q) (zs.drop q) _ HD.out h8 (by omega) (by unfold maxLen; omega) (HZ.out.drop q) HY.out).mono ?_
            rintro e w1 ⟨rfl, rfl⟩
            go_wp2_with fail
            refine (word_any B _ _ _ hst.out).mono ?_
            rintro e w2 ⟨rfl, h2, k2⟩
            obtain ⟨-, -, -, -, -, d5, hf⟩ := SipAt.facts h2
            rw [Sp.word_n, Sp.take_n s zs q n HL.out hq] at d5
            have hS3 : SipAt (w2.setCell ⟨B, 5, none⟩ (.int .i64 ((s.n : Int) + q + 8))) B (s.write (zs.take (q + 8))) := by
              rw [← HF.out]; exact h2.setN 8 _ (by rw [Sp.word_n, Sp.take_n s zs q n HL.out hq]; push_cast; rfl)
            have hK3 : Kp (Jb B) w (w2.setCell ⟨B, 5, none⟩ (.int .i64 ((s.n : Int) + q + 8))) := (hkp.out.trans k2 (fun _ _ h => h)).set 5 _
            by_cases hcap : cap - q = 8
            · have hn8 : n - q = 8 := by omega
              have HR := hid (show WrB w B blk off n cap s zs (.slice (some ⟨blk, off + q, none⟩) 0 0) (w2.setCell ⟨B, 5, none⟩ (.int .i64 ((s.n : Int) + q + 8))) from ⟨q + 8, off + q, by omega, by rw [show n - (q + 8) = 0 from by omega, show cap - (q + 8) = 0 from by omega], fun h => by omega, .inl (by omega), hS3, hK3⟩)
              have HM := hid (show lenOf (.slice (some ⟨blk, off + q, none⟩) 0 0) < lenOf (.slice (some ⟨blk, off + q, none⟩) (n - q) (cap - q)) from by simp [lenOf]; omega)
              clear h2 k2 hS3 hK3
              go_wp2
              first
                | exact ⟨HR.out, HM.out⟩
                | (go_roundw
                   case rel => exact HR.out
                   case measure => exact HM.out)
            · have g3 : 8 < cap - q := by omega
              have HR := hid (show WrB w B blk off n cap s zs (.slice (some ⟨blk, off + q + 8, none⟩) (n - q - 8) (cap - q - 8)) (w2.setCell ⟨B, 5, none⟩ (.int .i64 ((s.n : Int) + q + 8))) from ⟨q + 8, off + q + 8, by omega, by rw [show n - (q + 8) = n - q - 8 from by omega, show cap - (q + 8) = cap - q - 8 from by omega], fun h => by omega, .inr (by have := hq8.out; omega), hS3, hK3⟩)
              have HM := hid (show lenOf (.slice (some ⟨blk, off + q + 8, none⟩) (n - q - 8) (cap - q - 8)) < lenOf (.slice (some ⟨blk, off + q, none⟩) (n - q) (cap - q)) from by simp [lenOf]; omega)
              clear h2 k2 hS3 hK3
              go_wp2
              first
                | exact ⟨HR.out, HM.out⟩
                | (go_roundw
                   case rel => exact HR.out
                   case measure => exact HM.out)
          · go_wp2
            go_loopw [44] (WrC w B n q s zs) (fun i _ => n - q - (intOf i).toNat)
            case atStart => exact ⟨0, Nat.zero_le _, rfl, hst, hkp⟩
            case round =>
              clear hst hkp hst2
              obtain ⟨j, hj, rfl, hst, hkp⟩ := hrel
              by_cases hlt : j < n - q
              · have hoff' := hoff.out (by omega)
                subst hoff'
                have hcell := hkp.out.cell (HB.out (q + j) (by rw [HL.out]; omega)) (hne (by omega))
                rw [← Nat.add_assoc] at hcell
                have hx := HZ.out (q + j)
                have hlt2 : (j : Int) < ((n - q : Nat) : Int) := by omega
                go_wp2_with fail
                refine (single_any B (s.write (zs.take (q + j))) _ _ hst.out (by rw [Sp.take_n s zs (q + j) n HL.out (by omega)]; omega) hx.1 hx.2).mono ?_
                rintro e w1 ⟨rfl, h2, k2⟩
                have HR := hid (show WrC w B n q s zs (.int .i64 ((j : Int) + 1)) w1 from ⟨j + 1, by omega, by go_num, by unfold Hid; rw [show q + (j + 1) = (q + j) + 1 from rfl, Sp.write_snoc s zs (q + j) (by rw [HL.out]; omega)]; exact h2, hkp.out.trans k2 (fun _ _ h => h)⟩)
                clear h2 k2 hcell
                go_wp2
                go_roundw
                case rel => exact HR.out
                case measure => simp [intOf]; omega
              · obtain rfl : j = n - q := by omega
                go_wp2
                go_end0
                refine ⟨rfl, ?_, hkp.out⟩
                have := hst.out
                rw [show q + (n - q) = n from by omega, List.take_of_length_le (by rw [HL.out]; exact Nat.le_refl _)] at this
                exact this
/-- A slice of bytes as a value: nil, or its cells in a block that S doesn't hold of. -/
def BySl (S : Nat → Prop) (w : World) (v : Value) (zs : List Int) : Prop :=
  IsBytes zs ∧ (((∃ a cap, v = .slice a 0 cap) ∧ zs = []) ∨ ∃ blk off cap, v = .slice (some ⟨blk, off, none⟩) zs.length cap ∧ zs.length ≤ cap ∧ cap ≤ maxLen ∧ ByAt w blk off zs ∧ (0 < zs.length → ¬ S blk))
theorem BySl.kept {S S' : Nat → Prop} {w w' : World} {v : Value} {zs : List Int} (h : BySl S w v zs) (k : Kp S' w w') (hs : ∀ i, S' i → S i) : BySl S w' v zs := by
  obtain ⟨hz, h⟩ := h
  refine ⟨hz, ?_⟩
  rcases h with h | ⟨blk, off, cap, hv, hc, hm, hb, hn⟩
  · exact .inl h
  · exact .inr ⟨blk, off, cap, hv, hc, hm, fun i hi => k.cell (hb i hi) (fun h' => hn (by omega) (hs _ h')), hn⟩
theorem BySl.mono {S S' : Nat → Prop} {w : World} {v : Value} {zs : List Int} (h : BySl S w v zs) (hs : ∀ i, S' i → S i) : BySl S' w v zs := by
  obtain ⟨hz, h⟩ := h
  refine ⟨hz, ?_⟩
  rcases h with h | ⟨blk, off, cap, hv, hc, hm, hb, hn⟩
  · exact .inl h
  · exact .inr ⟨blk, off, cap, hv, hc, hm, hb, fun h1 h2 => hn h1 (hs _ h2)⟩
set_option maxRecDepth 100000 in
set_option maxHeartbeats 400000 in
theorem write_nil (B : Nat) (s : Sp) (a : Option Addr) (cap : Nat) (w : World) (hs : SipAt w B s) :
    Calls Tryz.prog 105 #[.pointer (some ⟨B, 0, none⟩), .slice a 0 cap] w fun e w' => e = .returned (.tuple #[]) ∧ SipAt w' B s ∧ Kp (Jb B) w w' := by
  have HS := hid hs
  clear hs
  go_enter Tryz.func105, Tryz.ntmps105
  go_wp2
  refine wp_loop_rounds 1 ?_
  rw [rounds_succ]
  go_wp2
  refine wp_loop_rounds 1 ?_
  rw [rounds_succ]
  go_wp2
  refine wp_loop_rounds 1 ?_
  rw [rounds_succ]
  go_wp2
  go_end0
  exact ⟨rfl, HS.out, Kp.refl _ _⟩
theorem write_any (B : Nat) (s : Sp) (v : Value) (zs : List Int) (w : World) (hs : SipAt w B s) (ho : s.Ok) (hsz : s.n + zs.length < 4611686018427387904) (h : BySl (Jb B) w v zs) :
    Calls Tryz.prog 105 #[.pointer (some ⟨B, 0, none⟩), v] w fun e w' => e = .returned (.tuple #[]) ∧ SipAt w' B (s.write zs) ∧ Kp (Jb B) w w' := by
  obtain ⟨hz, h⟩ := h
  rcases h with ⟨⟨a, cap, rfl⟩, rfl⟩ | ⟨blk, off, cap, rfl, hc, hm, hb, hn⟩
  · exact write_nil B s a cap w hs
  · exact write_some B blk off zs.length cap s zs w hs ho hsz rfl hc hm hz hb hn
end
section
open Go.RowKit
set_option maxRecDepth 100000 in
set_option maxHeartbeats 400000 in
theorem sum_any (B : Nat) (s : Sp) (w : World) (hs : SipAt w B s) (hn : s.n < 4611686018427387904) :
    Calls Tryz.prog 106 #[.pointer (some ⟨B, 0, none⟩)] w fun e w' => e = .returned (.int .u64 s.sum) ∧ Kp Nb w w' := by
  obtain ⟨c0, c1, c2, c3, c4, c5, hf⟩ := hs.facts
  have HS := hid hs
  have HE := hid (Blk.new w 150 s.cells)
  have HK := hid ((Kp.refl Nb w).alloc (.cells s.cells.toArray 150))
  have HB := hid (hs.kept HK.out (fun h => h))
  have hwn : IntKind.u64.wrap (s.n : Int) = s.n := IntWalk.u64_in _ (by omega)
  clear hs
  go_enter Tryz.func106, Tryz.ntmps106
  go_wp2
  obtain ⟨W1, hW⟩ : ∃ W1, W1 = w.alloc (.cells s.cells.toArray 150) := ⟨_, rfl⟩
  obtain ⟨E, hE⟩ : ∃ E, E = w.heap.size := ⟨_, rfl⟩
  rw [← hW] at HE HK HB
  rw [← hE] at HE
  unfold Sp.cells at hW
  rw [← hW, ← hE]
  clear hW
  clear c0 c1 c2 c3 c4 c5 hf
  obtain ⟨-, -, -, -, c4, c5, -⟩ := SipAt.facts HB.out
  have hE2 := hid hE
  clear hE
  go_still_tail 11, (by kernel_rfl)
  go_wp2_with fail
  refine (word_any E s _ _ (by exact Blk.drew HE.out)).mono ?_
  rintro e w2 ⟨rfl, h2, k2⟩
  change SipAt w2 E (s.word s.tail) at h2
  generalize hs2 : s.word s.tail = s2 at h2
  obtain ⟨-, -, d2, -, -, -, hf2⟩ := SipAt.facts h2
  have H2 := hid h2
  have K2 := hid k2
  have HS2 := hid hs2
  clear h2 k2 hs2 c4 c5
  go_wp2_with fail
  refine (rounds_any E (s2.xorC 255) 4 (by decide) _ (by exact H2.out.setC 255)).mono ?_
  rintro e w3 ⟨rfl, h3, k3⟩
  obtain ⟨e0, e1, e2, e3, -, -, hf3⟩ := SipAt.facts h3
  have K3 := hid k3
  clear h3 k3 d2 hf2
  go_wp2
  go_ret
  refine ⟨?_, ?_⟩
  · refine ret_u64 ?_
    unfold Sp.sum
    rw [HS2.out]
    rfl
  · have hi : ∀ i, i < w.heap.size → Jb E i → Nb i := fun i hi h => by have := hE2.out; unfold Jb at h; omega
    exact (((HK.out.drew.trans K2.out hi).new (Nat.le_of_eq hE2.out.symm) 2 _).trans K3.out hi)
set_option maxHeartbeats 400000 in
theorem new_any (a b : Int) (w : World) :
    Calls Tryz.prog 104 #[.agg #[.int .u64 a, .int .u64 b]] w fun e w' => ∃ B, w.heap.size ≤ B ∧ e = .returned (.pointer (some ⟨B, 0, none⟩)) ∧ SipAt w' B (Sp.init a b) ∧ Kp Nb w w' := by
  go_enter Tryz.func104, Tryz.ntmps104
  go_wp2
  go_ret
  exact ⟨w.heap.size + 1, by omega, rfl, by have := Blk.new (w.alloc (.cells #[.int .u64 a, .int .u64 b] 118)) 150 (Sp.init a b).cells; rw [World.size_alloc] at this; exact this, ((Kp.refl Nb w).alloc _).alloc _⟩
set_option maxHeartbeats 400000 in
theorem seed_any (n : Int) (w : World) :
    Calls Tryz.prog 88 #[.int .i64 n] w fun e w' => e = .returned (.agg #[.int .u64 (seedA n), .int .u64 (seedB n)]) ∧ Kp Nb w w' := by
  have hsg : IntKind.u64.signed = false := rfl
  go_enter Tryz.func88, Tryz.ntmps88
  go_wp2
  exact bodyPost_ret (v := .agg #[.int .u64 (seedA n), .int .u64 (seedB n)]) (by simp [results, Tryz.results88, go_sem]; exact ⟨rfl, rfl⟩) rfl ⟨rfl, (Kp.refl Nb w).alloc _⟩
/-- What Hash is handed: a list of lists of bytes. -/
def PsSl (w : World) (v : Value) (ps : List (List Int)) : Prop :=
  ((∃ a cap, v = .slice a 0 cap) ∧ ps = []) ∨ ∃ blk off cap, v = .slice (some ⟨blk, off, none⟩) ps.length cap ∧ ps.length ≤ cap ∧ cap ≤ maxLen ∧ ∀ i, i < ps.length → ∃ u, w.cell? ⟨blk, off + i, none⟩ = some u ∧ BySl Nb w u (ps[i]?.getD [])
theorem BySl.fresh {w w' : World} {v : Value} {zs : List Int} (h : BySl Nb w v zs) (B : Nat) (hB : w.heap.size ≤ B) (S : Nat → Prop) (k : Kp S w w') (hS : ∀ i, i < w.heap.size → ¬ S i) : BySl (Jb B) w' v zs := by
  obtain ⟨hz, h⟩ := h
  refine ⟨hz, ?_⟩
  rcases h with h | ⟨blk, off, cap, hv, hc, hm, hb, hn⟩
  · exact .inl h
  · refine .inr ⟨blk, off, cap, hv, hc, hm, fun i hi => k.cell (hb i hi) (hS _ (World.block_lt_of_cell? _ _ (hb i hi))), fun h0 h1 => ?_⟩
    have := World.block_lt_of_cell? _ _ (hb 0 h0)
    unfold Jb at h1
    simp only at this
    omega
def HashR (w : World) (B : Nat) (a b : Int) (ps : List (List Int)) (i : Value) (wr : World) : Prop :=
  ∃ k : Nat, k ≤ ps.length ∧ i = .int .i64 k ∧ Hid (SipAt wr B ((Sp.init a b).write (ps.take k).flatten)) ∧ Hid (Kp Nb w wr)
set_option maxRecDepth 100000 in
set_option maxHeartbeats 400000 in
theorem hash_some (a b : Int) (blk off cap : Nat) (ps : List (List Int)) (w : World) (hc : ps.length ≤ cap) (hm : cap ≤ maxLen) (hp : ∀ i, i < ps.length → ∃ u, w.cell? ⟨blk, off + i, none⟩ = some u ∧ BySl Nb w u (ps[i]?.getD [])) (hsz : ps.flatten.length < 4611686018427387904) :
    Calls Tryz.prog 87 #[.agg #[.int .u64 a, .int .u64 b], .slice (some ⟨blk, off, none⟩) ps.length cap] w fun e w' => e = .returned (.int .u64 (hash a b ps.flatten)) ∧ Kp Nb w w' := by
  have HP := hid hp
  have HZ := hid hsz
  unfold maxLen at hm
  clear hp hsz
  go_enter Tryz.func87, Tryz.ntmps87
  go_wp2_with (go_at_call 104; refine (new_any _ _ _).mono ?_; rintro e w1 ⟨B, hB, rfl, h1, k1⟩)
  have hB' : w.heap.size + 1 ≤ B := by simpa using hB
  have HK1 := hid (((Kp.refl Nb w).alloc (.cells #[.int .u64 a, .int .u64 b] 118)).trans k1 (fun _ _ h => h))
  have H1 := hid h1
  clear h1 k1 hB
  go_loopw [12] (HashR w B a b ps) (fun i _ => ps.length - (intOf i).toNat)
  case atStart => exact ⟨0, Nat.zero_le _, rfl, H1.out, HK1.out⟩
  case round =>
    clear H1 HK1
    obtain ⟨k, hk, rfl, hst, hkp⟩ := hrel
    by_cases hlt : k < ps.length
    · obtain ⟨u, hu, hbs⟩ := HP.out k hlt
      have hcell := hkp.out.cell hu (fun h => h)
      have HBS := hid (hbs.fresh B (by omega) Nb hkp.out (fun _ _ h => h))
      have hfl := flat_le ps (k + 1)
      rw [flat_snoc ps k hlt, List.length_append] at hfl
      have HF := hid hfl
      clear hfl hu hbs
      go_wp2_with fail
      refine (write_any B _ u (ps[k]?.getD []) _ hst.out (Sp.write_ok _ _ (Sp.init_ok a b)) (by rw [Sp.write_n]; have := HZ.out; have := HF.out; show 0 + _ + _ < _; omega) HBS.out).mono ?_
      rintro e w2 ⟨rfl, h2, k2⟩
      have HR := hid (show HashR w B a b ps (.int .i64 ((k : Int) + 1)) w2 from ⟨k + 1, by omega, by go_num, by unfold Hid; rw [flat_snoc ps k hlt, Sp.write_append]; exact h2, hkp.out.trans k2 (fun i hi h => by unfold Jb at h; omega)⟩)
      clear h2 k2 hcell
      go_wp2
      go_roundw
      case rel => exact HR.out
      case measure => simp [intOf]; omega
    · obtain rfl : k = ps.length := by omega
      go_wp2_with fail
      refine (sum_any B _ _ hst.out (by rw [Sp.write_n, List.take_length]; have := HZ.out; show 0 + _ < _; omega)).mono ?_
      rintro e w2 ⟨rfl, k2⟩
      have HK2 := hid (hkp.out.trans k2 (fun _ _ h => h))
      clear k2
      go_wp2
      go_ret
      exact ⟨rfl, HK2.out⟩
set_option maxRecDepth 100000 in
set_option maxHeartbeats 400000 in
theorem hash_nil (a b : Int) (x : Option Addr) (cap : Nat) (w : World) :
    Calls Tryz.prog 87 #[.agg #[.int .u64 a, .int .u64 b], .slice x 0 cap] w fun e w' => e = .returned (.int .u64 (hash a b [])) ∧ Kp Nb w w' := by
  go_enter Tryz.func87, Tryz.ntmps87
  go_wp2_with (go_at_call 104; refine (new_any _ _ _).mono ?_; rintro e w1 ⟨B, hB, rfl, h1, k1⟩)
  have HK1 := hid (((Kp.refl Nb w).alloc (.cells #[.int .u64 a, .int .u64 b] 118)).trans k1 (fun _ _ h => h))
  have H1 := hid h1
  clear h1 k1 hB
  refine wp_loop_rounds 1 ?_
  rw [rounds_succ]
  go_wp2_with fail
  refine (sum_any B _ _ H1.out (by show 0 < _; decide)).mono ?_
  rintro e w2 ⟨rfl, k2⟩
  have HK2 := hid (HK1.out.trans k2 (fun _ _ h => h))
  clear k2
  go_wp2
  go_ret
  exact ⟨rfl, HK2.out⟩
theorem hash_any (a b : Int) (v : Value) (ps : List (List Int)) (w : World) (hp : PsSl w v ps) (hsz : ps.flatten.length < 4611686018427387904) :
    Calls Tryz.prog 87 #[.agg #[.int .u64 a, .int .u64 b], v] w fun e w' => e = .returned (.int .u64 (hash a b ps.flatten)) ∧ Kp Nb w w' := by
  rcases hp with ⟨⟨x, cap, rfl⟩, rfl⟩ | ⟨blk, off, cap, rfl, hc, hm, hp⟩
  · exact hash_nil a b x cap w
  · exact hash_some a b blk off cap ps w hc hm hp hsz
end

end Go.Proofs.YtogoophofgkboaaGreatDoor
