/-
  Layer 9: what of two sets is in one alone, in the other alone, in both. Conditions: at most 100,000 marks a list.
-/
import Derived.Test.YtijlmfmpfjjlpaaMaD
import Derived.WalkMore
namespace Go.Proofs.Ytijlmfmpfjjlpaa
open Go.RowKit Go.Shelf
attribute [local go_sem] Oper.semAt_some

abbrev encP (L : List (List Int × Int)) (x : Nat) : Array Value := #[markV (atP L x).1, .int .i64 (atP L x).2]
theorem beside_seq (n : Nat) (hn : 1 ≤ n) (B1 B2 : Nat) (va vb : Value) (xs ys : List (List Int)) (hx : xs.length ≤ 100000) (hy : ys.length ≤ 100000) (S : Nat → Prop) (w : World)
    (b1 : Boxed w B1 22 va) (b2 : Boxed w B2 22 vb) (hS : ∀ b, S b → b < w.heap.size) (ha : StM S w va xs) (hb : StM S w vb ys) :
    SeqW Fence.wide n Try.prog 73 #[.pointer (some ⟨B1, 0, none⟩), .pointer (some ⟨B2, 0, none⟩)] (encP (mergeM xs ys)) (KpB S)
      (fun ks _ => ks = List.range (mergeM xs ys).length) (fun pre _ => ∃ k, k ≤ (mergeM xs ys).length ∧ pre = List.range k) (mergeM xs ys).length w := fun l J Jx W hW hJ _ hY h0 => by
  have k : Kp Nb w W := Kp.of_below hW
  have kb : KpB S w W := KpB.nb hS k
  exact beside1_in n hn l B1 B2 va vb xs ys hx hy S J Jx (fun pre A C hj hk => hJ pre A C none hj ⟨hk.os, hk.tape, hk.output, hk.size, fun i hi _ => hk.block i hi (fun h => h)⟩ (fun r e => by cases e)) hY W
    ((k.heap b1.lt (fun h => h)).trans b1) ((k.heap b2.lt (fun h => h)).trans b2) (fun b hb => Nat.lt_of_lt_of_le (hS b hb) k.size) (ha.on kb) (hb.on kb) h0

set_option maxHeartbeats 1000000 in
theorem beside_any (a b : Option Addr) (n c m d : Nat) (w : World) :
    Calls Try.prog 58 #[.slice a n c, .slice b m d] w fun e w' => e = .returned (.func (.func 73) #[] #[.pointer (some ⟨w.heap.size, 0, none⟩), .pointer (some ⟨w.heap.size + 1, 0, none⟩)]) ∧
      w' = (w.alloc (.cells #[.slice a n c] 22)).alloc (.cells #[.slice b m d] 22) := by
  go_enter Try.func58, Try.ntmps58
  go_wp2
  go_ret
  exact ⟨rfl, rfl⟩

def pkF (fA fB fC : Bool) (p : List Int × Int) : Bool := (p.2 == 1 && fA) || (p.2 == 2 && fB) || (p.2 == 3 && fC)
def pickT (fA fB fC : Bool) (L : List (List Int × Int)) (pre : List Nat) : List (List Int) := ((pre.map (atP L)).filter (pkF fA fB fC)).map (·.1)
theorem pickT_snoc (fA fB fC : Bool) (L : List (List Int × Int)) (pre : List Nat) (x : Nat) : pickT fA fB fC L (pre ++ [x]) = pickT fA fB fC L pre ++ (if pkF fA fB fC (atP L x) then [(atP L x).1] else []) := by
  unfold pickT
  rw [List.map_append, List.filter_append, List.map_append]
  congr 1
  by_cases h : pkF fA fB fC (atP L x) = true
  · simp [h]
  · simp [h]
theorem pickT_len (fA fB fC : Bool) (L : List (List Int × Int)) (pre : List Nat) : (pickT fA fB fC L pre).length ≤ pre.length := by
  unfold pickT
  rw [List.length_map]
  exact Nat.le_trans (List.length_filter_le _ _) (by simp)

structure ThAt where
  M : Nat
  Bs : Nat
  Z : Nat
/-- Between two rounds: the flags, and the set so far. -/
def ThI (t : ThAt) (fA fB fC : Bool) (L : List (List Int × Int)) (w : World) (pre : List Nat) (W : World) : Prop :=
  ∃ v, Boxed W t.Bs 22 v ∧ W.ownsRow t.Z 24 16 v (pickT fA fB fC L pre).length (flatR markL (pickT fA fB fC L pre)) ∧
    Boxed W t.M 4 (.bool fA) ∧ Boxed W (t.M + 1) 4 (.bool fB) ∧ Boxed W (t.M + 1 + 1) 4 (.bool fC) ∧ Kp Nb w W ∧ t.Z ≤ W.heap.size
theorem thI_own (t : ThAt) (fA fB fC : Bool) (L : List (List Int × Int)) (w : World) {B : Nat} (hB : w.heap.size ≤ B) : OwnFrom B (ThI t fA fB fC L w) := by
  rintro pre A C row ⟨v, b, o, b1, b2, b3, k, z⟩ hg hr
  have hbox : ∀ {b t : Nat} {u : Value}, Boxed A b t u → Boxed C b t u := fun hb => hb.kept hg (fun e => by
    obtain ⟨-, o, ho, hc⟩ := hr _ e.symm
    have := (show A.heap[_]? = _ from hb).symm.trans ho
    cases this
    cases hc)
  refine ⟨v, hbox b, ownsRow_same o (fun g hgv => ?_), hbox b1, hbox b2, hbox b3, k.grown hg (fun i e h => by have := (hr i e).1; omega), Nat.le_trans z hg.size⟩
  obtain ⟨-, o', ho, hc⟩ := row_cells o hgv
  refine hg.block g (Array.getElem?_eq_some_iff.1 ho).1 (fun e => ?_)
  obtain ⟨-, o'', ho', hc'⟩ := hr _ e.symm
  rw [ho] at ho'
  cases ho'
  rw [hc] at hc'
  cases hc'
/-- A round's own mark. -/
def AxM (L : List (List Int × Int)) (fr : Nat → Act) (x : Nat) (a' : Act) (W : World) : Prop := ∃ N, a' = fr N ∧ Blk W N 24 (markL (atP L x).1)
theorem blk_turn {A B : World} {row : Option Nat} {b t : Nat} {vs : List Value} (hs : Blk A b t vs) (hg : A.grownBy B row) (hr : ∀ r, row = some r → ∃ o : Obj, A.heap[r]? = some o ∧ o.isCells = false) : Blk B b t vs :=
  (hg.block b hs.lt (fun e => by
    obtain ⟨o, ho, hc⟩ := hr _ e.symm
    rw [show A.heap[b]? = _ from hs] at ho
    cases ho
    cases hc)).trans hs
theorem axM_own (L : List (List Int × Int)) (fr : Nat → Act) (x : Nat) (a' : Act) {B : Nat} : OwnFrom B (fun (_ : Unit) W => AxM L fr x a' W) :=
  Own.from (fun _ A W row hs hg hr => by
    obtain ⟨N, h2, h3⟩ := hs
    exact ⟨N, h2, blk_turn h3 hg hr⟩) _
theorem Kp.putNew {S : Nat → Prop} {a b : World} (h : Kp S a b) {D : Nat} (hD : a.heap.size ≤ D) (o : Obj) : Kp S a (b.putObj D o) := ⟨h.os, h.tape, h.output, by simpa using h.size, fun i hi hn => (World.putObj_heap_other (fun e => by omega)).trans (h.block i hi hn)⟩
theorem flatR_one (f : List Int → List Value) (q : List Int) : flatR f [q] = f q := by simp [flatR]
/-- One more mark behind the set in its box. -/
theorem th_step {W V w10 : World} {M Bs Z B k : Nat} {v v10 : Value} {xs ys : List Value} {j : Nat} (KV : Kp Nb W V) (o : V.ownsRow Z 24 16 v k xs) (hg : V.grownBy w10 v.ownBlock) (bx : Boxed W Bs 22 v) (hM : M ≤ Bs) (hB : Bs < Z)
    (o10 : w10.ownsRow Z 24 16 v10 j ys) :
    w10.cell? ⟨Bs, 0, none⟩ = some v ∧ w10.frozen? ⟨Bs, 0, none⟩ = false ∧ KeepsFrom B W (w10.setCell ⟨Bs, 0, none⟩ v10) ∧ KpB (fun b => b < M) W (w10.setCell ⟨Bs, 0, none⟩ v10) ∧ Boxed (w10.setCell ⟨Bs, 0, none⟩ v10) Bs 22 v10 ∧
      (w10.setCell ⟨Bs, 0, none⟩ v10).ownsRow Z 24 16 v10 j ys ∧ (∀ b t u, Boxed W b t u → b < Z → b ≠ Bs → Boxed (w10.setCell ⟨Bs, 0, none⟩ v10) b t u) ∧ (∀ w, Kp Nb w W → w.heap.size ≤ M → Kp Nb w (w10.setCell ⟨Bs, 0, none⟩ v10)) ∧ W.heap.size ≤ (w10.setCell ⟨Bs, 0, none⟩ v10).heap.size := by
  have far : ∀ g, v.ownBlock = some g → Z ≤ g := fun g e => (row_cells o e).1
  have far10 : ∀ g, v10.ownBlock = some g → Z ≤ g := fun g e => (row_cells o10 e).1
  have bx10 : Boxed w10 Bs 22 v := Boxed.kept (show Boxed V Bs _ _ from (KV.heap bx.lt (fun h => h)).trans bx) hg (fun e => by have := far _ e.symm; omega)
  have hsz : W.heap.size ≤ (w10.setCell ⟨Bs, 0, none⟩ v10).heap.size := Nat.le_trans KV.size (Nat.le_trans hg.size (KeepsOthers.setCell w10 ⟨Bs, 0, none⟩ v10).size)
  have other : ∀ b, b < w10.heap.size → b ≠ Bs → (w10.setCell ⟨Bs, 0, none⟩ v10).heap[b]? = w10.heap[b]? := fun b hl hb => (grownBy_setCell' w10 Bs v10).block b hl (fun e => hb (by cases e; rfl))
  have same : ∀ b, b < W.heap.size → b < Z → b ≠ Bs → (w10.setCell ⟨Bs, 0, none⟩ v10).heap[b]? = W.heap[b]? := fun b h1 h2 h3 =>
    ((other b (Nat.lt_of_lt_of_le h1 (Nat.le_trans KV.size hg.size)) h3).trans (hg.block b (Nat.lt_of_lt_of_le h1 KV.size) (fun e => by have := far _ e.symm; omega))).trans (KV.heap h1 (fun h => h))
  refine ⟨bx10.cell, bx10.frozen, ⟨hsz, fun i p _ hi hp => ?_⟩, ⟨hsz, fun b hb => ?_⟩, bx10.set _, ownsRow_same o10 (fun g e => other g (by obtain ⟨-, o, ho, -⟩ := row_cells o10 e; exact (Array.getElem?_eq_some_iff.1 ho).1) (by have := far10 g e; omega)), fun b t u h h1 h2 => (same b h.lt h1 h2).trans h, fun w k hw => ?_, hsz⟩
  · have hlt := (Array.getElem?_eq_some_iff.1 hi).1
    have n1 : i ≠ Bs := fun e => by
      rw [e, show W.heap[Bs]? = _ from bx] at hi
      cases hi
      cases hp
    refine (other i (Nat.lt_of_lt_of_le hlt (Nat.le_trans KV.size hg.size)) n1).trans ((hg.block i (Nat.lt_of_lt_of_le hlt KV.size) (fun e => ?_)).trans ((KV.heap hlt (fun h => h)).trans hi))
    obtain ⟨-, p', hp', hc⟩ := row_cells o e.symm
    rw [KV.heap hlt (fun h => h), hi] at hp'
    cases hp'
    rw [hp] at hc
    cases hc
  · by_cases h : b < W.heap.size
    · exact same b h (by have : b < M := hb; omega) (by have : b < M := hb; omega)
    · have := bx.lt
      have : b < M := hb
      omega
  · exact Kp.setCell ((k.trans KV (fun _ _ h => h)).grown hg (fun g e h => by have := far g e; omega)) (fun h => by dsimp only at h; omega) _
theorem static_ownW (P : Prop) {B : Nat} : OwnFrom B (fun (_ : Unit) (_ : World) => P) := Own.from (fun _ _ _ _ hs _ _ => hs) _

set_option maxRecDepth 100000 in
set_option maxHeartbeats 4000000 in
theorem those_in (n : Nat) (hn : 3 ≤ n) (va vb : Value) (xs ys : List (List Int)) (fA fB fC : Bool) (w : World) (ha : MkSl w va xs) (hb : MkSl w vb ys) (hx : xs.length ≤ 100000) (hy : ys.length ≤ 100000) (rx : rightB xs = true) (ry : rightB ys = true)
    (hga : ∀ g, va.ownBlock = some g → g < w.heap.size) (hgb : ∀ g, vb.ownBlock = some g → g < w.heap.size) :
    CallsIn Fence.wide n Try.prog 40 #[va, vb, .bool fA, .bool fB, .bool fC] w fun e w' => ∃ v' out, e = .returned v' ∧ out = pickT fA fB fC (mergeM xs ys) (List.range (mergeM xs ys).length) ∧
      w'.ownsRow w.heap.size 24 16 v' out.length (flatR markL out) ∧ Kp Nb w w' := by
  have h1 : 1 ≤ n := by omega
  have CA : Hid (∀ wx, Kp Nb w wx → Calls Try.prog 11 #[va] wx fun e w' => e = .returned (.bool true) ∧ Kp Nb wx w') := hid (fun wx k => by have := mright_any va xs wx (ha.kept k) hx; rwa [rx] at this)
  have CB : Hid (∀ wx, Kp Nb w wx → Calls Try.prog 11 #[vb] wx fun e w' => e = .returned (.bool true) ∧ Kp Nb wx w') := hid (fun wx k => by have := mright_any vb ys wx (hb.kept k) hy; rwa [ry] at this)
  have C2 : Hid (∀ wx v, Kp Nb w wx → (v = va ∨ v = vb) → Calls Try.prog 11 #[v] wx fun e w' => e = .returned (.bool true) ∧ Kp Nb wx w') := hid (fun wx v k h => h.elim (fun e => by rw [e]; exact CA.out wx k) (fun e => by rw [e]; exact CB.out wx k))
  clear CA CB
  have HA := hid ha
  have HB := hid hb
  have HX := hid hx
  have HYY := hid hy
  have HGA := hid hga
  have HGB := hid hgb
  obtain ⟨pa, da, rfl⟩ := ha.shape
  obtain ⟨pb, db, rfl⟩ := hb.shape
  obtain ⟨nA, hnA⟩ : ∃ n, xs.length = n := ⟨_, rfl⟩
  obtain ⟨nB, hnB⟩ : ∃ n, ys.length = n := ⟨_, rfl⟩
  rw [hnA] at C2 HA HGA ⊢
  rw [hnB] at C2 HB HGB ⊢
  obtain ⟨M, hM⟩ : ∃ M, w.heap.size = M := ⟨_, rfl⟩
  obtain ⟨V3, hV3⟩ : ∃ V, V = ((w.alloc (.cells #[.bool fA] 4)).alloc (.cells #[.bool fB] 4)).alloc (.cells #[.bool fC] 4) := ⟨_, rfl⟩
  have b0 := Boxed.new w 4 (.bool fA)
  have b1 := Boxed.new (w.alloc (.cells #[.bool fA] 4)) 4 (.bool fB)
  have b2 := Boxed.new ((w.alloc (.cells #[.bool fA] 4)).alloc (.cells #[.bool fB] 4)) 4 (.bool fC)
  simp only [World.size_alloc] at b1 b2
  have d0 : Hid (Boxed V3 M 4 (.bool fA)) := hid (by rw [hV3, ← hM]; exact (b0.alloc _).alloc _)
  have d1 : Hid (Boxed V3 (M + 1) 4 (.bool fB)) := hid (by rw [hV3, ← hM]; exact b1.alloc _)
  have d2 : Hid (Boxed V3 (M + 1 + 1) 4 (.bool fC)) := hid (by rw [hV3, ← hM]; exact b2)
  have K3 : Hid (Kp Nb w V3) := hid (by rw [hV3]; exact (((Kp.refl Nb w).alloc _).alloc _).alloc _)
  have HM := hid hM
  clear ha hb hx hy rx ry hga hgb b0 b1 b2 hnA hnB
  refine callsIn_of_wp_marks Try.func40 rfl trivial ?_ rfl
  simp only [Try.ntmps40, List.size_toArray, List.length_cons, List.length_nil, Nat.reduceAdd, Nat.reduceSub, Array.replicate_succ, Array.replicate_zero, List.push_toArray, List.append_toArray, List.nil_append, List.cons_append]
  gi_wp2
  refine wide_scope ?_
  rw [← hV3]
  trace_state
  clear hV3 hM
  gi_wp2_with (refine ⟨trivial, ?_⟩; gi_at_call 11; refine (callsIn_wide.2 (C2.out _ _ (by first | exact K4.out | exact K3.out) (by simp))).mono ?_; rintro r w1 ⟨rfl, k1⟩; first
    | (have K5 := hid (K4.out.trans k1 (fun _ _ h => h)); have KA2 := hid (KA1.out.trans k1 (fun _ _ h => h)); clear k1)
    | (have K4 := hid (K3.out.trans k1 (fun _ _ h => h)); have KA1 := hid k1; clear k1))
  obtain ⟨Bs, hBs⟩ : ∃ b, w1.heap.size = b := ⟨_, rfl⟩
  obtain ⟨Wx, hWx⟩ : ∃ V, V = w1.alloc (.cells #[.slice none 0 0] 22) := ⟨_, rfl⟩
  have hx1 : Wx.heap.size = Bs + 1 := by rw [hWx, ← hBs]; simp
  have BX : Hid (Boxed Wx Bs 22 (.slice none 0 0)) := hid (by rw [hWx, ← hBs]; exact Boxed.new w1 _ _)
  have KX : Hid (Kp Nb w1 Wx) := hid (by rw [hWx]; exact (Kp.refl Nb w1).alloc _)
  have CBs : Hid (Calls Try.prog 58 #[.slice pa nA da, .slice pb nB db] Wx fun e w' => e = .returned (.func (.func 73) #[] #[.pointer (some ⟨Bs + 1, 0, none⟩), .pointer (some ⟨Bs + 1 + 1, 0, none⟩)]) ∧
      Boxed w' (Bs + 1) 22 (.slice pa nA da) ∧ Boxed w' (Bs + 1 + 1) 22 (.slice pb nB db) ∧ Kp Nb Wx w') := hid (by
    have h := beside_any pa pb nA da nB db Wx
    rw [hx1] at h
    refine h.mono ?_
    rintro e w' ⟨rfl, rfl⟩
    have c0 := Boxed.new Wx 22 (.slice pa nA da)
    have c1 := Boxed.new (Wx.alloc (.cells #[.slice pa nA da] 22)) 22 (.slice pb nB db)
    simp only [World.size_alloc] at c1
    rw [hx1] at c0 c1
    exact ⟨rfl, c0.alloc _, c1, ((Kp.refl Nb Wx).alloc _).alloc _⟩)
  have hM1 : Hid (M + 1 + 1 + 1 ≤ Bs) := hid (by
    have := (show Boxed w1 (M + 1 + 1) _ _ from (KA2.out.heap d2.out.lt (fun h => h)).trans d2.out).lt
    omega)
  rw [← hWx]
  simp only [hBs]
  clear hWx hBs hx1
  refine wpIn_label ?_
  gi_wp2_with (refine ⟨trivial, ?_⟩; gi_at_call 58; refine (callsIn_wide.2 CBs.out).mono ?_; rintro r W0 ⟨rfl, e1, e2, k3⟩; have BE1 := hid e1; have BE2 := hid e2; have KE := hid k3; clear e1 e2 k3)
  have K6 : Hid (Kp Nb V3 W0) := hid ((KA2.out.trans KX.out (fun _ _ h => h)).trans KE.out (fun _ _ h => h))
  have K7 : Hid (Kp Nb w W0) := hid (K3.out.trans K6.out (fun _ _ h => h))
  obtain ⟨Z, hZ⟩ : ∃ Z, W0.heap.size = Z := ⟨_, rfl⟩
  obtain ⟨L, hL⟩ : ∃ L, mergeM xs ys = L := ⟨_, rfl⟩
  have HLL := hid hL
  have OKL : Hid (∀ x, MarkOk (atP L x).1 ∧ ((atP L x).2 = 1 ∨ (atP L x).2 = 2 ∨ (atP L x).2 = 3)) := hid (by rw [← hL]; exact atP_ok xs ys HA.out.ok HB.out.ok)
  have HLN : Hid (L.length ≤ 200000) := hid (by
    have h : ∀ f (xs ys : List (List Int)), (mergeN f xs ys).length ≤ f := fun f => by
      induction f with
      | zero => intro xs ys; exact Nat.le_refl 0
      | succ f ih => intro xs ys; unfold mergeN; split
                     · exact Nat.zero_le _
                     · rw [List.length_cons]; exact Nat.succ_le_succ (ih _ _)
    have := h (xs.length + ys.length) xs ys
    rw [show mergeN (xs.length + ys.length) xs ys = L from hL] at this
    have := HX.out
    have := HYY.out
    omega)
  obtain ⟨t, ht⟩ : ∃ t : ThAt, t = ⟨M, Bs, Z⟩ := ⟨_, rfl⟩
  have HT := hid ht
  have HI0 : Hid (ThI t fA fB fC L w [] W0) := hid (by
    rw [ht]
    exact ⟨_, (KE.out.heap BX.out.lt (fun h => h)).trans BX.out, ⟨by simp [pickT, flatR], .inl ⟨rfl, rfl⟩⟩, (K6.out.heap d0.out.lt (fun h => h)).trans d0.out, (K6.out.heap d1.out.lt (fun h => h)).trans d1.out, (K6.out.heap d2.out.lt (fun h => h)).trans d2.out, K7.out, Nat.le_of_eq hZ.symm⟩)
  have HZ : Hid (Bs + 1 + 1 + 1 ≤ Z ∧ W0.heap.size = Z) := hid ⟨by have := BE2.out.lt; omega, hZ⟩
  have SQ : Hid (SeqW Fence.wide (n - 1) Try.prog 73 #[.pointer (some ⟨Bs + 1, 0, none⟩), .pointer (some ⟨Bs + 1 + 1, 0, none⟩)] (encP L) (KpB (fun b => b < M))
      (fun ks _ => ks = List.range L.length) (fun pre _ => ∃ k, k ≤ L.length ∧ pre = List.range k) L.length W0) := hid (by
    rw [← hL]
    exact beside_seq (n - 1) (by omega) _ _ _ _ xs ys HX.out HYY.out _ W0 BE1.out BE2.out (fun b hb => by have := K7.out.size; have := HM.out; omega) (StM.start (HA.out.kept K7.out) (fun g hg => by rw [← HM.out]; exact HGA.out g hg)) (StM.start (HB.out.kept K7.out) (fun g hg => by rw [← HM.out]; exact HGB.out g hg)))
  clear hZ hL ht
  refine wpIn_rangeW rfl h1 (gf := 73) (lb := #[.pointer (some ⟨Bs + 1, 0, none⟩), .pointer (some ⟨Bs + 1 + 1, 0, none⟩)]) rfl trivial (enters_of Try.func73 (by kernel_rfl) rfl)
    SQ.out (fun h k => h.trans k) (fun W l o o' hl hW hc => ⟨by simp, fun b hb => World.putObj_heap_other (fun e' => by have := HZ.out; have := hM1.out; omega)⟩)
    (fun xs => static_ownW _) (fun xs => static_ownW _) (Below.refl _ _) (fun x => rfl)
    (ThI t fA fB fC L w) (fun _ _ _ => False) (thI_own t fA fB fC L w K7.out.size) (fun _ _ _ _ _ hs _ _ => hs) HI0.out
    (fun x a' W => AxM L (fun N => { tmps := #[.slice pa nA da, .slice pb nB db, .bool fA, .bool fB, .bool fC, undef, undef, .pointer (some ⟨M, 0, none⟩), .pointer (some ⟨M + 1, 0, none⟩), .pointer (some ⟨M + 1 + 1, 0, none⟩), .slice none 0 0, .pointer (some ⟨Bs, 0, none⟩), .pointer (some ⟨N, 0, none⟩), .int .i64 (atP L x).2, .slice pa nA da, .bool true, .bool false, .bool false, .slice pb nB db, .bool true, .bool false, .bool false, .slice pa nA da, .slice pb nB db, .func (.func 73) #[] #[.pointer (some ⟨Bs + 1, 0, none⟩), .pointer (some ⟨Bs + 1 + 1, 0, none⟩)], markV (atP L x).1, .int .i64 (atP L x).2, undef, undef, undef, undef, undef, undef, undef, undef, undef, undef, undef, undef, undef, undef, undef, undef, undef, undef, undef, undef, undef, undef, undef, undef], defers := [] }) x a' W)
    (fun x a' => axM_own L _ x a') ?assign ?body ?done ?stop
  case assign =>
    intro l pre x W R hI hR
    have HI := hid hI
    have HR := hid hR
    obtain ⟨hmo, hwo⟩ := OKL.out x
    obtain ⟨W5, s1, s2, s3⟩ := mk_fresh W hmo
    have ST : Hid ((Instr.storeAt 24 (.pointer (some ⟨W.heap.size, 0, none⟩)) (markV (atP L x).1)).run Try.prog (W.alloc (.cells #[.int .u8 0, .int .u8 0, .int .u8 0, .int .u8 0, .int .u8 0, .int .u8 0, .int .u8 0, .int .u8 0, .int .u8 0, .int .u8 0, .int .u8 0, .int .u8 0, .int .u8 0, .int .u8 0, .int .u8 0, .int .u8 0] 24)) = .ok () W5) := hid s1
    have S2 := hid s2
    have S3 := hid s3
    clear hI hR s1 s2 s3 hwo
    trace_state
    gi_wp2_with (first
      | (refine wpListIn_storeL rfl 24 (.tmp 12) (.tmp 25) rfl (p := ⟨W.heap.size, 0, none⟩) (by rfl) (v := markV (atP L x).1) (by rfl) ST.out ?_)
      | (refine wpIn_store_at 24 (.tmp 12) (.tmp 25) rfl (p := ⟨W.heap.size, 0, none⟩) (by rfl) (v := markV (atP L x).1) (by rfl) ST.out ?_))
    refine HR.out _ _ (⟨S3.out.size, fun i o _ hi _ => (S3.out.heap (Array.getElem?_eq_some_iff.1 hi).1 (fun h => h)).trans hi⟩) (KpB.nb (fun b hb => by obtain ⟨v, _, _, _, _, _, k, z⟩ := HI.out; have := k.size; have := HM.out; omega) S3.out) ?_ ⟨_, rfl, S2.out⟩
    obtain ⟨v, b, o, b1, b2, b3, k, z⟩ := HI.out
    exact ⟨v, (S3.out.heap b.lt (fun h => h)).trans b, ownsRow_kp o S3.out, (S3.out.heap b1.lt (fun h => h)).trans b1, (S3.out.heap b2.lt (fun h => h)).trans b2, (S3.out.heap b3.lt (fun h => h)).trans b3, k.trans S3.out (fun _ _ h => h), Nat.le_trans z S3.out.size⟩
  case body =>
    rintro l pre x a' W ⟨v, b, o, b1, b2, b3, k, z⟩ ⟨N, rfl, hNB⟩ hlt
    rw [HT.out] at b o b1 b2 b3 z
    dsimp only at b o b1 b2 b3 z
    obtain ⟨hmo, hwo⟩ := OKL.out x
    have hps := pickT_snoc fA fB fC L pre x
    have hpl := pickT_len fA fB fC L pre
    obtain ⟨⟨q, c⟩, hq⟩ : ∃ p, atP L x = p := ⟨_, rfl⟩
    rw [hq] at hmo hwo hps hNB
    rw [hq]
    dsimp only at hmo hwo hps hNB ⊢
    obtain ⟨p1, q1, rfl⟩ := own_shape o
    obtain ⟨cur, hcur⟩ : ∃ s, pickT fA fB fC L pre = s := ⟨_, rfl⟩
    rw [hcur] at o b hps hpl
    have c0 := b.cell
    have cA := b1.cell
    have cB := b2.cell
    have cC := b3.cell
    have MO := hid hmo
    have HPS := hid hps
    have HOC := hid o
    have HBX := hid b
    have HB1 := hid b1
    have HB2 := hid b2
    have HB3 := hid b3
    have HKW := hid k
    have HNB := hid hNB
    have HLB : Hid (cur.length + 1 ≤ 300000) := hid (by have := HLN.out; omega)
    have HZW := hid z
    have HLM := hid (load_mark hmo (range_of hNB))
    clear hmo hps hpl b o b1 b2 b3 k hNB hq hcur hlt z
    -- a mark that isn't taken
    have NOT : Hid (∀ a : Act, pkF fA fB fC (q, c) = false → leftW W0.heap.size (KpB (fun b => b < M)) (ThI t fA fB fC L w) (fun _ _ _ => False) (pre ++ [x]) W .normal a W) := hid (fun a hp => by
      refine ⟨KeepsFrom.refl _ _, KpB.refl _ _, ?_⟩
      rw [HT.out]
      have e := HPS.out
      rw [hp, if_neg (by simp), List.append_nil] at e
      have ho : W.ownsRow Z 24 16 (.slice p1 cur.length q1) (pickT fA fB fC L (pre ++ [x])).length (flatR markL (pickT fA fB fC L (pre ++ [x]))) := by rw [e]; exact HOC.out
      exact ⟨_, HBX.out, ho, HB1.out, HB2.out, HB3.out, HKW.out, HZW.out⟩)
    have YES : Hid (∀ (a : Act) W', pkF fA fB fC (q, c) = true → KeepsFrom W0.heap.size W W' → KpB (fun b => b < M) W W' → (∃ v', Boxed W' Bs 22 v' ∧ W'.ownsRow Z 24 16 v' (cur.length + 1) (flatR markL cur ++ markL q)) → Boxed W' M 4 (.bool fA) → Boxed W' (M + 1) 4 (.bool fB) → Boxed W' (M + 1 + 1) 4 (.bool fC) → Kp Nb w W' → Z ≤ W'.heap.size →
        leftW W0.heap.size (KpB (fun b => b < M)) (ThI t fA fB fC L w) (fun _ _ _ => False) (pre ++ [x]) W .normal a W') := hid (fun a W' hp h1 h2 h3 h4 h5 h6 h7 h8 => by
      refine ⟨h1, h2, ?_⟩
      rw [HT.out]
      obtain ⟨v', h31, h32⟩ := h3
      have e := HPS.out
      rw [hp, if_pos rfl] at e
      refine ⟨v', h31, ?_, h4, h5, h6, h7, h8⟩
      rw [e, List.length_append, List.length_singleton, flatR_append, flatR_one]
      exact h32)
    have MK := hid (make_mark1 q MO.out.len W)
    obtain ⟨i0, z0, hi, hz0, hz1, hz2, hz3⟩ := mark_info3
    obtain ⟨g, hg⟩ : ∃ g, W.heap.size = g := ⟨_, rfl⟩
    rw [hg] at MK
    have HG := hid hg
    obtain ⟨V, hV⟩ : ∃ V, V = W.alloc (.cells (markL q).toArray 24 (0, 0)) := ⟨_, rfl⟩
    rw [← hV] at MK
    have KV : Hid (Kp Nb W V) := hid (by rw [hV]; exact (Kp.refl Nb W).alloc _)
    have BV : Hid (Blk V g 24 (markL q)) := hid (by rw [hV, ← hg]; exact Blk.new W _ _)
    have B2 : Hid (cur.length + 1 ≤ maxLen ∧ (cur.length + 1) * 16 ≤ 140737488355328 ∧ Z ≤ V.heap.size) := hid (by
      refine ⟨?_, ?_, Nat.le_trans HZW.out KV.out.size⟩
      · unfold maxLen; have := HLB.out; omega
      · have := HLB.out; omega)
    clear hV hg
    rcases hwo with rfl | rfl | rfl
    · cases fA with
      | true =>
        gi_wp2_with (first
          | (refine wpListIn_loadL (by first | rfl | kernel_rfl) 24 (.tmp 12) rfl (p := ⟨N, 0, none⟩) (by rfl) HLM.out ?_)
          | (refine wpListIn_stepL rfl _ _ (by intro c hc; cases hc) (by simp [Oper.about]) (exec_buildSlice rfl (qs := #[(0, markV q)]) (by simp [Act.eval, Act.put]) MK.out) ?_)
          | (gi_at_builtin; refine wpListIn_append_own _ rfl _ _ 22 rfl Z 24 i0 z0 16 16 Try.underlying22 hi hz0 hz1 hz2 hz3 (by decide) _ cur.length (flatR markL cur) rfl (ownsRow_kp HOC.out KV.out) ⟨g, 0, none⟩ 1 1 (markL q) rfl (by rw [markL_length, MO.out.len]) (fun j u hu => ?cells) (markL_one q) B2.out.1 B2.out.2.1 B2.out.2.2 ?_))
        case cells => rw [add_mid]; exact range_of BV.out j u hu
        intro v10 w10 hown hgrow _
        obtain ⟨a10, c10, rfl⟩ := own_shape hown
        obtain ⟨e1, e2, e3, e4, e5, e6, e7, e8, e9⟩ := th_step (M := M) (B := W0.heap.size) KV.out (ownsRow_kp HOC.out KV.out) hgrow HBX.out (by have := hM1.out; omega) (by have := HZ.out; omega) hown
        have f1 := e7 _ _ _ HB1.out (by have := HZ.out; have := hM1.out; omega) (by have := hM1.out; omega)
        have f2 := e7 _ _ _ HB2.out (by have := HZ.out; have := hM1.out; omega) (by have := hM1.out; omega)
        have f3 := e7 _ _ _ HB3.out (by have := HZ.out; have := hM1.out; omega) (by have := hM1.out; omega)
        have HYS := hid (fun a => YES.out a _ rfl e3 e4 ⟨_, e5, e6⟩ f1 f2 f3 (e8 w HKW.out (Nat.le_of_eq HM.out)) (Nat.le_trans HZW.out e9))
        clear e3 e4 e5 e6 e7 e8 e9 f1 f2 f3 hown hgrow
        gi_wp2
        exact HYS.out _
      | false =>
        gi_wp2
        exact NOT.out _ rfl
    · cases fB with
      | true =>
        gi_wp2_with (first
          | (refine wpListIn_loadL (by first | rfl | kernel_rfl) 24 (.tmp 12) rfl (p := ⟨N, 0, none⟩) (by rfl) HLM.out ?_)
          | (refine wpListIn_stepL rfl _ _ (by intro c hc; cases hc) (by simp [Oper.about]) (exec_buildSlice rfl (qs := #[(0, markV q)]) (by simp [Act.eval, Act.put]) MK.out) ?_)
          | (gi_at_builtin; refine wpListIn_append_own _ rfl _ _ 22 rfl Z 24 i0 z0 16 16 Try.underlying22 hi hz0 hz1 hz2 hz3 (by decide) _ cur.length (flatR markL cur) rfl (ownsRow_kp HOC.out KV.out) ⟨g, 0, none⟩ 1 1 (markL q) rfl (by rw [markL_length, MO.out.len]) (fun j u hu => ?cells) (markL_one q) B2.out.1 B2.out.2.1 B2.out.2.2 ?_))
        case cells => rw [add_mid]; exact range_of BV.out j u hu
        intro v10 w10 hown hgrow _
        obtain ⟨a10, c10, rfl⟩ := own_shape hown
        obtain ⟨e1, e2, e3, e4, e5, e6, e7, e8, e9⟩ := th_step (M := M) (B := W0.heap.size) KV.out (ownsRow_kp HOC.out KV.out) hgrow HBX.out (by have := hM1.out; omega) (by have := HZ.out; omega) hown
        have f1 := e7 _ _ _ HB1.out (by have := HZ.out; have := hM1.out; omega) (by have := hM1.out; omega)
        have f2 := e7 _ _ _ HB2.out (by have := HZ.out; have := hM1.out; omega) (by have := hM1.out; omega)
        have f3 := e7 _ _ _ HB3.out (by have := HZ.out; have := hM1.out; omega) (by have := hM1.out; omega)
        have HYS := hid (fun a => YES.out a _ rfl e3 e4 ⟨_, e5, e6⟩ f1 f2 f3 (e8 w HKW.out (Nat.le_of_eq HM.out)) (Nat.le_trans HZW.out e9))
        clear e3 e4 e5 e6 e7 e8 e9 f1 f2 f3 hown hgrow
        gi_wp2
        exact HYS.out _
      | false =>
        gi_wp2
        exact NOT.out _ rfl
    · cases fC with
      | true =>
        gi_wp2_with (first
          | (refine wpListIn_loadL (by first | rfl | kernel_rfl) 24 (.tmp 12) rfl (p := ⟨N, 0, none⟩) (by rfl) HLM.out ?_)
          | (refine wpListIn_stepL rfl _ _ (by intro c hc; cases hc) (by simp [Oper.about]) (exec_buildSlice rfl (qs := #[(0, markV q)]) (by simp [Act.eval, Act.put]) MK.out) ?_)
          | (gi_at_builtin; refine wpListIn_append_own _ rfl _ _ 22 rfl Z 24 i0 z0 16 16 Try.underlying22 hi hz0 hz1 hz2 hz3 (by decide) _ cur.length (flatR markL cur) rfl (ownsRow_kp HOC.out KV.out) ⟨g, 0, none⟩ 1 1 (markL q) rfl (by rw [markL_length, MO.out.len]) (fun j u hu => ?cells) (markL_one q) B2.out.1 B2.out.2.1 B2.out.2.2 ?_))
        case cells => rw [add_mid]; exact range_of BV.out j u hu
        intro v10 w10 hown hgrow _
        obtain ⟨a10, c10, rfl⟩ := own_shape hown
        obtain ⟨e1, e2, e3, e4, e5, e6, e7, e8, e9⟩ := th_step (M := M) (B := W0.heap.size) KV.out (ownsRow_kp HOC.out KV.out) hgrow HBX.out (by have := hM1.out; omega) (by have := HZ.out; omega) hown
        have f1 := e7 _ _ _ HB1.out (by have := HZ.out; have := hM1.out; omega) (by have := hM1.out; omega)
        have f2 := e7 _ _ _ HB2.out (by have := HZ.out; have := hM1.out; omega) (by have := hM1.out; omega)
        have f3 := e7 _ _ _ HB3.out (by have := HZ.out; have := hM1.out; omega) (by have := hM1.out; omega)
        have HYS := hid (fun a => YES.out a _ rfl e3 e4 ⟨_, e5, e6⟩ f1 f2 f3 (e8 w HKW.out (Nat.le_of_eq HM.out)) (Nat.le_trans HZW.out e9))
        clear e3 e4 e5 e6 e7 e8 e9 f1 f2 f3 hown hgrow
        gi_wp2
        exact HYS.out _
      | false =>
        gi_wp2
        exact NOT.out _ rfl
  case done =>
    rintro D ks W hD rfl ⟨v, b, o, b1, b2, b3, k, z⟩ hK
    rw [HT.out] at b o z
    obtain ⟨p1, q1, rfl⟩ := own_shape o
    have c1 := b.cell
    have HO := hid (ownsRow_le (base' := M) o (by have := HZ.out; have := hM1.out; dsimp only; omega))
    have HKW := hid k
    have HD := hid hD
    have HK := hid hK
    clear b o b1 b2 b3 k z hD hK
    gi_wp2
    refine ⟨by simp, .inl ⟨_, _, rfl, run_takeDeferred HK.out, ?_⟩⟩
    refine ⟨_, results_tmp rfl _ _ _, _, _, rfl, by rw [HLL.out], ?_, ?_⟩
    · rw [HM.out]; exact ownsRow_putObj (W := W) HO.out _ HK.out rfl
    · exact HKW.out.putNew (by have := HZ.out; have := HM.out; have := hM1.out; have := HD.out; omega) _
  case stop =>
    rintro D c pre W _ _ h _
    exact h.elim

end Go.Proofs.Ytijlmfmpfjjlpaa
