/-
  Layer 9: a list in pieces: Pieces, and the statements' own `pieces`. Conditions: marks of 16 bytes; at most 100,000 of them.
-/
import Derived.Test.YtijlmfmpfjjlpaaMaX
namespace Go.Proofs.Ytijlmfmpfjjlpaa
open Go.RowKit Go.Shelf
attribute [local go_sem] Oper.semAt_some

abbrev encS (x : SlE) : Array Value := #[svE x]
theorem pieces_seq (m : Nat) (hm : 1 ≤ m) (Bk Bn : Nat) (v : Value) (xs : List (List Int)) (n : Int) (hn : -9223372036854775808 ≤ n ∧ n < 9223372036854775808) (hx : xs.length ≤ 100000) (S : Nat → Prop) (w : World)
    (b1 : Boxed w Bk 22 v) (b2 : Boxed w Bn 3 (.int .i64 n)) (hS : ∀ b, S b → b < w.heap.size) (sn : S Bn) (ha : StM S w v xs) :
    SeqW Fence.wide m Try.prog 59 #[.pointer (some ⟨Bk, 0, none⟩), .pointer (some ⟨Bn, 0, none⟩)] encS (KpM S) (SM xs n) (SpM xs n) xs.length w := fun l J Jx W hW hJ _ hY h0 => by
  have k : Kp Nb w W := Kp.of_below hW
  exact pieces1_in m hm l Bk Bn v xs n hn hx S J Jx (fun pre A C hj hk => hJ pre A C none hj ⟨hk.os, hk.tape, hk.output, hk.size, fun i hi _ => hk.block i hi (fun h => h)⟩ (fun r e => by cases e)) hY W
    ((k.heap b1.lt (fun h => h)).trans b1) ((k.heap b2.lt (fun h => h)).trans b2) (fun b hb => Nat.lt_of_lt_of_le (hS b hb) k.size) sn (ha.on (KpB.nb hS k)) h0

set_option maxRecDepth 100000 in
set_option maxHeartbeats 1000000 in
theorem mpieces_any (v : Value) (xs : List (List Int)) (n : Int) (w : World) (hs : MkSl w v xs) (hx : xs.length ≤ 100000) :
    Calls Try.prog 43 #[v, .int .i64 n] w fun e w' => ∃ Bk v', e = .returned (.func (.func 59) #[] #[.pointer (some ⟨Bk, 0, none⟩), .pointer (some ⟨w.heap.size, 0, none⟩)]) ∧
      Boxed w' Bk 22 v' ∧ Boxed w' w.heap.size 3 (.int .i64 n) ∧ MkSl w' v' xs ∧ (∀ g, v'.ownBlock = some g → w.heap.size < g ∧ g < w'.heap.size) ∧ w.heap.size < Bk ∧ Kp Nb w w' := by
  obtain ⟨y, d, rfl⟩ := hs.shape
  obtain ⟨N, hN⟩ : ∃ N, w.heap.size = N := ⟨_, rfl⟩
  obtain ⟨V, hV⟩ : ∃ V, V = w.alloc (.cells #[.int .i64 n] 3) := ⟨_, rfl⟩
  have B0 : Hid (Boxed V N 3 (.int .i64 n)) := hid (by rw [hV, ← hN]; exact Boxed.new w _ _)
  have K0 : Hid (Kp Nb w V) := hid (by rw [hV]; exact (Kp.refl Nb w).alloc _)
  have CC := hid (mclone_any _ xs V (hs.kept K0.out) hx)
  have HN := hid hN
  rw [hN]
  clear hs hx hN
  go_enter Try.func43, Try.ntmps43
  go_upto_region 1 with fail
  rw [HN.out, ← hV]
  clear hV
  go_wp2_with fail
  refine CC.out.mono ?_
  rintro e w1 ⟨r, rfl, h1, h2, k1⟩
  obtain ⟨yr, dr, rfl⟩ := h1.shape
  obtain ⟨M, hM⟩ : ∃ M, w1.heap.size = M := ⟨_, rfl⟩
  obtain ⟨W2, hW2⟩ : ∃ W, W = w1.alloc (.cells #[.slice yr xs.length dr] 22) := ⟨_, rfl⟩
  have hb := Boxed.new w1 22 (.slice yr xs.length dr)
  rw [hM] at hb
  have k2 : Kp Nb w1 W2 := by rw [hW2]; exact (Kp.refl Nb w1).alloc _
  have BK : Hid (Boxed W2 M 22 (.slice yr xs.length dr)) := hid (by rw [hW2]; exact hb)
  have BN : Hid (Boxed W2 N 3 (.int .i64 n)) := hid ((k2.heap (Nat.lt_of_lt_of_le B0.out.lt k1.size) (fun h => h)).trans ((k1.heap B0.out.lt (fun h => h)).trans B0.out))
  have SX := hid (h1.kept k2)
  have OW : Hid (∀ g, (Value.slice yr xs.length dr).ownBlock = some g → N < g ∧ g < W2.heap.size) := hid (fun g hg => ⟨Nat.lt_of_lt_of_le B0.out.lt (h2 g hg).1, Nat.lt_of_lt_of_le (h2 g hg).2 k2.size⟩)
  have LT : Hid (N < M) := hid (by rw [← hM]; exact Nat.lt_of_lt_of_le B0.out.lt k1.size)
  have KX : Hid (Kp Nb w W2) := hid ((K0.out.trans k1 (fun _ _ h => h)).trans k2 (fun _ _ h => h))
  clear hb h1 h2 k1 k2
  go_wp2
  rw [← hW2]
  go_ret
  exact ⟨M, _, rfl, BK.out, BN.out, SX.out, OW.out, LT.out, KX.out⟩

theorem row_tyP {W : World} {base e size k : Nat} {v : Value} {xs : List Value} (h : W.ownsRow base e size v k xs) {g : Nat} (hg : v.ownBlock = some g) : ∃ cs fr, W.heap[g]? = some (Obj.cells cs e fr) := by
  rcases h.2 with ⟨rfl, _⟩ | ⟨g', cap, cur, rfl, hb, hgg, _⟩
  · simp [Value.ownBlock] at hg
  · have : g' = g := by simpa [Value.ownBlock] using hg
    subst this
    exact ⟨_, _, hgg⟩
/-- One more element behind the row in its box: no block of marks is turned. -/
theorem pl_step {W V w10 : World} {M Z B k s : Nat} {T E : TypeId} {v v10 : Value} {xs ys : List Value} {j : Nat} (hT : T ≠ 24) (hE : E ≠ 24) (KV : Kp Nb W V) (o : V.ownsRow Z E s v k xs) (hg : V.grownBy w10 v.ownBlock) (bx : Boxed W M T v) (hB : M < Z)
    (o10 : w10.ownsRow Z E s v10 j ys) :
    w10.cell? ⟨M, 0, none⟩ = some v ∧ w10.frozen? ⟨M, 0, none⟩ = false ∧ KeepsFrom B W (w10.setCell ⟨M, 0, none⟩ v10) ∧ (Z ≤ W.heap.size → KpM (fun b => M < b ∧ b < Z) W (w10.setCell ⟨M, 0, none⟩ v10)) ∧ Boxed (w10.setCell ⟨M, 0, none⟩ v10) M T v10 ∧
      (w10.setCell ⟨M, 0, none⟩ v10).ownsRow Z E s v10 j ys ∧ (∀ b t u, Boxed W b t u → b < Z → b ≠ M → Boxed (w10.setCell ⟨M, 0, none⟩ v10) b t u) ∧ (∀ w, Kp Nb w W → w.heap.size ≤ M → Kp Nb w (w10.setCell ⟨M, 0, none⟩ v10)) ∧ W.heap.size ≤ (w10.setCell ⟨M, 0, none⟩ v10).heap.size := by
  have far : ∀ g, v.ownBlock = some g → Z ≤ g := fun g e => (row_cells o e).1
  have far10 : ∀ g, v10.ownBlock = some g → Z ≤ g := fun g e => (row_cells o10 e).1
  have bx10 : Boxed w10 M T v := Boxed.kept (show Boxed V M _ _ from (KV.heap bx.lt (fun h => h)).trans bx) hg (fun e => by have := far _ e.symm; omega)
  have hsz : W.heap.size ≤ (w10.setCell ⟨M, 0, none⟩ v10).heap.size := Nat.le_trans KV.size (Nat.le_trans hg.size (KeepsOthers.setCell w10 ⟨M, 0, none⟩ v10).size)
  have other : ∀ b, b < w10.heap.size → b ≠ M → (w10.setCell ⟨M, 0, none⟩ v10).heap[b]? = w10.heap[b]? := fun b hl hb => (grownBy_setCell' w10 M v10).block b hl (fun e => hb (by cases e; rfl))
  have same0 : ∀ b, b < W.heap.size → v.ownBlock ≠ some b → b ≠ M → (w10.setCell ⟨M, 0, none⟩ v10).heap[b]? = W.heap[b]? := fun b h1 h2 h3 =>
    ((other b (Nat.lt_of_lt_of_le h1 (Nat.le_trans KV.size hg.size)) h3).trans (hg.block b (Nat.lt_of_lt_of_le h1 KV.size) (fun e => h2 e.symm))).trans (KV.heap h1 (fun h => h))
  have same : ∀ b, b < W.heap.size → b < Z → b ≠ M → (w10.setCell ⟨M, 0, none⟩ v10).heap[b]? = W.heap[b]? := fun b h1 h2 h3 => same0 b h1 (fun e => by have := far _ e; omega) h3
  refine ⟨bx10.cell, bx10.frozen, ⟨hsz, fun i p _ hi hp => ?_⟩, fun hZ => ⟨⟨hsz, fun b hb => ?_⟩, fun b cs fr hb => ?_⟩, bx10.set _, ownsRow_same o10 (fun g e => other g (by obtain ⟨-, o, ho, -⟩ := row_cells o10 e; exact (Array.getElem?_eq_some_iff.1 ho).1) (by have := far10 g e; omega)), fun b t u h h1 h2 => (same b h.lt h1 h2).trans h, fun w k hw => ?_, hsz⟩
  · have hlt := (Array.getElem?_eq_some_iff.1 hi).1
    refine (same0 i hlt (fun e => ?_) (fun e => ?_)).trans hi
    · obtain ⟨-, p', hp', hc⟩ := row_cells o e
      rw [KV.heap hlt (fun h => h), hi] at hp'
      cases hp'
      rw [hp] at hc
      cases hc
    · rw [e, show W.heap[M]? = _ from bx] at hi
      cases hi
      cases hp
  · exact same b (by omega) hb.2 (by omega)
  · have hlt := (Array.getElem?_eq_some_iff.1 hb).1
    refine (same0 b hlt (fun e => ?_) (fun e => ?_)).trans hb
    · obtain ⟨cs', fr', h⟩ := row_tyP o e
      rw [KV.heap hlt (fun h => h), hb] at h
      injection h with h; injection h with _ h
      exact hE h.symm
    · rw [e, show W.heap[M]? = _ from bx] at hb
      injection hb with h; injection h with _ h
      exact hT h
  · exact Kp.setCell ((k.trans KV (fun _ _ h => h)).grown hg (fun g e h => by have := far g e; omega)) (fun h => by dsimp only at h; omega) _

/-- Between two rounds: the pieces so far. -/
def PiI (M Z : Nat) (m : Int) (w : World) (es : List SlE) (W : World) : Prop :=
  ∃ u, Boxed W (M + 1) 42 u ∧ W.ownsRow Z 22 1 u es.length (es.map svE) ∧ Boxed W M 3 (.int .i64 m) ∧ Kp Nb w W ∧ Z ≤ W.heap.size ∧ es.length ≤ m.toNat
def PiX (M Z : Nat) (m : Int) (w : World) (c : Code) (es : List SlE) (W : World) : Prop := c = .exit 0 ∧ ∃ pre x, es = pre ++ [x] ∧ PiI M Z m w pre W ∧ m ≤ (pre.length : Int)
theorem piI_own (M Z : Nat) (m : Int) (w : World) {B : Nat} (hB : w.heap.size ≤ B) : OwnFrom B (PiI M Z m w) := by
  rintro pre A C row ⟨v, b, o, b1, k, z, l⟩ hg hr
  have hbox : ∀ {b t : Nat} {u : Value}, Boxed A b t u → Boxed C b t u := fun hb => hb.kept hg (fun e => by
    obtain ⟨-, o, ho, hc⟩ := hr _ e.symm
    have := (show A.heap[_]? = _ from hb).symm.trans ho
    cases this
    cases hc)
  refine ⟨v, hbox b, ownsRow_same o (fun g hgv => ?_), hbox b1, k.grown hg (fun i e h => by have := (hr i e).1; omega), Nat.le_trans z hg.size, l⟩
  obtain ⟨-, o', ho, hc⟩ := row_cells o hgv
  refine hg.block g (Array.getElem?_eq_some_iff.1 ho).1 (fun e => ?_)
  obtain ⟨-, o'', ho', hc'⟩ := hr _ e.symm
  rw [ho] at ho'
  cases ho'
  rw [hc] at hc'
  cases hc'
theorem piX_own (M Z : Nat) (m : Int) (w : World) (c : Code) {B : Nat} (hB : w.heap.size ≤ B) : OwnFrom B (PiX M Z m w c) := by
  rintro es A C row ⟨h1, pre, x, h2, h3, h4⟩ hg hr
  exact ⟨h1, pre, x, h2, piI_own M Z m w hB pre A C row h3 hg hr, h4⟩
theorem spM_own (xs : List (List Int)) (n : Int) (es : List SlE) {B : Nat} : OwnFrom B (fun (_ : Unit) W => SpM xs n es W) := Own.from (fun _ A W row hs hg hr => by
  have k : KpM (fun _ => False) A W := ⟨⟨hg.size, fun b h => h.elim⟩, fun b cs fr e => (hg.block b (Array.getElem?_eq_some_iff.1 e).1 (fun h => by
    obtain ⟨o, ho, hc⟩ := hr _ h.symm
    rw [e] at ho
    cases ho
    cases hc)).trans e⟩
  exact hs.on k) _
theorem sM_own (xs : List (List Int)) (n : Int) (es : List SlE) {B : Nat} : OwnFrom B (fun (_ : Unit) W => SM xs n es W) := Own.from (fun _ A W row hs hg hr => by
  have k : KpM (fun _ => False) A W := ⟨⟨hg.size, fun b h => h.elim⟩, fun b cs fr e => (hg.block b (Array.getElem?_eq_some_iff.1 e).1 (fun h => by
    obtain ⟨o, ho, hc⟩ := hr _ h.symm
    rw [e] at ho
    cases ho
    cases hc)).trans e⟩
  exact ⟨hs.1.on k, hs.2⟩) _
theorem SpM.front {xs : List (List Int)} {n : Int} {es : List SlE} {x : SlE} {W : World} (h : SpM xs n (es ++ [x]) W) : SpM xs n es W :=
  ⟨fun j hj => h.1 j (by rw [List.length_append]; omega), fun j y e => h.2 j y (by rw [List.getElem?_append_left ((List.getElem?_eq_some_iff.1 e).1)]; exact e)⟩
theorem make_sl1 (w : World) (y : Option Addr) (k d : Nat) : (Instr.buildSlice 42 1 #[(0, .slice y k d)]).run Try.prog w = .ok (.slice (some ⟨w.heap.size, 0, none⟩) 1 1) (w.alloc (.cells #[.slice y k d] 22 (0, 0))) := by go_simp
theorem info_sl : (Try.prog.info? 22).map (fun i => (i.zero, i.size, i.bytes)) = some (some (.slice none 0 0), 1, 24) := by kernel_rfl
theorem pcs_notnil (w : World) (f : Nat) (c : Array Value) : (binOp BinOp.eql 72 (.func (.func f) #[] c) .nilFunc).run Try.prog w = .ok (.bool false) w := by kernel_rfl

set_option maxRecDepth 100000 in
set_option maxHeartbeats 4000000 in
theorem lpieces_in (N : Nat) (hN : 3 ≤ N) (v : Value) (xs : List (List Int)) (n m : Int) (hn : -9223372036854775808 ≤ n ∧ n < 9223372036854775808) (w : World) (hs : MkSl w v xs) (hx : xs.length ≤ 100000) :
    CallsIn Fence.wide N Try.prog 26 #[v, .int .i64 n, .int .i64 m] w fun e w' => ∃ v' es, e = .returned v' ∧ (SpM xs n es w' ∧ (es.length = m.toNat ∨ (es.length ≤ m.toNat ∧ ¬ okM xs n es.length))) ∧
      w'.ownsRow w.heap.size 22 1 v' es.length (es.map svE) ∧ Kp Nb w w' := by
  have h1 : 1 ≤ N := by omega
  have hnil := fun (w : World) (c : Array Value) => pcs_notnil w 59 c
  obtain ⟨y, d, rfl⟩ := hs.shape
  obtain ⟨M, hM⟩ : ∃ M, w.heap.size = M := ⟨_, rfl⟩
  obtain ⟨V, hV⟩ : ∃ V, V = (w.alloc (.cells #[.int .i64 m] 3)).alloc (.cells #[.slice none 0 0] 42) := ⟨_, rfl⟩
  have hVs : V.heap.size = M + 2 := by rw [hV, ← hM]; simp
  have b0 := Boxed.new w 3 (.int .i64 m)
  have b1 := Boxed.new (w.alloc (.cells #[.int .i64 m] 3)) 42 (.slice none 0 0)
  simp only [World.size_alloc] at b1
  have d0 : Hid (Boxed V M 3 (.int .i64 m)) := hid (by rw [hV, ← hM]; exact b0.alloc _)
  have d1 : Hid (Boxed V (M + 1) 42 (.slice none 0 0)) := hid (by rw [hV, ← hM]; exact b1)
  have K0 : Hid (Kp Nb w V) := hid (by rw [hV]; exact ((Kp.refl Nb w).alloc _).alloc _)
  have CC : Hid (Calls Try.prog 43 #[.slice y xs.length d, .int .i64 n] V fun e w' => ∃ Bk v', e = .returned (.func (.func 59) #[] #[.pointer (some ⟨Bk, 0, none⟩), .pointer (some ⟨M + 2, 0, none⟩)]) ∧
      Boxed w' Bk 22 v' ∧ Boxed w' (M + 2) 3 (.int .i64 n) ∧ MkSl w' v' xs ∧ (∀ g, v'.ownBlock = some g → M + 2 < g ∧ g < w'.heap.size) ∧ M + 2 < Bk ∧ Kp Nb V w') := hid (by
    have := mpieces_any (.slice y xs.length d) xs n V (hs.kept K0.out) hx
    rwa [hVs] at this)
  have HM := hid hM
  have HX := hid hx
  have HN := hid hn
  clear hs hx hn b0 b1 hVs
  refine callsIn_of_wp_marks Try.func26 rfl trivial ?_ rfl
  simp only [Try.ntmps26, List.size_toArray, List.length_cons, List.length_nil, Nat.reduceAdd, Nat.reduceSub, Array.replicate_succ, Array.replicate_zero, List.push_toArray, List.append_toArray, List.nil_append, List.cons_append]
  rw [hM]
  gi_wp2
  rw [← hV]
  clear hV
  gi_wp2_with (refine ⟨trivial, ?_⟩; gi_at_call 43; refine (callsIn_wide.2 CC.out).mono ?_; rintro r W0 ⟨Bk, v', rfl, p1, p2, p3, p4, p5, k0⟩)
  have K7 : Hid (Kp Nb w W0) := hid (K0.out.trans k0 (fun _ _ h => h))
  obtain ⟨Z, hZ⟩ : ∃ Z, W0.heap.size = Z := ⟨_, rfl⟩
  have HZ : Hid (M + 2 < Bk ∧ Bk < Z ∧ W0.heap.size = Z) := hid ⟨p5, by rw [← hZ]; exact p1.lt, hZ⟩
  have P4 : Hid (∀ g, v'.ownBlock = some g → M + 1 < g ∧ g < Z) := hid (fun g hg => by have := p4 g hg; rw [hZ] at this; omega)
  have HI0 : Hid (PiI M Z m w [] W0) := hid (by
    exact ⟨_, (k0.heap d1.out.lt (fun h => h)).trans d1.out, ⟨by simp, .inl ⟨rfl, rfl⟩⟩, (k0.heap d0.out.lt (fun h => h)).trans d0.out, K7.out, Nat.le_of_eq hZ.symm, by simp⟩)
  have SQ : Hid (SeqW Fence.wide (N - 1) Try.prog 59 #[.pointer (some ⟨Bk, 0, none⟩), .pointer (some ⟨M + 2, 0, none⟩)] encS (KpM (fun b => M + 1 < b ∧ b < Z)) (SM xs n) (SpM xs n) xs.length W0) := hid (by
    exact pieces_seq (N - 1) (by omega) Bk (M + 2) v' xs n HN.out HX.out _ W0 p1 p2 (fun b hb => by have := HZ.out; have : b < Z := hb.2; omega) ⟨by omega, by have := HZ.out; omega⟩ (StM.start p3 (fun g hg => P4.out g hg)))
  clear hZ p1 p2 p3 p4 p5 k0
  refine wpIn_rangeW rfl h1 (gf := 59) (lb := #[.pointer (some ⟨Bk, 0, none⟩), .pointer (some ⟨M + 2, 0, none⟩)]) rfl trivial (enters_of Try.func59 (by kernel_rfl) rfl)
    SQ.out (fun h k => h.trans k) (fun W l o o' hl hW hc => ⟨⟨by simp, fun b hb => World.putObj_heap_other (fun e' => by have := HZ.out; have : b < Z := hb.2; omega)⟩, fun b cs fr e => (World.putObj_heap_other (fun e' => by rw [e', hW] at e; cases e; cases hc)).trans e⟩)
    (fun es => sM_own xs n es) (fun es => spM_own xs n es) (Below.refl _ _) (fun x => rfl)
    (PiI M Z m w) (PiX M Z m w) (piI_own M Z m w K7.out.size) (fun c => piX_own M Z m w c K7.out.size) HI0.out
    (fun x a' _ => a' = { tmps := #[.slice y xs.length d, .int .i64 n, .int .i64 m, undef, undef, .pointer (some ⟨M, 0, none⟩), .slice none 0 0, .pointer (some ⟨M + 1, 0, none⟩), svE x, .slice y xs.length d, .int .i64 n, .func (.func 59) #[] #[.pointer (some ⟨Bk, 0, none⟩), .pointer (some ⟨M + 2, 0, none⟩)], svE x, undef, undef, undef, undef, undef, undef, undef, undef, undef], defers := [] })
    (fun x a' => static_ownW _) ?assign ?body ?done ?stop
  case assign =>
    intro l pre x W R hI hR
    obtain ⟨y2, k2, d2⟩ := x
    gi_wp2
    refine hR _ _ (KeepsFrom.refl _ _) (KpM.refl _ _) hI rfl
  case body =>
    rintro l pre x a' W ⟨u, b, o, b1, k, z, lm⟩ rfl hlt
    obtain ⟨y2, k2, d2⟩ := x
    obtain ⟨p1, q1, rfl⟩ := own_shape o
    have c0 := b.cell
    have c1 := b1.cell
    have HO := hid o
    have HBX := hid b
    have HB1 := hid b1
    have HKW := hid k
    have HZW := hid z
    have HLM := hid lm
    have HLT := hid hlt
    clear b o b1 k z lm hlt
    by_cases hge : m ≤ (pre.length : Int)
    · gi_wp2
      exact ⟨KeepsFrom.refl _ _, KpM.refl _ _, rfl, pre, _, rfl, ⟨_, HBX.out, HO.out, HB1.out, HKW.out, HZW.out, HLM.out⟩, hge⟩
    · have MK := hid (make_sl1 W y2 k2 d2)
      obtain ⟨i0, hi, hz0, hz1, hz2⟩ := info_parts info_sl
      obtain ⟨g, hg⟩ : ∃ g, W.heap.size = g := ⟨_, rfl⟩
      rw [hg] at MK
      obtain ⟨V, hV⟩ : ∃ V, V = W.alloc (.cells #[.slice y2 k2 d2] 22 (0, 0)) := ⟨_, rfl⟩
      rw [← hV] at MK
      have KV : Hid (Kp Nb W V) := hid (by rw [hV]; exact (Kp.refl Nb W).alloc _)
      have BV : Hid (Blk V g 22 [.slice y2 k2 d2]) := hid (by rw [hV, ← hg]; exact Blk.new W _ _)
      have B2 : Hid (pre.length + 1 ≤ maxLen ∧ (pre.length + 1) * 24 ≤ 140737488355328 ∧ Z ≤ V.heap.size) := hid (by
        have := HLT.out
        have := HX.out
        refine ⟨?_, ?_, Nat.le_trans HZW.out KV.out.size⟩
        · unfold maxLen; omega
        · omega)
      clear hV hg
      gi_wp2_with (first
        | (refine wpListIn_stepL rfl _ _ (by intro c hc; cases hc) (by simp [Oper.about]) (exec_buildSlice rfl (qs := #[(0, .slice y2 k2 d2)]) (by simp [Act.eval, Act.put]) MK.out) ?_)
        | (gi_at_builtin; refine wpListIn_append_own _ rfl _ _ 42 rfl Z 22 i0 _ 1 24 Try.underlying42 hi hz0 hz1 hz2 rfl (by decide) _ pre.length (pre.map svE) rfl (ownsRow_kp HO.out KV.out) ⟨g, 0, none⟩ 1 1 [.slice y2 k2 d2] rfl rfl (fun j u hu => ?cells) (by simp [Value.oneCell']) B2.out.1 B2.out.2.1 B2.out.2.2 ?_))
      case cells => have := range_of BV.out j u hu; rwa [Nat.zero_add] at this
      intro v10 w10 hown hgrow _
      obtain ⟨a10, c10, rfl⟩ := own_shape hown
      obtain ⟨e1, e2, e3, e4, e5, e6, e7, e8, e9⟩ := pl_step (M := M + 1) (B := W0.heap.size) (by decide) (by decide) KV.out (ownsRow_kp HO.out KV.out) hgrow HBX.out (by have := HZ.out; omega) hown
      have f1 := e7 _ _ _ HB1.out (by have := HZ.out; omega) (by omega)
      have HYS : Hid (PiI M Z m w (pre ++ [(y2, (k2, d2))]) (w10.setCell ⟨M + 1, 0, none⟩ (.slice a10 (pre.length + 1) c10))) := hid ⟨_, e5, by simpa using e6, f1, e8 w HKW.out (by have := HM.out; omega), Nat.le_trans HZW.out e9, by rw [List.length_append, List.length_singleton]; have := HLM.out; omega⟩
      have E3 := hid e3
      have E4 := hid (e4 HZW.out)
      clear e3 e4 e5 e6 e7 e8 e9 f1 hown hgrow
      gi_wp2
      exact ⟨E3.out, E4.out, HYS.out⟩
  case done =>
    rintro D es W hD hS ⟨u, b, o, b1, k, z, lm⟩ hK
    obtain ⟨p1, q1, rfl⟩ := own_shape o
    have c1 := b.cell
    have HO := hid (ownsRow_le (base' := M) o (by have := HZ.out; omega))
    have HKW := hid k
    have HD := hid hD
    have HK := hid hK
    have HS := hid (show SpM xs n es W ∧ (es.length = m.toNat ∨ (es.length ≤ m.toNat ∧ ¬ okM xs n es.length)) from ⟨hS.1, .inr ⟨lm, hS.2⟩⟩)
    clear b o b1 k z hD hK hS lm
    gi_wp2
    refine ⟨by simp, .inl ⟨_, _, rfl, run_takeDeferred HK.out, ?_⟩⟩
    refine ⟨_, results_tmp rfl _ _ _, _, es, rfl, ?_, ?_, ?_⟩
    · exact ⟨(spM_own xs n es (B := 0)).putObj (s := ()) _ HS.out.1 (Nat.zero_le _) HK.out rfl, HS.out.2⟩
    · exact ownsRow_putObj (W := W) HO.out _ HK.out rfl
    · exact HKW.out.putNew (by have := HZ.out; have := HM.out; have := HD.out; omega) _
  case stop =>
    rintro D c es W hD hS ⟨rfl, pre, x, rfl, ⟨u, b, o, b1, k, z, lm⟩, hge⟩ hK
    obtain ⟨p1, q1, rfl⟩ := own_shape o
    have c1 := b.cell
    have HO := hid (ownsRow_le (base' := M) o (by have := HZ.out; omega))
    have HKW := hid k
    have HD := hid hD
    have HK := hid hK
    have HS := hid (show SpM xs n pre W ∧ (pre.length = m.toNat ∨ (pre.length ≤ m.toNat ∧ ¬ okM xs n pre.length)) from ⟨hS.front, .inl (by omega)⟩)
    clear b o b1 k z hD hK hS lm hge
    gi_wp2
    refine ⟨by simp, .inl ⟨_, _, rfl, run_takeDeferred HK.out, ?_⟩⟩
    refine ⟨_, results_tmp rfl _ _ _, _, pre, rfl, ?_, ?_, ?_⟩
    · exact ⟨(spM_own xs n pre (B := 0)).putObj (s := ()) _ HS.out.1 (Nat.zero_le _) HK.out rfl, HS.out.2⟩
    · exact ownsRow_putObj (W := W) HO.out _ HK.out rfl
    · exact HKW.out.putNew (by have := HZ.out; have := HM.out; have := HD.out; omega) _

end Go.Proofs.Ytijlmfmpfjjlpaa
