/-
  Layer 9: a list in pieces: the iterator. Conditions: marks of 16 bytes; at most 100,000 of them.
-/
import Derived.Test.YtijlmfmpfjjlpaaMaF
namespace Go.Proofs.Ytijlmfmpfjjlpaa
open Go.RowKit Go.Shelf
attribute [local go_sem] Oper.semAt_some

/-- A slice's own block is one of marks. -/
def TyM (W : World) (v : Value) : Prop := ∀ g, v.ownBlock = some g → ∃ cs fr, W.heap[g]? = some (Obj.cells cs 24 fr)
section
attribute [local go_sem] Oper.semAt_some
theorem mclone2_any (v : Value) (ms : List (List Int)) (w : World) (h : MkSl w v ms) (hbig : ms.length ≤ 100000) :
    Calls Try.prog 36 #[v] w fun e w' => ∃ v', e = .returned v' ∧ MkSl w' v' ms ∧ (∀ g, v'.ownBlock = some g → w.heap.size ≤ g ∧ g < w'.heap.size) ∧ TyM w' v' ∧ Kp Nb w w' := by
  have q22 : ∀ (w : World) (a : Option Addr) (n c n' c' : Nat), (binOp .eql 22 (.slice a n c) (.slice none n' c')).run Try.prog w = .ok (.bool a.isNone) w := fun w a n c n' c' => Lib.run_eql_slice_nil w _ _ a n c n' c' Try.underlying22
  have HO := hid h.1
  have HR := hid (mk_rows h)
  have HLN := hid (mk_len h.1)
  obtain ⟨y, d, rfl⟩ := h.shape
  obtain ⟨n, hn⟩ : ∃ n, ms.length = n := ⟨_, rfl⟩
  rw [hn] at HR hbig ⊢
  have HN := hid hn
  have HB := hid hbig
  clear hn h
  cases y with
  | none =>
    have h0 : ms = [] := by
      rcases HR.out with ⟨-, h0⟩ | ⟨blk, off, cap, e, -⟩
      · exact h0
      · injection e with e; cases e
    subst h0
    go_enter Try.func36, Try.ntmps36
    go_wp2
    go_ret
    exact ⟨_, rfl, ⟨HO.out, .inl ⟨⟨_, _, rfl⟩, rfl⟩⟩, fun g hg => by simp [Value.ownBlock] at hg, fun g hg => by simp [Value.ownBlock] at hg, Kp.refl _ _⟩
  | some a =>
    obtain ⟨i0, z, hi, hz0, hz1, hz2, hz3⟩ := mark_info3L
    have FR : Hid (RowsSl markL (List.replicate 16 0) 16 (w.alloc (.cells #[] 24 (0, 0))) (.slice (some a) n d) ms) := hid (HR.out.kept ((Kp.refl Nb w).alloc _))
    have FL : Hid (∀ q ∈ ms, (markL q).length = 16) := hid (fun q hq => by rw [markL_length]; exact HLN.out q hq)
    have LL : Hid (0 + ms.length ≤ maxLen ∧ (0 + ms.length) * 16 ≤ 140737488355328) := hid (by rw [HN.out]; unfold maxLen; omega)
    clear HR
    go_enter Try.func36, Try.ntmps36
    go_wp2_with (at_builtin; refine wpList_append_rows (f := markL) (z := List.replicate 16 0) (c := 16) rfl _ _ 22 rfl w.heap.size 24 i0 z 16 Try.underlying22 hi hz0 hz1 hz2 hz3 (by decide) _ 0 [] rfl (World.ownsRow_made w #[] 0 (Nat.le_refl _) (Nat.zero_le _) rfl) _ ms rfl FR.out FL.out (fun q _ => markL_one' q) LL.out.1 LL.out.2 ((Kp.refl Nb w).alloc _).size ?_)
    intro v9 w9 hown hgrow
    have hk := hid (((Kp.refl Nb w).alloc (.cells #[] 24)).grown hgrow (fun k hk h => by simp [Value.ownBlock] at hk; omega))
    have HO9 : Hid (w9.ownsRow w.heap.size 24 16 v9 ms.length (flatR markL ms)) := hid (by simpa only [Nat.zero_add, List.nil_append] using hown)
    have RS : Hid (MkSl w9 v9 ms) := hid ⟨HO.out, rows_owned HO9.out FL.out⟩
    have OW : Hid (∀ g, v9.ownBlock = some g → w.heap.size ≤ g ∧ g < w9.heap.size) := hid (fun g hg => by obtain ⟨h1, o, ho, -⟩ := row_cells HO9.out hg; exact ⟨h1, (Array.getElem?_eq_some_iff.1 ho).1⟩)
    have TY : Hid (TyM w9 v9) := hid (fun g hg => by
      rcases HO9.out.2 with ⟨e, _⟩ | ⟨g', cap, cur, e, hb, hgg, _⟩
      · rw [e] at hg; simp [Value.ownBlock] at hg
      · rw [e] at hg
        have : g' = g := by simpa [Value.ownBlock] using hg
        subst this
        exact ⟨_, _, hgg⟩)
    obtain ⟨y9, c9, rfl⟩ := own_shape HO9.out
    clear hown hgrow HO9
    go_wp2
    go_ret
    exact ⟨_, rfl, RS.out, OW.out, TY.out, hk.out⟩
end

def pieceN (xs : List (List Int)) (c j : Nat) : List (List Int) := (xs.drop (c * j)).take c
def okM (xs : List (List Int)) (n : Int) (j : Nat) : Prop := 0 < n ∧ n.toNat * j < xs.length
abbrev SlE := Option Addr × (Nat × Nat)
abbrev svE (t : SlE) : Value := .slice t.1 t.2.1 t.2.2
/-- What is kept: the blocks of S, and all blocks of marks. -/
def KpM (S : Nat → Prop) (W W' : World) : Prop := KpB S W W' ∧ ∀ (b : Nat) (cs : Array Value) (fr : Nat × Nat), W.heap[b]? = some (Obj.cells cs 24 fr) → W'.heap[b]? = some (Obj.cells cs 24 fr)
theorem KpM.refl (S : Nat → Prop) (W : World) : KpM S W W := ⟨KpB.refl _ _, fun _ _ _ h => h⟩
theorem KpM.trans {S : Nat → Prop} {A B C : World} (h : KpM S A B) (k : KpM S B C) : KpM S A C := ⟨h.1.trans k.1, fun b cs fr e => k.2 b cs fr (h.2 b cs fr e)⟩
theorem KpM.nb {S : Nat → Prop} {W W' : World} (h : ∀ b, S b → b < W.heap.size) (k : Kp Nb W W') : KpM S W W' := ⟨KpB.nb h k, fun _ _ _ e => (k.heap (Array.getElem?_eq_some_iff.1 e).1 (fun h => h)).trans e⟩
theorem TyM.on {S : Nat → Prop} {W W' : World} {v : Value} (h : TyM W v) (k : KpM S W W') : TyM W' v := fun g hg => by
  obtain ⟨cs, fr, e⟩ := h g hg
  exact ⟨cs, fr, k.2 g cs fr e⟩
theorem mk_km {S : Nat → Prop} {W W' : World} {v : Value} {ms : List (List Int)} (h : MkSl W v ms) (ht : TyM W v) (k : KpM S W W') : MkSl W' v ms := by
  refine ⟨h.1, ?_⟩
  rcases h.2 with h2 | ⟨blk, off, cap, rfl, hc, hm, hr⟩
  · exact .inl h2
  · refine .inr ⟨blk, off, cap, rfl, hc, hm, fun i hi j u hu => ?_⟩
    obtain ⟨cs, fr, e⟩ := ht blk rfl
    exact (World.cell?_of_block ((k.2 blk cs fr e).trans e.symm)).trans (hr i hi j u hu)
def RelM (xs : List (List Int)) (n : Int) (W : World) (j : Nat) (x : SlE) : Prop := MkSl W (svE x) (pieceN xs n.toNat j) ∧ TyM W (svE x)
def SpM (xs : List (List Int)) (n : Int) (es : List SlE) (W : World) : Prop := (∀ j, j < es.length → okM xs n j) ∧ ∀ j x, es[j]? = some x → RelM xs n W j x
def SM (xs : List (List Int)) (n : Int) (es : List SlE) (W : World) : Prop := SpM xs n es W ∧ ¬ okM xs n es.length
theorem SpM.on {S : Nat → Prop} {xs : List (List Int)} {n : Int} {es : List SlE} {W W' : World} (h : SpM xs n es W) (k : KpM S W W') : SpM xs n es W' := ⟨h.1, fun j x e => ⟨mk_km (h.2 j x e).1 (h.2 j x e).2 k, (h.2 j x e).2.on k⟩⟩
theorem SpM.snoc {xs : List (List Int)} {n : Int} {es : List SlE} {W : World} (h : SpM xs n es W) {x : SlE} (ho : okM xs n es.length) (hx : RelM xs n W es.length x) : SpM xs n (es ++ [x]) W := by
  refine ⟨fun j hj => ?_, fun j y e => ?_⟩
  · rw [List.length_append, List.length_singleton] at hj
    rcases Nat.lt_or_ge j es.length with h' | h'
    · exact h.1 j h'
    · have e : j = es.length := by omega
      rw [e]; exact ho
  · rcases Nat.lt_or_ge j es.length with h' | h'
    · rw [List.getElem?_append_left h'] at e; exact h.2 j y e
    · rw [List.getElem?_append_right h'] at e
      have e0 : j - es.length = 0 := by
        have := (List.getElem?_eq_some_iff.1 e).1
        simp at this; omega
      rw [e0] at e
      have e1 : j = es.length := by omega
      simp at e
      rw [e1, ← e]; exact hx

theorem StM.cutN {S : Nat → Prop} {w : World} {v : Value} {ms : List (List Int)} (h : StM S w v ms) (n : Nat) (h0 : n ≤ ms.length) :
    ∃ x d, (∀ W, (Instr.slice 22 v (some (.int .i64 (n : Int))) none none).run Try.prog W = .ok (.slice x (ms.length - n) d) W) ∧ StM S w (.slice x (ms.length - n) d) (ms.drop n) := by
  obtain ⟨x, d, h1, -⟩ := h.here.cutL n h0
  refine ⟨x, d, h1, fun W k => ?_⟩
  obtain ⟨x', d', h1', h2'⟩ := (h W k).cutL n h0
  have e := (h1' w).symm.trans (h1 w)
  injection e with e _
  rw [← e]
  exact h2'
theorem piece_cut (xs xs' : List (List Int)) (c k s nA : Nat) (hD : xs' = xs.drop (c * k)) (hN : xs'.length = nA) (h0 : ¬ nA = 0) (hc : 0 < c) (hs : min c nA = s) :
    xs'.take s = pieceN xs c k ∧ xs'.drop s = xs.drop (c * (k + 1)) ∧ c * k < xs.length ∧ k < xs.length := by
  have hl : xs.length - c * k = nA := by rw [← hN, hD, List.length_drop]
  have h3 : c * k < xs.length := by omega
  have h4 : k ≤ c * k := Nat.le_mul_of_pos_left k hc
  refine ⟨?_, ?_, h3, by omega⟩
  · unfold pieceN
    rw [← hD]
    by_cases h : c ≤ nA
    · rw [show s = c by omega]
    · rw [show s = nA by omega, ← hN, List.take_length, List.take_of_length_le (by omega)]
  · by_cases h : c ≤ nA
    · rw [show s = c by omega, hD, List.drop_drop, Nat.mul_add, Nat.mul_one]
    · rw [show s = nA by omega, ← hN, List.drop_length, List.drop_of_length_le (by rw [Nat.mul_add, Nat.mul_one]; omega)]

set_option maxRecDepth 100000 in
set_option maxHeartbeats 4000000 in
theorem pieces1_in (m : Nat) (hm : 1 ≤ m) (l Bk Bn : Nat) (v : Value) (xs : List (List Int)) (n : Int) (hn : -9223372036854775808 ≤ n ∧ n < 9223372036854775808) (hx : xs.length ≤ 100000) (S : Nat → Prop) (J Jx : List SlE → World → Prop)
    (hJ : ∀ pre W W', J pre W → Kp Nb W W' → J pre W')
    (hY : ∀ (pre : List SlE) (x : SlE) (W : World), J pre W → pre.length < xs.length → YieldAt Fence.wide (m - 1) Try.prog l #[svE x] W fun r W' =>
      KpM S W W' ∧ ((r = .returned (.bool true) ∧ J (pre ++ [x]) W') ∨ (r = .returned (.bool false) ∧ Jx (pre ++ [x]) W')))
    (W : World) (b1 : Boxed W Bk 22 v) (b2 : Boxed W Bn 3 (.int .i64 n)) (hS : ∀ b, S b → b < W.heap.size) (sn : S Bn) (ha : StM S W v xs) (h0 : J [] W) :
    CallsIn Fence.wide m Try.prog 59 #[.func (.yield l) #[] #[], .pointer (some ⟨Bk, 0, none⟩), .pointer (some ⟨Bn, 0, none⟩)] W fun r W' => (∃ v, r = .returned v) ∧
      ((∃ es, SM xs n es W' ∧ J es W') ∨ (∃ pre, SpM xs n pre W' ∧ Jx pre W')) := by
  have HY := hid hY
  have HJK := hid hJ
  have HJ := hid h0
  have HS := hid hS
  have HA0 := hid ha
  have HX := hid hx
  have c1 := b1.cell
  have HB2 := hid b2
  have HSN := hid sn
  have HN := hid hn
  have KD0 : Hid (Kp Nb W W.drew) := hid (Kp.refl Nb W).drew
  have KD : Hid (KpM S W W.drew) := hid (KpM.nb hS KD0.out)
  clear hY hJ h0 hS ha hx b1 b2 sn hn
  refine callsIn_of_wp Try.func59 rfl trivial ?_ rfl
  simp only [Try.ntmps59, List.size_toArray, List.length_cons, List.length_nil, Nat.reduceAdd, Nat.reduceSub, Array.replicate_succ, Array.replicate_zero, List.push_toArray, List.append_toArray, List.nil_append, List.cons_append]
  gi_wp2
  gi_loopw [4] (fun u wr => ∃ (es : List SlE) (xs' : List (List Int)), Hid (xs' = xs.drop (n.toNat * es.length)) ∧ Hid (StM S wr u xs') ∧ Hid (SpM xs n es wr) ∧ Hid (J es wr) ∧ Hid (KpM S W wr)) (fun u _ => lenS u)
  case atStart => exact ⟨[], xs, hid (by simp), HA0, hid ⟨fun j hj => absurd hj (Nat.not_lt_zero _), fun j x e => by simp at e⟩, HJ, hid (KpM.refl _ _)⟩
  case round =>
    obtain ⟨es, xs', hD, hA, hP, hJk, hK⟩ := hrel
    obtain ⟨pa, da, rfl⟩ := hA.out.here.shape
    obtain ⟨nA, hnA⟩ : ∃ n, xs'.length = n := ⟨_, rfl⟩
    have HNA := hid hnA
    have hbA : nA ≤ 100000 := by
      rw [← hnA, hD.out, List.length_drop]
      have := HX.out
      omega
    rw [hnA]
    rw [hnA] at hA
    have b2 : Boxed wr Bn 3 (.int .i64 n) := (hK.out.1.2 Bn HSN.out).trans HB2.out
    have c2 := b2.cell
    have hnn := HN.out
    clear hnA b2 c1
    by_cases hn : 0 < n
    · obtain ⟨c, rfl⟩ : ∃ c : Nat, n = (c : Int) := ⟨n.toNat, by omega⟩
      rw [Int.toNat_natCast] at hD
      by_cases h0 : nA = 0
      · subst h0
        have HE : Hid (SM xs (c : Int) es wr) := hid ⟨hP.out, fun h => by
          have h2 := h.2
          rw [Int.toNat_natCast] at h2
          have h3 := HNA.out
          rw [hD.out, List.length_drop] at h3
          omega⟩
        gi_wp2
        go_end0
        exact ⟨⟨_, rfl⟩, .inl ⟨es, HE.out, hJk.out⟩⟩
      · have hpos : 0 < nA := by omega
        obtain ⟨s, hs⟩ : ∃ s, min c nA = s := ⟨_, rfl⟩
        have hs1 : 1 ≤ s ∧ s ≤ nA := by omega
        obtain ⟨xH, dH, cutH, BH⟩ := hA.out.here.cutH s (by rw [HNA.out]; exact hs1.2)
        obtain ⟨xL, dL, cutL, BL0⟩ := hA.out.cutN s (by rw [HNA.out]; exact hs1.2)
        rw [HNA.out] at cutL BL0
        have hmin : min (c : Int) (nA : Int) = (s : Int) := by omega
        have hpc := piece_cut xs xs' c es.length s nA hD.out HNA.out h0 (by omega) hs
        have HPC := hid hpc
        have BL := hid BL0
        have HTL : (xs'.take s).length = s := by rw [List.length_take, HNA.out]; omega
        have CL : Hid (Calls Try.prog 36 #[.slice xH s dH] wr fun e w' => ∃ y d, e = .returned (svE (y, (s, d))) ∧ RelM xs (c : Int) w' es.length (y, (s, d)) ∧ Kp Nb wr w') := hid (by
          refine (mclone2_any (.slice xH s dH) (xs'.take s) wr BH (by rw [HTL]; omega)).mono ?_
          rintro e w2 ⟨v', rfl, h1, -, h3, h4⟩
          obtain ⟨y, d, rfl⟩ := h1.shape
          rw [HTL] at h1 h3 ⊢
          exact ⟨y, d, rfl, ⟨by rw [Int.toNat_natCast, ← HPC.out.1]; exact h1, h3⟩, h4⟩)
        have HOK : Hid (okM xs (c : Int) es.length) := hid ⟨hn, by rw [Int.toNat_natCast]; exact hpc.2.2.1⟩
        have HSB : Hid (∀ b, S b → b < wr.heap.size) := hid (fun b hb => Nat.lt_of_lt_of_le (HS.out b hb) hK.out.1.1)
        have HS1 := hid hs1
        clear BH BL0 HTL hpc hs hs1
        gi_wp2_with (refine ⟨trivial, ?_⟩; gi_at_call 36; refine (callsIn_wide.2 CL.out).mono ?_; rintro r w2 ⟨y, d, rfl, h1, k2⟩; have K2 := hid k2; have R2 := hid h1; obtain ⟨fn, tmps, assign, body, hy, hR⟩ := HY.out es (y, (s, d)) w2 (HJK.out _ _ _ hJk.out k2) HPC.out.2.2.2; have HRR := hid hR; clear k2 h1 hR)
        refine HRR.out.mono ?_
        rintro r W3 ⟨kk, (⟨rfl, hJ3⟩ | ⟨rfl, hJx3⟩)⟩
        · have KX := hid ((KpM.nb HSB.out K2.out).trans kk)
          have SX : Hid (SpM xs (c : Int) (es ++ [(y, (s, d))]) W3) := hid (SpM.snoc (hP.out.on KX.out) HOK.out ⟨mk_km R2.out.1 R2.out.2 kk, R2.out.2.on kk⟩)
          have JX := hid hJ3
          clear hJ3 kk hy
          gi_wp2
          all_goals
            go_roundw
            case rel => exact ⟨_, _, hid (by rw [List.length_append, List.length_singleton, Int.toNat_natCast]; exact HPC.out.2.1), hid (BL.out.on KX.out.1), SX, JX, hid (hK.out.trans KX.out)⟩
            case measure => have := HS1.out; simp [lenS]; omega
        · have KX := hid ((KpM.nb HSB.out K2.out).trans kk)
          have SX : Hid (SpM xs (c : Int) (es ++ [(y, (s, d))]) W3) := hid (SpM.snoc (hP.out.on KX.out) HOK.out ⟨mk_km R2.out.1 R2.out.2 kk, R2.out.2.on kk⟩)
          have JX := hid hJx3
          clear hJx3 kk hy
          gi_wp2
          refine bodyPost_ret (results_none rfl _ _ _) rfl ?_
          exact ⟨⟨_, rfl⟩, .inr ⟨_, SX.out, JX.out⟩⟩
    · have HE : Hid (SM xs n es wr) := hid ⟨hP.out, fun h => hn h.1⟩
      have hn' : n ≤ 0 := by omega
      gi_wp2
      go_end0
      exact ⟨⟨_, rfl⟩, .inl ⟨es, HE.out, hJk.out⟩⟩

end Go.Proofs.Ytijlmfmpfjjlpaa
