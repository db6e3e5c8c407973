/-
  Layer 19: frames one behind the other: the iterator All. Conditions: bytes; fewer than 2^46 of them.
-/
import Derived.Test.YtmgmghlflldepaaFrD
import Derived.Test.YtmgmghlflldepaaSeqW
import Derived.Test.YtmgmghlflldepaaColl
import Derived.RangeFuncNested
import Derived.RangeFuncBound
import Derived.RangeFuncCalls
import Derived.RangeFuncLeaves
import Derived.Shelf.Abstract
import Derived.Shelf.RegionOpen
import Derived.OwnWalkIn
import Derived.TacticsInMore
import Derived.LoopNIn
import Derived.LoopIn
namespace Go.Proofs.Ytmgmghlflldepaa
open Go.RowKit Go.Shelf
attribute [local go_sem] Oper.semAt_some

/-- Where the k-th frame stands, if there are so many. -/
def stepsN (s : Nat → Nat) : Nat → Nat
  | 0 => 0
  | k + 1 => stepsN s k + s (stepsN s k)
theorem stepsN_succ (s : Nat → Nat) (k : Nat) : stepsN s (k + 1) = stepsN s k + s (stepsN s k) := rfl
def atF (zs : List Int) (k : Nat) : Nat := stepsN (fun p => (nextF (zs.drop p)).2.2.1.toNat) k
def frF (zs : List Int) (k : Nat) : Int × List Int × Int × Int := nextF (zs.drop (atF zs k))
def okF (zs : List Int) (k : Nat) : Prop := (frF zs k).2.2.2 = 0
theorem next_size (zs : List Int) (h : (nextF zs).2.2.2 = 0) : 8 ≤ (nextF zs).2.2.1 ∧ (nextF zs).2.2.1 ≤ zs.length := by
  obtain ⟨c, hc⟩ : ∃ c, zs.take 2061 = c := ⟨_, rfl⟩
  have hcl : c.length ≤ zs.length := by rw [← hc, List.length_take]; omega
  have hE : nxE c = 0 := by
    by_cases e : nxE c = 0
    · exact e
    · rw [next_err hc rfl e] at h; exact absurd h e
  rw [next_ok hc hE]
  have hF : (nxF c).2.2 = 0 := by
    unfold nxE at hE
    split at hE
    · cases hE
    · exact hE
  have hl := nxT_le c
  have h8 : 8 ≤ (nxT c).2.1.length := by
    unfold nxF fixN at hF
    split at hF
    · rename_i h1; exact absurd hF h1
    · split at hF
      · cases hF
      · split at hF
        · cases hF
        · rename_i h1 h2 h3; omega
  have hh : (nxH c).length = c.length - (nxT c).2.1.length := by unfold nxH; rw [List.length_take]; omega
  dsimp only
  omega
theorem atF_succ (zs : List Int) (k : Nat) : atF zs (k + 1) = atF zs k + (frF zs k).2.2.1.toNat := by
  unfold frF
  unfold atF
  exact stepsN_succ _ k
theorem frF_size (zs : List Int) (k : Nat) (h : okF zs k) : 8 ≤ (frF zs k).2.2.1 ∧ (frF zs k).2.2.1 ≤ ((zs.length - atF zs k : Nat) : Int) := by
  unfold okF frF at h
  unfold frF
  have h3 := next_size (zs.drop (atF zs k)) h
  rw [List.length_drop] at h3
  exact h3
theorem atF_le (zs : List Int) (k : Nat) (h : ∀ j, j < k → okF zs j) : atF zs k ≤ zs.length ∧ 8 * k ≤ atF zs k := by
  induction k with
  | zero => exact ⟨Nat.zero_le _, by rw [Nat.mul_zero]; exact Nat.zero_le _⟩
  | succ k ih =>
    have h1 := ih fun j hj => h j (by omega)
    have h3 := frF_size zs k (h k (by omega))
    rw [atF_succ]
    obtain ⟨s, hs⟩ : ∃ s, (frF zs k).2.2.1 = s := ⟨_, rfl⟩
    obtain ⟨a, ha⟩ : ∃ a, atF zs k = a := ⟨_, rfl⟩
    rw [hs, ha] at h3
    rw [ha] at h1
    rw [hs, ha]
    clear hs ha h ih
    omega
abbrev FrE3 := Nat × (Int × (Option Addr × (Nat × Nat)))
abbrev svF (t : Option Addr × (Nat × Nat)) : Value := .slice t.1 t.2.1 t.2.2
structure RelF (zs : List Int) (W : World) (j : Nat) (x : FrE3) : Prop where
  at' : x.1 = atF zs j
  kind : x.2.1 = (frF zs j).1
  body : BySl Nb W (svF x.2.2) (frF zs j).2.1
  ty : T8 W (svF x.2.2)
def SpF (zs : List Int) (xs : List FrE3) (W : World) : Prop := (∀ j, j < xs.length → okF zs j) ∧ ∀ j x, xs[j]? = some x → RelF zs W j x
def SF (zs : List Int) (xs : List FrE3) (W : World) : Prop := SpF zs xs W ∧ ¬ okF zs xs.length
/-- What is kept: blocks of bytes, and boxes that hold slices of bytes. -/
def K8 (W W' : World) : Prop := W.heap.size ≤ W'.heap.size ∧ ∀ (B : Nat) (cs : Array Value) (t : TypeId) (fr : Nat × Nat), W.heap[B]? = some (Obj.cells cs t fr) → (t = 5 ∨ t = 22) → W'.heap[B]? = some (Obj.cells cs t fr)
theorem K8.trans {A B C : World} (h : K8 A B) (k : K8 B C) : K8 A C := ⟨Nat.le_trans h.1 k.1, fun b cs t fr e ht => k.2 b cs t fr (h.2 b cs t fr e ht) ht⟩
theorem K8.nb {W W' : World} (h : Kp Nb W W') : K8 W W' := ⟨h.size, fun _ _ _ _ e _ => (h.heap (Array.getElem?_eq_some_iff.1 e).1 (fun h => h)).trans e⟩
theorem T8.k8 {W W' : World} {v : Value} (h : T8 W v) (k : K8 W W') : T8 W' v := fun g hg => by
  obtain ⟨cs, fr, e⟩ := h g hg
  exact ⟨cs, fr, k.2 g cs _ fr e (.inl rfl)⟩
theorem by_k8 {W W' : World} {v : Value} {zs : List Int} (h : BySl Nb W v zs) (ht : T8 W v) (k : K8 W W') : BySl Nb W' v zs := by
  refine ⟨h.1, ?_⟩
  rcases h.2 with h2 | ⟨blk, off, cap, rfl, hc, hm, hb, hn⟩
  · exact .inl h2
  · refine .inr ⟨blk, off, cap, rfl, hc, hm, fun i hi => ?_, hn⟩
    obtain ⟨cs, fr, e⟩ := ht blk rfl
    exact (World.cell?_of_block ((k.2 blk cs _ fr e (.inl rfl)).trans e.symm)).trans (hb i hi)
theorem RelF.k8 {zs : List Int} {W W' : World} {j : Nat} {x : FrE3} (h : RelF zs W j x) (k : K8 W W') : RelF zs W' j x := ⟨h.at', h.kind, by_k8 h.body h.ty k, h.ty.k8 k⟩
theorem SpF.k8 {zs : List Int} {xs : List FrE3} {W W' : World} (h : SpF zs xs W) (k : K8 W W') : SpF zs xs W' := ⟨h.1, fun j x e => (h.2 j x e).k8 k⟩
theorem SpF.snoc {zs : List Int} {xs : List FrE3} {W : World} (h : SpF zs xs W) {x : FrE3} (ho : okF zs xs.length) (hx : RelF zs W xs.length x) : SpF zs (xs ++ [x]) W := by
  refine ⟨fun j hj => ?_, fun j y e => ?_⟩
  · rw [List.length_append, List.length_singleton] at hj
    rcases Nat.lt_or_ge j xs.length with h' | h'
    · exact h.1 j h'
    · have e : j = xs.length := by omega
      rw [e]; exact ho
  · rcases Nat.lt_or_ge j xs.length with h' | h'
    · rw [List.getElem?_append_left h'] at e; exact h.2 j y e
    · rw [List.getElem?_append_right h'] at e
      have e0 : j - xs.length = 0 := by
        have := (List.getElem?_eq_some_iff.1 e).1
        simp at this; omega
      rw [e0] at e
      have e1 : j = xs.length := by omega
      simp at e
      rw [e1, ← e]; exact hx

set_option maxRecDepth 100000 in
set_option maxHeartbeats 4000000 in
theorem all1_in (m : Nat) (hm : 1 ≤ m) (l Bb : Nat) (v : Value) (zs : List Int) (hbig : zs.length ≤ 70368744177664) (J Jx : List FrE3 → World → Prop)
    (hJ : ∀ pre W W', J pre W → Kp Nb W W' → J pre W')
    (hY : ∀ (pre : List FrE3) (x : FrE3) (W : World), J pre W → pre.length < zs.length + 1 → YieldAt Fence.wide (m - 1) Try.prog l #[.int .i64 (x.1 : Int), frV x.2.1 (svF x.2.2)] W fun r W' =>
      K8 W W' ∧ ((r = .returned (.bool true) ∧ J (pre ++ [x]) W') ∨ (r = .returned (.bool false) ∧ Jx (pre ++ [x]) W')))
    (W : World) (hE : Boxed W Bb 22 v) (hv : BySl Nb W v zs) (ht : T8 W v) (h0 : J [] W) :
    CallsIn Fence.wide m Try.prog 49 #[.func (.yield l) #[] #[], .pointer (some ⟨Bb, 0, none⟩)] W fun r W' => (∃ v, r = .returned v) ∧
      ((∃ xs, SF zs xs W' ∧ J xs W') ∨ (∃ pre, SpF zs pre W' ∧ Jx pre W')) := by
  have HY := hid hY
  have HE := hid hE
  have HV := hid hv
  have HT := hid ht
  have HJ := hid h0
  have HJK := hid hJ
  have HB := hid hbig
  clear hY hE h0 hbig hv ht hJ
  refine callsIn_of_wp Try.func49 rfl trivial ?_ rfl
  simp only [Try.ntmps49, List.size_toArray, List.length_cons, List.length_nil, Nat.reduceAdd, Nat.reduceSub, Array.replicate_succ, Array.replicate_zero, List.push_toArray, List.append_toArray, List.nil_append, List.cons_append]
  gi_wp2
  gi_loopw [3] (fun i wr => ∃ xs : List FrE3, i = .int .i64 (atF zs xs.length : Int) ∧ Hid (J xs wr) ∧ Hid (SpF zs xs wr) ∧ Hid (K8 W wr)) (fun i _ => zs.length + 1 - (intOf i).toNat)
  case atStart => exact ⟨[], by rw [show atF zs ([] : List FrE3).length = 0 from rfl]; rfl, HJ, hid ⟨fun j hj => absurd hj (Nat.not_lt_zero _), fun j x e => by simp at e⟩, hid ⟨Nat.le_refl _, fun _ _ _ _ e _ => e⟩⟩
  case round =>
    obtain ⟨xs, rfl, hJk, hS, hK⟩ := hrel
    obtain ⟨p, hp⟩ : ∃ p, atF zs xs.length = p := ⟨_, rfl⟩
    have hle := atF_le zs xs.length hS.out.1
    rw [hp] at hle
    have HPL := hid hle
    have HPB := hid hp
    have hE2 : Boxed wr Bb 22 v := hK.out.2 Bb _ _ _ HE.out (.inr rfl)
    have cE := hE2.cell
    have HV2 := hid (by_k8 HV.out HT.out hK.out)
    obtain ⟨x, d, VL, BL⟩ := HV2.out.cutL p hle.1
    have HBL := hid BL
    have HN : Hid (frF zs xs.length = nextF (zs.drop p)) := hid (by unfold frF; rw [hp])
    obtain ⟨N, hN⟩ : ∃ N, nextF (zs.drop p) = N := ⟨_, rfl⟩
    have CN : Hid (Calls Try.prog 23 #[.slice x (zs.length - p) d] wr fun e w' => ∃ b, e = .returned (.tuple #[frV N.1 b, .int .i64 N.2.2.1, .int .i64 N.2.2.2]) ∧ (BySl Nb w' b N.2.1 ∧ T8 w' b) ∧ Kp Nb wr w') := hid (by
      rw [← hN]
      exact fnext_any _ (zs.drop p) wr BL (by rw [List.length_drop]; have := HB.out; omega))
    have HSZ : Hid (N.2.2.2 = 0 → 8 ≤ N.2.2.1 ∧ N.2.2.1 ≤ ((zs.length - p : Nat) : Int)) := hid (fun h => by
      have h2 := frF_size zs xs.length (by unfold okF; rw [HN.out, hN]; exact h)
      rw [HN.out, hN, hp] at h2
      exact h2)
    rw [hN] at HN
    rw [hp]
    obtain ⟨k, bs, sz, er⟩ := N
    dsimp only at CN HSZ
    clear hN hp hle hE2 BL HV2
    by_cases he : er = 0
    · subst he
      have hs := HSZ.out rfl
      have HOK : Hid (okF zs xs.length) := hid (by unfold okF; rw [HN.out])
      have HLN : Hid (xs.length < zs.length + 1) := hid (by have := HPL.out; omega)
      have hszb : 0 ≤ sz ∧ sz ≤ 70368744177664 := by have := HB.out; omega
      have hpb : p ≤ 70368744177664 := by have := HPL.out; have := HB.out; omega
      obtain ⟨s, rfl⟩ : ∃ s : Nat, sz = (s : Int) := ⟨sz.toNat, by omega⟩
      have HAT : Hid (atF zs (xs.length + 1) = p + s) := hid (by rw [atF_succ, HN.out, HPB.out]; dsimp only; rw [Int.toNat_natCast])
      have HMS : Hid (p + s ≤ zs.length ∧ 8 ≤ s) := hid (by have := HPL.out; omega)
      clear hs HSZ
      gi_wp2_with (refine ⟨trivial, ?_⟩; gi_at_call 23; refine (callsIn_wide.2 CN.out).mono ?_; rintro r w2 ⟨b, rfl, ⟨b2, t2⟩, k2⟩; obtain ⟨yb, db, rfl⟩ := b2.shp; have HK3 := hid (k2.alloc (.cells #[.int .i64 k, .slice yb bs.length db] 24 (0, 0))); have HB3 := hid (b2.kept ((Kp.refl Nb w2).alloc (.cells #[.int .i64 k, .slice yb bs.length db] 24 (0, 0))) (fun _ h => h)); have HT3 := hid (t2.kept ((Kp.refl Nb w2).alloc (.cells #[.int .i64 k, .slice yb bs.length db] 24 (0, 0))) (fun _ _ h => h)); obtain ⟨fn, tmps, assign, body, hy, hR⟩ := HY.out xs (p, (k, (yb, (bs.length, db)))) (w2.alloc (.cells #[.int .i64 k, .slice yb bs.length db] 24 (0, 0))) (HJK.out _ _ _ hJk.out HK3.out) HLN.out; have HRR := hid hR; dsimp only at hy; clear hR b2 t2 k2 cE)
      refine HRR.out.mono ?_
      rintro r W3 ⟨kk, (⟨rfl, hJ3⟩ | ⟨rfl, hJx3⟩)⟩
      · have SX : Hid (SpF zs (xs ++ [(p, (k, (yb, (bs.length, db))))]) W3) := hid (SpF.snoc (hS.out.k8 ((K8.nb HK3.out).trans kk)) HOK.out ⟨HPB.out.symm, by rw [HN.out], by rw [HN.out]; exact by_k8 HB3.out HT3.out kk, HT3.out.k8 kk⟩)
        have KX := hid (hK.out.trans ((K8.nb HK3.out).trans kk))
        have JX := hid hJ3
        clear hJ3 kk hy
        gi_wp2
        all_goals
          go_roundw
          case rel => exact ⟨_, by rw [List.length_append, List.length_singleton, HAT.out]; go_num, JX, SX, KX⟩
          case measure => have := HMS.out; simp [intOf]; omega
      · have SX : Hid (SpF zs (xs ++ [(p, (k, (yb, (bs.length, db))))]) W3) := hid (SpF.snoc (hS.out.k8 ((K8.nb HK3.out).trans kk)) HOK.out ⟨HPB.out.symm, by rw [HN.out], by rw [HN.out]; exact by_k8 HB3.out HT3.out kk, HT3.out.k8 kk⟩)
        have JX := hid hJx3
        clear hJx3 kk hy
        gi_wp2
        refine bodyPost_ret (results_none rfl _ _ _) rfl ?_
        exact ⟨⟨_, rfl⟩, .inr ⟨_, SX.out, JX.out⟩⟩
    · have hne : (er != 0) = true := by simpa using he
      have HNO : Hid (¬ okF zs xs.length) := hid (by unfold okF; rw [HN.out]; exact he)
      clear he HSZ
      gi_wp2_with (refine ⟨trivial, ?_⟩; gi_at_call 23; refine (callsIn_wide.2 CN.out).mono ?_; rintro r w2 ⟨b, rfl, ⟨b2, t2⟩, k2⟩; obtain ⟨yb, db, rfl⟩ := b2.shp; have HK3 := hid (k2.alloc (.cells #[.int .i64 k, .slice yb bs.length db] 24 (0, 0))); clear b2 t2 k2 cE)
      refine ⟨(fun f h => by cases h), ?_⟩
      gi_wp2
      refine bodyPost_ret (results_none rfl _ _ _) rfl ?_
      exact ⟨⟨_, rfl⟩, .inl ⟨xs, ⟨hS.out.k8 (K8.nb HK3.out), HNO.out⟩, HJK.out _ _ _ hJk.out HK3.out⟩⟩

/-- The iterator's contract. -/
theorem all_seq (n : Nat) (hn : 1 ≤ n) (Bb : Nat) (v : Value) (zs : List Int) (hbig : zs.length ≤ 70368744177664) (w : World) (hE : Boxed w Bb 22 v) (hv : BySl Nb w v zs) (ht : T8 w v) :
    SeqW Fence.wide n Try.prog 49 #[.pointer (some ⟨Bb, 0, none⟩)] (fun x : FrE3 => #[Value.int .i64 (x.1 : Int), frV x.2.1 (svF x.2.2)]) K8 (SF zs) (SpF zs) (zs.length + 1) w := fun l J Jx W hW hJ _ hY h0 => by
  have k : Kp Nb w W := Kp.of_below hW
  refine all1_in n hn l Bb v zs hbig J Jx (fun pre A C hj hk => hJ pre A C none hj ⟨hk.os, hk.tape, hk.output, hk.size, fun i hi _ => hk.block i hi (fun h => h)⟩ (fun r e => by cases e)) hY W ?_ (hv.kept k (fun _ h => h)) (ht.kept k (fun _ _ h => h)) h0
  exact (k.heap (Array.getElem?_eq_some_iff.1 (show w.heap[Bb]? = some _ from hE)).1 (fun h => h)).trans hE

set_option maxRecDepth 100000 in
set_option maxHeartbeats 1000000 in
theorem fall_any (v : Value) (zs : List Int) (w : World) (hv : BySl Nb w v zs) (hbig : zs.length ≤ 70368744177664) :
    Calls Try.prog 30 #[v] w fun e w' => ∃ Bb v', e = .returned (.func (.func 49) #[] #[.pointer (some ⟨Bb, 0, none⟩)]) ∧ Boxed w' Bb 22 v' ∧ BySl Nb w' v' zs ∧ T8 w' v' ∧ w.heap.size ≤ Bb ∧ Kp Nb w w' := by
  obtain ⟨y, d, rfl⟩ := hv.shp
  obtain ⟨Bb, hBb⟩ : ∃ N, N = w.heap.size := ⟨_, rfl⟩
  obtain ⟨W, hW⟩ : ∃ W, W = w.alloc (.cells #[.slice y zs.length d] 22) := ⟨_, rfl⟩
  have HB0 : Hid (Boxed W Bb 22 (.slice y zs.length d)) := hid (by rw [hW, hBb]; exact Boxed.new w _ _)
  have K0 : Hid (Kp Nb w W) := hid (by rw [hW]; exact (Kp.refl Nb w).alloc _)
  have LB : Hid (w.heap.size ≤ Bb) := hid (Nat.le_of_eq hBb.symm)
  have HZ := hid hv.1
  have CC := hid (clone_any _ zs W (hv.kept K0.out (fun _ h => h)) (by omega))
  have c0 := HB0.out.cell
  clear hv hbig
  go_enter Try.func30, Try.ntmps30
  go_upto_region 1 with fail
  rw [show w.alloc (.cells #[.slice y zs.length d] 22) = W from hW.symm, ← hBb]
  clear hW hBb
  go_wp2_with fail
  refine CC.out.mono ?_
  rintro e w1 ⟨r, rfl, ho, k1⟩
  have hb1 : Boxed w1 Bb 22 (.slice y zs.length d) := (k1.heap HB0.out.lt (fun h => h)).trans HB0.out
  have HB1 := hid hb1
  have c1 := hb1.cell
  have f1 := hb1.frozen
  have B2 : Hid (BySl Nb (w1.setCell ⟨Bb, 0, none⟩ r) r zs) := hid (by
    refine BySl.ofOwn (base := W.heap.size) (ownsRow_same ho fun g hg => ?_) HZ.out (fun _ _ _ h => h)
    exact Below.heap_setCell _ _ _ _ (by have := (row_cells ho hg).1; have := HB0.out.lt; intro e; dsimp only at e; omega))
  have T2 : Hid (T8 (w1.setCell ⟨Bb, 0, none⟩ r) r) := hid (T8.set (T8.own ho) (fun g hg => by have := (row_cells ho hg).1; have := HB0.out.lt; omega) r)
  have X2 : Hid (Boxed (w1.setCell ⟨Bb, 0, none⟩ r) Bb 22 r) := hid (hb1.set r)
  have K2 : Hid (Kp Nb w (w1.setCell ⟨Bb, 0, none⟩ r)) := hid ((K0.out.trans k1 (fun _ _ h => h)).setCell (p := ⟨Bb, 0, none⟩) (fun h => absurd h (Nat.not_lt.2 LB.out)) _)
  obtain ⟨yr, dr, rfl⟩ := own_shape ho
  clear ho k1 hb1 c0
  go_wp2
  go_ret
  exact ⟨Bb, _, rfl, X2.out, B2.out, T2.out, LB.out, K2.out⟩

end Go.Proofs.Ytmgmghlflldepaa
