/-
  Layer 22: the rows' iterator as a sequence; Total, of a ledger and of none. Conditions: rows of 64 bits.
-/
import Derived.Test.YtjipcmhknikcgaaDoorLgF
import Derived.WalkMore
namespace Go.Proofs.YtjipcmhknikcgaaDoor
open Go.RowKit Go.Shelf
attribute [local go_sem] Oper.semAt_some

abbrev encR (rs : List RwQ) (x : Nat) : Array Value := #[.int .i64 ((x : Int) + 1), rV (rowAt rs x)]
theorem rows_seq (n : Nat) (hn : 1 ≤ n) (Ba : Nat) (rs : List RwQ) (w : World) (hs : ArAt w Ba rs) :
    SeqW Fence.wide n Tryd.prog 30 #[.pointer (some ⟨Ba, 0, none⟩)] (encR rs) Kp0 (fun xs _ => xs = nzT rs 14) (fun pre _ => ∃ k, k ≤ 14 ∧ pre = nzT rs k) 14 w := fun l J Jx W hW hJ _ hY h0 =>
  rows1_in n hn l Ba rs hs.len J Jx (fun pre A C hj hk => hJ pre A C none hj ⟨hk.os, hk.tape, hk.output, hk.size, fun i hi _ => hk.block i hi (fun h => h)⟩ (fun r e => by cases e)) (fun pre x W h1 h2 _ => hY pre x W h1 h2) W (hs.blk.kept (Kp.of_below (S := Nb) hW) (fun h => h)) h0
theorem rows_seqF (n : Nat) (hn : 1 ≤ n) (Ba : Nat) (rs : List RwQ) (w : World) (hs : ArAt w Ba rs) :
    SeqW Fence.wide n Tryd.prog 30 #[.pointer (some ⟨Ba, 0, none⟩)] (fun x : Fin 14 => encR rs x.val) Kp0 (fun xs _ => xs.map Fin.val = nzT rs 14) (fun pre _ => ∃ k, k ≤ 14 ∧ pre.map Fin.val = nzT rs k) 14 w := fun l J Jx W hW hJ _ hY h0 => by
  refine (rows1_in n hn l Ba rs hs.len (fun pre W => ∃ pf : List (Fin 14), pf.map Fin.val = pre ∧ J pf W) (fun pre W => ∃ pf : List (Fin 14), pf.map Fin.val = pre ∧ Jx pf W) ?_ ?_ W (hs.blk.kept (Kp.of_below (S := Nb) hW) (fun h => h)) ⟨[], rfl, h0⟩).mono ?_
  · rintro pre A C ⟨pf, rfl, hj⟩ hk
    exact ⟨pf, rfl, hJ pf A C none hj ⟨hk.os, hk.tape, hk.output, hk.size, fun i hi _ => hk.block i hi (fun h => h)⟩ (fun r e => by cases e)⟩
  · rintro pre x W ⟨pf, rfl, hj⟩ h1 h2
    have h1 : pf.length < 14 := by simpa using h1
    obtain ⟨fn, tmps, assign, body, hy, hR⟩ := hY pf ⟨x, h2⟩ W hj h1
    refine ⟨fn, tmps, assign, body, hy, hR.mono ?_⟩
    rintro e W' ⟨-, h | h⟩
    · exact ⟨trivial, .inl ⟨h.1, pf ++ [⟨x, h2⟩], by simp, h.2⟩⟩
    · exact ⟨trivial, .inr ⟨h.1, pf ++ [⟨x, h2⟩], by simp, h.2⟩⟩
  · rintro e W' ⟨h, ⟨xs, hx, pf, hp, hj⟩ | ⟨pre, hk, pf, rfl, hj⟩⟩
    · exact ⟨h, .inl ⟨pf, hp.trans hx, hj⟩⟩
    · exact ⟨h, .inr ⟨pf, hk, hj⟩⟩
theorem kp0_t {A B C : World} (_ : Kp0 A B) (_ : Kp0 B C) : Kp0 A C := trivial
theorem static_ownW (P : Prop) {B : Nat} : OwnFrom B (fun (_ : Unit) (_ : World) => P) := Own.from (fun _ _ _ _ hs _ _ => hs) _
/-- A block of cells abides the turn of a block that is none. -/
theorem blk_turn {A B : World} {row : Option Nat} {b t : Nat} {vs : List Value} (hs : Blk A b t vs) (hg : A.grownBy B row) (hr : ∀ r, row = some r → ∃ o : Obj, A.heap[r]? = some o ∧ o.isCells = false) : Blk B b t vs :=
  (hg.block b hs.lt (fun e => by
    obtain ⟨o, ho, hc⟩ := hr _ e.symm
    rw [show A.heap[b]? = _ from hs] at ho
    cases ho
    cases hc)).trans hs
theorem kp_own (S : Nat → Prop) (w : World) {B : Nat} (hB : w.heap.size ≤ B) : OwnFrom B (fun (_ : Unit) W => Kp S w W) := fun _ _ _ row hs hg hr => hs.grown hg (fun k e h => by have := (hr k e).1; omega)
theorem Kp.keepsFrom {S : Nat → Prop} {W W' : World} (k : Kp S W W') (B : Nat) (hS : ∀ i, S i → ∃ cs t fr, W.heap[i]? = some (.cells cs t fr)) : KeepsFrom B W W' :=
  ⟨k.size, fun i o _ hi ho => by
    by_cases h : S i
    · obtain ⟨cs, t, fr, e⟩ := hS i h
      rw [e] at hi
      cases hi
      cases ho
    · exact (k.heap (Array.getElem?_eq_some_iff.1 hi).1 h).trans hi⟩
theorem Kp.keepsNb {W W' : World} (k : Kp Nb W W') (B : Nat) : KeepsFrom B W W' := k.keepsFrom B (fun _ h => h.elim)

theorem Blk.putObj {w : World} {B t D : Nat} {vs : List Value} {o : Obj} (h : Blk w B t vs) (hD : B ≠ D) : Blk (w.putObj D o) B t vs := (World.putObj_heap_other hD).trans h
theorem Kp.putNew {S : Nat → Prop} {a b : World} (h : Kp S a b) {D : Nat} (hD : a.heap.size ≤ D) (o : Obj) : Kp S a (b.putObj D o) := ⟨h.os, h.tape, h.output, by simpa using h.size, fun i hi hn => (World.putObj_heap_other (fun e => by omega)).trans (h.block i hi hn)⟩
/-- What is added so far. -/
def accR (rs : List RwQ) (pre : List Nat) : RwQ := pre.foldl (fun s x => sumR s (rowAt rs x)) (0, 0)
theorem accR_snoc (rs : List RwQ) (pre : List Nat) (x : Nat) : accR rs (pre ++ [x]) = sumR (accR rs pre) (rowAt rs x) := by simp [accR]
theorem accR_ok {rs : List RwQ} (h : ∀ q ∈ rs, RwOk q) (pre : List Nat) : RwOk (accR rs pre) := by
  unfold accR
  suffices ∀ (s : RwQ), RwOk s → RwOk (pre.foldl (fun s x => sumR s (rowAt rs x)) s) from this _ row0_ok
  induction pre with
  | nil => exact fun s hs => hs
  | cons x xs ih => exact fun s hs => ih _ (sumR_ok hs (rowAt_ok h x))
/-- A row loaded from or stored at a block of its own. -/
theorem rw_load0 {w : World} {B : Nat} {q : RwQ} (h : Blk w B 29 (rL q)) : (Instr.loadAt 29 (.pointer (some ⟨B, 0, none⟩))).run Tryd.prog w = .ok (rV q) w := rw_load q (range_ofL h)
theorem rw_put {w : World} {B : Nat} {q : RwQ} (h : Blk w B 29 (rL q)) (r : RwQ) : ∃ W', (Instr.storeAt 29 (.pointer (some ⟨B, 0, none⟩)) (rV r)).run Tryd.prog w = .ok () W' ∧ Blk W' B 29 (rL r) ∧ Kp (Jb B) w W' :=
  ⟨w.setCells B 0 (rL r), rw_store r (h.there 0 2 (Nat.le_refl _)), row_set h rfl, Kp.setCells (S := Jb B) (fun _ => rfl) _ _ _ (Kp.refl _ w)⟩
theorem rw_new (w : World) : (Instr.alloc 29 true (.tuple #[])).run Tryd.prog w = .ok (.pointer (some ⟨w.heap.size, 0, none⟩)) (w.alloc (.cells (rL (0, 0)).toArray 29)) := by kernel_rfl
/-- A variable made and filled. -/
theorem rw_fresh (w : World) (r : RwQ) : ∃ W', (Instr.storeAt 29 (.pointer (some ⟨w.heap.size, 0, none⟩)) (rV r)).run Tryd.prog (w.alloc (.cells (rL (0, 0)).toArray 29)) = .ok () W' ∧ Blk W' w.heap.size 29 (rL r) ∧ Kp Nb w W' := by
  obtain ⟨W', h1, h2, h3⟩ := rw_put (Blk.new w 29 (rL (0, 0))) r
  exact ⟨W', h1, h2, ⟨h3.os, h3.tape, h3.output, Nat.le_trans (by simp) h3.size, fun i hi _ => (h3.block i (by simp; omega) (fun e => by have : i = w.heap.size := e; omega)).trans (Below.heap_alloc _ _ _ hi)⟩⟩

def TotI (w : World) (Bt : Nat) (rs : List RwQ) (pre : List Nat) (W : World) : Prop := Blk W Bt 29 (rL (accR rs pre)) ∧ Kp Nb w W
theorem totI_own (w : World) (Bt : Nat) (rs : List RwQ) {B : Nat} (hB : w.heap.size ≤ B) : OwnFrom B (TotI w Bt rs) :=
  fun _ _ _ _ hs hg hr => ⟨blk_turn hs.1 hg (fun r e => (hr r e).2), hs.2.grown hg (fun k e h => by have := (hr k e).1; omega)⟩
/-- A round's own row. -/
def AxR (Z : Nat) (rs : List RwQ) (fr : Nat → Act) (x : Nat) (a' : Act) (W : World) : Prop := ∃ N, Z ≤ N ∧ a' = fr N ∧ Blk W N 29 (rL (rowAt rs x))
theorem axR_own (Z : Nat) (rs : List RwQ) (fr : Nat → Act) (x : Nat) (a' : Act) {B : Nat} : OwnFrom B (fun (_ : Unit) W => AxR Z rs fr x a' W) :=
  Own.from (fun _ A W row hs hg hr => by
    obtain ⟨N, h1, h2, h3⟩ := hs
    exact ⟨N, h1, h2, blk_turn h3 hg hr⟩) _

set_option maxRecDepth 100000 in
set_option maxHeartbeats 4000000 in
theorem total_in (n : Nat) (hn : 3 ≤ n) (p : Option Nat) (rs : List RwQ) (w : World) (h : LgO w p rs) :
    CallsIn Fence.wide n Tryd.prog 15 #[lgP p] w fun e w' => e = .returned (rV (accR rs (nzT rs 14))) ∧ Kp Nb w w' := by
  have h1 : 1 ≤ n := by omega
  have OK := hid h.len
  have CR : Hid (∀ wx, Kp Nb w wx → Calls Tryd.prog 22 #[lgP p] wx fun e w' => ∃ Ba, e = .returned (.func (.func 30) #[] #[.pointer (some ⟨Ba, 0, none⟩)]) ∧ ArAt w' Ba rs ∧ wx.heap.size ≤ Ba ∧ Kp Nb wx w') := hid (fun wx k => lrows_any p rs wx (h.kept k (fun _ _ h => h)))
  obtain ⟨P, hP⟩ : ∃ P, lgP p = P := ⟨_, rfl⟩
  rw [hP] at CR ⊢
  clear h hP
  refine callsIn_of_wp_marks Tryd.func15 rfl trivial ?_ rfl
  simp only [Tryd.ntmps15, List.size_toArray, List.length_cons, List.length_nil, Nat.reduceAdd, Nat.reduceSub, Array.replicate_succ, Array.replicate_zero, List.push_toArray, List.append_toArray, List.nil_append, List.cons_append]
  obtain ⟨V1, hV1⟩ : ∃ V, V = w.alloc (.cells (rL (0, 0)).toArray 29) := ⟨_, rfl⟩
  obtain ⟨V2, hV2⟩ : ∃ V, V = V1.alloc (.cells (rL (0, 0)).toArray 29) := ⟨_, rfl⟩
  obtain ⟨M, hM⟩ : ∃ M, w.heap.size = M := ⟨_, rfl⟩
  have hs1 : V1.heap.size = M + 1 := by rw [hV1, ← hM]; simp
  have A1 : Hid ((Instr.alloc 29 true (.tuple #[])).run Tryd.prog w = .ok (.pointer (some ⟨M, 0, none⟩)) V1) := hid (by rw [hV1, ← hM]; exact rw_new w)
  have A2 : Hid ((Instr.alloc 29 true (.tuple #[])).run Tryd.prog V1 = .ok (.pointer (some ⟨M + 1, 0, none⟩)) V2) := hid (by rw [hV2, ← hs1]; exact rw_new V1)
  have D1 : Blk V2 M 29 (rL (0, 0)) := by rw [hV2, hV1, ← hM]; exact (Blk.new w _ _).alloc _
  have D2 : Blk V2 (M + 1) 29 (rL (0, 0)) := by rw [hV2, ← hs1]; exact Blk.new V1 _ _
  have K2 : Kp Nb w V2 := by rw [hV2, hV1]; exact ((Kp.refl Nb w).alloc _).alloc _
  have C0 := hid (CR.out V2 K2)
  have D1 := hid D1
  have D2 := hid D2
  have K2 := hid K2
  have HM := hid hM
  clear hV1 hV2 hs1 hM CR
  gi_wp2_with (first
    | (refine wpListIn_stepL rfl _ _ (by intro c hc; cases hc) (by simp [Oper.about]) (exec_allocL rfl A1.out) ?_)
    | (refine wpListIn_stepL rfl _ _ (by intro c hc; cases hc) (by simp [Oper.about]) (exec_allocL rfl A2.out) ?_)
    | (refine ⟨trivial, ?_⟩; gi_at_call 22; refine (callsIn_wide.2 C0.out).mono ?_; rintro r W0 ⟨Ba, rfl, har, -, k0⟩; have KW0 := hid k0; have HAR := hid har; clear har k0))
  have HB : Hid (Kp Nb w W0) := hid (K2.out.trans KW0.out (fun _ _ h => h))
  have HI0 : Hid (TotI w (M + 1) rs [] W0) := hid ⟨D2.out.kept KW0.out (fun h => h), HB.out⟩
  have HR0 : Hid (Blk W0 M 29 (rL (0, 0))) := hid (D1.out.kept KW0.out (fun h => h))
  have HZ : Hid (M + 2 ≤ W0.heap.size ∧ w.heap.size = M) := hid ⟨by have := (D2.out.kept KW0.out (fun h => h)).lt; omega, HM.out⟩
  refine wpIn_rangeW rfl h1 (gf := 30) (lb := #[.pointer (some ⟨Ba, 0, none⟩)]) rfl trivial (enters_of Tryd.func30 (by kernel_rfl) rfl)
    (rows_seq (n - 1) (by omega) Ba rs W0 HAR.out) kp0_t (fun _ _ _ _ _ _ _ => trivial) (fun xs => static_ownW _) (fun xs => static_ownW _) (Below.refl _ _) (fun x => rfl)
    (fun pre W => TotI w (M + 1) rs pre W ∧ Blk W M 29 (rL (0, 0))) (fun _ _ _ => False) ?ownI (fun _ _ _ _ _ hs _ _ => hs) ⟨HI0.out, HR0.out⟩
    (fun x a' W => AxR (M + 2) rs (fun N => { tmps := #[P, undef, .pointer (some ⟨M, 0, none⟩), .pointer (some ⟨M + 1, 0, none⟩), undef, .pointer (some ⟨N, 0, none⟩), P, .func (.func 30) #[] #[.pointer (some ⟨Ba, 0, none⟩)], .int .i64 ((x : Int) + 1), rV (rowAt rs x), undef, undef, undef, undef], defers := [] }) x a' W)
    (fun x a' => axR_own _ _ _ x a') ?assign ?body ?done ?stop
  case ownI => exact OwnFrom.and (totI_own w (M + 1) rs HB.out.size) (Own.from (fun _ A W row hs hg hr => blk_turn hs hg hr) _)
  case assign =>
    rintro l pre x W R ⟨hI, hm⟩ hR
    have HI := hid hI
    have HM0 := hid hm
    have HR := hid hR
    obtain ⟨W5, s1, s2, s3⟩ := rw_fresh W (rowAt rs x)
    have ST : Hid ((Instr.storeAt 29 (.pointer (some ⟨W.heap.size, 0, none⟩)) (rV (rowAt rs x))).run Tryd.prog (W.alloc (.cells #[.int .u64 0, .int .u64 0] 29)) = .ok () W5) := hid s1
    have S2 := hid s2
    have S3 := hid s3
    have HSZ : Hid (M + 2 ≤ W.heap.size) := hid (by have := hI.1.lt; omega)
    clear hI hm hR s1 s2 s3
    gi_wp2_with (first
      | (refine wpListIn_storeL rfl 29 (.tmp 5) (.tmp 9) rfl (p := ⟨W.heap.size, 0, none⟩) (by rfl) (v := rV (rowAt rs x)) (by rfl) ST.out ?_)
      | (refine wpIn_store_at 29 (.tmp 5) (.tmp 9) rfl (p := ⟨W.heap.size, 0, none⟩) (by rfl) (v := rV (rowAt rs x)) (by rfl) ST.out ?_))
    exact HR.out _ _ (S3.out.keepsNb _) trivial ⟨⟨HI.out.1.kept S3.out (fun h => h), HI.out.2.trans S3.out (fun _ _ h => h)⟩, HM0.out.kept S3.out (fun h => h)⟩ ⟨_, HSZ.out, rfl, S2.out⟩
  case body =>
    rintro l pre x a' W ⟨hI, hm⟩ ⟨N, hN, rfl, hx⟩ hlt
    have HI := hid hI
    have HM0 := hid hm
    have HX := hid hx
    obtain ⟨q, hq⟩ : ∃ q, accR rs pre = q := ⟨_, rfl⟩
    obtain ⟨x', hx'⟩ : ∃ y, rowAt rs x = y := ⟨_, rfl⟩
    have LQ := hid (rw_load0 hI.1)
    have LX := hid (rw_load0 hx)
    have OQ : Hid (RwOk q) := hid (by rw [← hq]; exact accR_ok OK.out.2 pre)
    have OX : Hid (RwOk x') := hid (by rw [← hx']; exact rowAt_ok OK.out.2 x)
    have HSN : Hid (accR rs (pre ++ [x]) = sumR q x') := hid (by rw [accR_snoc, hq, hx'])
    obtain ⟨z, hz⟩ : ∃ z, sumR q x' = z := ⟨_, rfl⟩
    have CS : Hid (Calls Tryd.prog 23 #[rV q, rV x'] W fun e w' => e = .returned (rV z) ∧ Kp Nb W w') := hid (by rw [← hz]; exact lsum_any q x' W OQ.out OX.out)
    rw [hq] at LQ
    rw [hx'] at LX ⊢
    rw [hz] at HSN
    have hn2 : 1 ≤ n - 1 - 1 := by omega
    clear hI hm hx hq hx' hz
    gi_wp2_with (first
      | (refine wpListIn_valL rfl (by intro c hc; cases hc) (by simp [Oper.about]) _ (exec_loadL (T := 29) (a := ⟨M + 1, 0, none⟩) rfl rfl LQ.out) ?_)
      | (refine wpListIn_valL rfl (by intro c hc; cases hc) (by simp [Oper.about]) _ (exec_loadL (T := 29) (a := ⟨N, 0, none⟩) rfl rfl LX.out) ?_)
      | (refine ⟨trivial, ?_⟩; gi_at_call 23; refine (CallsIn.inRound l (callsIn_wide.2 CS.out)).mono ?_; rintro r w2 ⟨rfl, k2⟩; have K3 := hid k2; obtain ⟨W6, s1, s2, s3⟩ := rw_put (HI.out.1.kept k2 (fun h => h)) z; have ST := hid s1; have S2 := hid s2; have S3 := hid s3; clear s1 s2 s3 k2)
      | (refine wpIn_store_at 29 (.tmp 3) (.tmp 12) rfl (p := ⟨M + 1, 0, none⟩) (by rfl) (v := rV z) (by rfl) ST.out ?_))
    refine ⟨(K3.out.keepsNb _).trans (S3.out.keepsFrom _ (fun i hi => by cases hi; exact ⟨_, _, _, HI.out.1.kept K3.out (fun h => h)⟩)), trivial, ⟨by rw [HSN.out]; exact S2.out, ?_⟩, ?_⟩
    · exact (HI.out.2.trans K3.out (fun _ _ h => h)).trans (S' := Jb (M + 1)) S3.out (fun i hi h => by cases h; have := HZ.out; omega)
    · exact (HM0.out.kept K3.out (fun h => h)).kept S3.out (fun h => by cases h)
  case done =>
    rintro D xs W hD rfl ⟨hI, hm⟩ hK
    have HI := hid hI
    have HM0 := hid hm
    obtain ⟨q, hq⟩ : ∃ q, accR rs (nzT rs 14) = q := ⟨_, rfl⟩
    have LQ := hid (rw_load0 hI.1)
    rw [hq] at LQ
    have HQ := hid hq
    obtain ⟨W6, s1, s2, s3⟩ := rw_put hm q
    have ST := hid s1
    have S2 := hid s2
    have S3 := hid s3
    have HK := hid ((s3.block D (Array.getElem?_eq_some_iff.1 hK).1 (fun e => by cases e; have := HZ.out; omega)).trans hK)
    have HD := hid hD
    clear hI hm hK hD s1 s2 s3 hq
    gi_wp2_with (first
      | (refine wpListIn_valL rfl (by intro c hc; cases hc) (by simp [Oper.about]) _ (exec_loadL (T := 29) (a := ⟨M + 1, 0, none⟩) rfl rfl LQ.out) ?_)
      | (refine wpIn_store_at 29 (.tmp 2) (.tmp 13) rfl (p := ⟨M, 0, none⟩) (by rfl) (v := rV q) (by rfl) ST.out ?_))
    simp only [Act.put, List.setIfInBounds_toArray, List.set_cons_zero, List.set_cons_succ]
    refine ⟨by simp, .inl ⟨_, _, rfl, run_takeDeferred HK.out, ?_⟩⟩
    refine ⟨_, results_cell rfl _ M (by rfl) _ (rw_loadVar q (S2.out.putObj (fun e => by have := HZ.out; have := HD.out; omega))), by rw [HQ.out], ?_⟩
    exact ((HI.out.2.trans (S' := Jb M) S3.out (fun i hi h => by cases h; have := HZ.out; omega))).putNew (by have := HZ.out; have := HD.out; omega) _
  case stop =>
    rintro D c pre W _ _ h _
    exact h.elim

theorem total_any (p : Option Nat) (rs : List RwQ) (w : World) (h : LgO w p rs) : Calls Tryd.prog 15 #[lgP p] w fun e w' => e = .returned (rV (accR rs (nzT rs 14))) ∧ Kp Nb w w' :=
  callsIn_wide.1 (total_in 3 (Nat.le_refl _) p rs w h)

end Go.Proofs.YtjipcmhknikcgaaDoor
