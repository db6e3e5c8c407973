/-
  Layer 19: the first frames of bytes: the collector walked. Conditions: bytes; at most a million of them.
-/
import Derived.Test.YtmgmghlflldepaaFrG
namespace Go.Proofs.Ytmgmghlflldepaa
open Go.RowKit Go.Shelf
attribute [local go_sem] Oper.semAt_some

theorem collF_region {F : Fence} {n : Nat} {P : Program} {ops : Array Oper} {Q : Exit → Act → World → Prop} {rid N : Nat} {a : Act} {W : World} {q : CollAt} {y1 : Value} {pre : List FrE3} {x : FrE3} {tb1 tx1 tb2 tx2 d : Nat}
    (hmx : P.follows .mixedOrders = true) (hup : upsB ops = true) (hsz : ops.size = 10)
    {v1 v2 : Value} (b1 : Boxed W q.B1 q.T1 v1) (b2 : Boxed W q.B2 q.T2 v2) (o1 : W.ownsRow q.base q.e1 q.s1 v1 pre.length (pre.flatMap f1F)) (o2 : W.ownsRow q.base q.e2 q.s2 v2 pre.length (pre.flatMap f2F)) (hs : ∀ g, v1.ownBlock = some g → v2.ownBlock ≠ some g)
    {src : World → Prop} {xa x2 : Value}
    (k1 : (mkCh q.B1 q.T1 q.e1 q.s1 q.base pre.length v1 y1 (pre.flatMap f1F) (f1F x) tb1 tx1 d 0 8).Ok P ops N)
    (k2 : (mkChL q.B2 q.T2 q.e2 q.s2 q.base pre.length v2 xa x2 (pre.flatMap f2F) (f2F x) tb2 tx2 (d + 4) 4 9 src).Ok P ops N)
    (hsrc : ∀ w', Moves (S0F q v1 v2) W w' → src w')
    (hN : a.tmps.size = N) (t1 : a.eval (.tmp tb1) = .pointer (some ⟨q.B1, 0, none⟩)) (t2 : a.eval (.tmp tb2) = .pointer (some ⟨q.B2, 0, none⟩)) (x1 : a.eval (.tmp tx1) = y1) (x2' : a.eval (.tmp tx2) = xa)
    (hd1 : tb1 < d ∧ tx1 < d) (hd2 : tb2 < d ∧ tx2 < d) (hB : q.B1 ≠ q.B2) (e12 : q.T1 ≠ q.e2) (e21 : q.T2 ≠ q.e1) (hbase : q.base ≤ W.heap.size)
    (hQ : ∀ (a' : Act) (W' : World), Coll q f1F f2F (pre ++ [x]) W' → Moves (S0F q v1 v2) W W' → Q .normal a' W') :
    (Code.region rid ops true).wpIn F n P Q a W := by
  refine two_appends hmx (ups_of hup) k1 k2 hsz ?_ ?_ ?_ ?_ hN t1 t2 x1 x2' b1 b2 o1 o2 hB e12 e21 hs hbase hbase (fun _ _ => trivial) hsrc ?_
  · intro i hi
    simp only [mkCh, mkChL, List.mem_cons, List.not_mem_nil, or_false]
    omega
  · simp only [mkCh, mkChL, List.mem_cons, List.not_mem_nil, or_false]
    omega
  · simp only [mkCh, mkChL, List.mem_cons, List.not_mem_nil, or_false]
    omega
  · simp only [mkCh, mkChL, List.mem_cons, List.not_mem_nil, or_false]
    omega
  · rintro a' W' u1 u2 ⟨c1, c2⟩ ⟨c3, c4⟩ hsep hm
    refine hQ a' W' ⟨u1, u2, c1, c3, ?_, ?_, hsep⟩ hm
    · rw [List.length_append, List.flatMap_append, List.flatMap_singleton]
      exact c2
    · rw [List.length_append, List.flatMap_append, List.flatMap_singleton]
      exact c4

theorem two_one {k : Int} {v : Value} (h : ∃ y n d, v = Value.slice y n d) : ∀ u ∈ frL k v, u.oneCell' = true := by
  obtain ⟨y, n, d, rfl⟩ := h
  exact frL_one _ _

set_option maxRecDepth 100000 in
set_option maxHeartbeats 4000000 in
theorem lall_in (n : Nat) (hn : 3 ≤ n) (v : Value) (zs : List Int) (m : Int) (w : World) (hv : BySl Nb w v zs) (hbig : zs.length ≤ 1000000) :
    CallsIn Fence.wide n Try.prog 16 #[v, .int .i64 m] w fun e w' => ∃ v1 v2 xs, e = .returned (.tuple #[v1, v2]) ∧ (SpF zs xs w' ∧ (xs.length = m.toNat ∨ (xs.length ≤ m.toNat ∧ ¬ okF zs xs.length))) ∧
      w'.ownsRow w.heap.size 3 1 v1 xs.length (xs.flatMap f1F) ∧ w'.ownsRow w.heap.size 24 2 v2 xs.length (xs.flatMap f2F) ∧ Below w.heap.size w w' := by
  have h1 : 1 ≤ n := by omega
  have hnil := fun (w : World) (c : Array Value) => ff_notnil w 49 c
  have CC : Hid (∀ wx, Kp Nb w wx → Calls Try.prog 30 #[v] wx fun e w' => ∃ Bb v', e = .returned (.func (.func 49) #[] #[.pointer (some ⟨Bb, 0, none⟩)]) ∧ Boxed w' Bb 22 v' ∧ BySl Nb w' v' zs ∧ T8 w' v' ∧ wx.heap.size ≤ Bb ∧ Kp Nb wx w') :=
    hid fun wx k => fall_any v zs wx (hv.kept k (fun _ h => h)) (by omega)
  have HBIG := hid hbig
  clear hv hbig
  refine callsIn_of_wp_marks Try.func16 rfl trivial ?_ rfl
  simp only [Try.ntmps16, List.size_toArray, List.length_cons, List.length_nil, Nat.reduceAdd, Nat.reduceSub, Array.replicate_succ, Array.replicate_zero, List.push_toArray, List.append_toArray, List.nil_append, List.cons_append]
  gi_wp2_with (refine ⟨trivial, ?_⟩; gi_at_call 30; refine (callsIn_wide.2 (CC.out _ ((((Kp.refl Nb w).alloc _).alloc _).alloc _))).mono ?_; rintro r W0 ⟨Bb, v', rfl, c3, c4, c5, l1, k0⟩)
  have b0 := Boxed.new w 3 (.int .i64 m)
  have b1 := Boxed.new (w.alloc (.cells #[.int .i64 m] 3)) 40 (.slice none 0 0)
  have b2 := Boxed.new ((w.alloc (.cells #[.int .i64 m] 3)).alloc (.cells #[.slice none 0 0] 40)) 41 (.slice none 0 0)
  simp only [World.size_alloc] at b1 b2 l1
  have d0 := (b0.alloc (.cells #[.slice none 0 0] 40)).alloc (.cells #[.slice none 0 0] 41)
  have d1 := b1.alloc (.cells #[.slice none 0 0] 41)
  have c0' : Boxed W0 w.heap.size 3 (.int .i64 m) := (k0.heap (by simp; omega) (fun h => h)).trans d0
  have c1' : Boxed W0 (w.heap.size + 1) 40 (.slice none 0 0) := (k0.heap (by simp) (fun h => h)).trans d1
  have c2' : Boxed W0 (w.heap.size + 1 + 1) 41 (.slice none 0 0) := (k0.heap (by simp) (fun h => h)).trans b2
  have hB0 : Below w.heap.size w W0 := (((((Kp.refl Nb w).alloc _).alloc _).alloc _).trans k0 (fun _ _ h => h)).below (Nat.le_refl _) (fun _ _ h => h)
  obtain ⟨Z, hZ0⟩ : ∃ Z, Z = W0.heap.size := ⟨_, rfl⟩
  have HL' := hid (show w.heap.size + 1 + 1 + 1 ≤ Bb ∧ Bb < Z ∧ W0.heap.size = Z from ⟨l1, by rw [hZ0]; exact c3.lt, hZ0.symm⟩)
  obtain ⟨q, hq⟩ : ∃ q : CollAt, q = ⟨w.heap.size + 1, 40, 3, 1, w.heap.size + 1 + 1, 41, 24, 2, Z⟩ := ⟨_, rfl⟩
  have HQ := hid hq
  have HB0 := hid hB0
  have HI0 := hid (CollI.start (q := q) f1F f2F (by rw [hq]; exact c1') (by rw [hq]; exact c2') c0'.cell (by rw [hq]; exact Nat.le_of_eq hZ0) hB0)
  have HC3 := hid c3
  have HC4 := hid c4
  have HC5 := hid c5
  clear hZ0 hB0 b0 b1 b2 d0 d1 c0' c1' c2' k0 c3 c4 c5 l1 hq
  refine wpIn_rangeW rfl h1 (gf := 49) (lb := #[.pointer (some ⟨Bb, 0, none⟩)]) rfl trivial (enters_of Try.func49 (by kernel_rfl) rfl)
    (all_seq (n - 1) (by omega) Bb v' zs (by have := HBIG.out; omega) W0 HC3.out HC4.out HC5.out) (fun h k => h.trans k) (fun W l o o' hl hW hc => ⟨by simp, fun b cs t fr e _ => (World.putObj_heap_other (fun e' => by rw [e', hW] at e; cases e; cases hc)).trans e⟩) (fun xs => sF_own zs xs) (fun xs => spF_own zs xs) (Below.refl _ _) (fun _ => rfl)
    (CollI q f1F f2F w w.heap.size m) (CollX q f1F f2F w m) (collI_own _ _ _ _ _ _ HB0.out.size) (fun c => collX_own _ _ _ _ _ c HB0.out.size) HI0.out
    (fun x a' W => AxF q (fun N => { tmps := #[v, .int .i64 m, undef, .pointer (some ⟨w.heap.size, 0, none⟩), .slice none 0 0, .slice none 0 0, .pointer (some ⟨w.heap.size + 1, 0, none⟩), .pointer (some ⟨w.heap.size + 1 + 1, 0, none⟩), .func (.func 49) #[] #[.pointer (some ⟨Bb, 0, none⟩)], .int .i64 (x.1 : Int), .pointer (some ⟨N, 0, none⟩), v, .func (.func 49) #[] #[.pointer (some ⟨Bb, 0, none⟩)], .func (.func 49) #[] #[.pointer (some ⟨Bb, 0, none⟩)], .bool false, .func (.func 49) #[] #[.pointer (some ⟨Bb, 0, none⟩)], .int .i64 (x.1 : Int), frV x.2.1 (svF x.2.2), undef, undef, undef, undef, undef, undef, undef, undef, undef, undef, undef, undef, undef, undef], defers := [] }) x a' W)
    (fun x a' => axF_own q _ x a') ?assign ?body ?done ?stop
  case assign =>
    intro l pre x W K hI hK
    have HI := hid hI
    obtain ⟨px, kx, yx, nx, dx⟩ := x
    obtain ⟨⟨⟨v1, v2, b1, b2, o1, o2, hs⟩, hm, hlen, hbase⟩, hB⟩ := hI
    have HB2 := hid b2
    have HZ := hid hbase
    have HO2 : Hid (∀ g, v2.ownBlock = some g → g < W.heap.size) := hid (fun g hg => by obtain ⟨-, o, ho, -⟩ := row_cells o2 hg; exact (Array.getElem?_eq_some_iff.1 ho).1)
    have HK := hid hK
    clear b1 b2 o1 o2 hs hm hlen hbase hB hK
    gi_wp2
    have hI2 := HI.out
    obtain ⟨⟨⟨u1, u2, -, b2', -, -, -⟩, -⟩, -⟩ := hI2
    have ho := World.alloc_heap_new W (Obj.cells #[.int .i64 kx, .slice yx nx dx] 24 (0, 0))
    refine HK.out _ _ ⟨by simp, fun k o _ hk _ => (Below.heap_alloc _ _ _ (by have := (Array.getElem?_eq_some_iff.1 hk).1; omega)).trans hk⟩ (K8.nb ((Kp.refl Nb W).alloc _)) (HI.out.kept ((Kp.refl Nb W).alloc _)) ?_
    exact ⟨W.heap.size, v2, HZ.out, rfl, ho, HB2.out.alloc _, fun e => absurd (HO2.out _ e) (Nat.lt_irrefl _)⟩
  case body =>
    rintro l pre x a' W hI ⟨N, u, hN, rfl, hNB, hNU, hne⟩ hlt
    have HI := hid hI
    obtain ⟨⟨⟨v1, v2, b1, b2, o1, o2, hs⟩, hm, hlen, hbase⟩, hB⟩ := hI
    obtain ⟨px, kx, yx, nx, dx⟩ := x
    obtain ⟨p1, q1, rfl⟩ := own_shape o1
    have hu : u = v2 := by
      have e := (show W.heap[q.B2]? = _ from hNU).symm.trans (show W.heap[q.B2]? = _ from b2)
      injection e with e; injection e with e; simpa using e
    subst hu
    have hq := HQ.out
    have c1 : W.cell? ⟨w.heap.size + 1, 0, none⟩ = some (.slice p1 pre.length q1) := by rw [hq] at b1; exact b1.cell
    have HC := hid b1
    have HC2 := hid b2
    have HO1 := hid o1
    have HO2 := hid o2
    have HS := hid hs
    have HL := hid hlen
    have HBS := hid hbase
    have HBW := hid hB
    have HNB := hid hNB
    have HNE := hid hne
    have hlt' : pre.length ≤ 281474976710 := by have := HBIG.out; omega
    clear hq b1 b2 o1 o2 hs hlen hbase hB hNB hNU hne hN
    by_cases hge : m ≤ (pre.length : Int)
    · gi_wp2
      exact ⟨KeepsFrom.refl _ _, ⟨Nat.le_refl _, fun _ _ _ _ e _ => e⟩, ⟨rfl, pre, _, rfl, ⟨_, u, HC.out, HC2.out, HO1.out, HO2.out, HS.out⟩, by have := HL.out; omega⟩, HBW.out⟩
    · gi_wp2
      have hmx : Try.prog.follows .mixedOrders = true := by kernel_rfl
      have b1 := HC.out
      have b2 := HC2.out
      have o1 := HO1.out
      have o2 := HO2.out
      have hbs := HBS.out
      have hne := HNE.out
      have hq := HQ.out
      have hL := HL.out
      rw [hq] at b1 b2 o1 o2 hbs
      dsimp only at hbs
      refine collF_region (q := ⟨w.heap.size + 1, 40, 3, 1, w.heap.size + 1 + 1, 41, 24, 2, Z⟩) (pre := pre) (x := (px, kx, yx, nx, dx)) (y1 := .int .i64 (px : Int)) (xa := .pointer (some ⟨N, 0, none⟩)) (x2 := frV kx (.slice yx nx dx)) (N := 32) (tb1 := 6) (tx1 := 9) (tb2 := 7) (tx2 := 10) (d := 22) (src := fun w' => Blk w' N 24 (frL kx (.slice yx nx dx))) hmx (by kernel_rfl) rfl b1 b2 o1 o2 HS.out
        (mk_ok (fun w u h => fi_load w _ u h) (fun w => fi_make w (px : Int)) (fun w g n c u h hf => fi_store w _ g n c u h hf) Try.underlying40 fi_info rfl (by omega) (by unfold maxLen; omega) (by simp) (by simp [f1F, Value.oneCell']) rfl (by simp) rfl ⟨rfl, rfl, rfl⟩ rfl ⟨rfl, rfl, rfl⟩ rfl ⟨rfl, rfl, rfl⟩ rfl ⟨rfl, rfl, rfl⟩ rfl ⟨rfl, rfl, rfl⟩ (by kernel_rfl) (by kernel_rfl) (by kernel_rfl) (by kernel_rfl) (by decide) (by decide) (by decide) (by decide))
        (mkL_ok (Tf := 24) (fun w u h => ff_load w _ u h) (fun w => ff_make w kx yx nx dx) (fun w g n c u h hf => ff_store w _ g n c u h hf) Try.underlying41 ff_info rfl (by omega) (by unfold maxLen; omega) (by simp) (two_one ⟨yx, nx, dx, rfl⟩) rfl (by simp) rfl ⟨rfl, rfl, rfl⟩ rfl ⟨rfl, rfl, rfl⟩ (fun w' h => fr_load h) rfl ⟨rfl, rfl, rfl⟩ rfl ⟨rfl, rfl, rfl⟩ rfl ⟨rfl, rfl, rfl⟩ (by kernel_rfl) (by kernel_rfl) (by kernel_rfl) (by kernel_rfl) (by decide) (by decide) (by decide) (by decide))
        (fun w' hm => (hm.same N HNB.out.lt ?ns).trans HNB.out) rfl rfl rfl rfl rfl (by decide) (by decide) (by simp) (by simp) (by simp) hbs ?_
      case ns =>
        rintro (e | e | e | e)
        · have h := (show W.heap[N]? = _ from HNB.out).symm.trans (show W.heap[N]? = _ from e ▸ b1)
          injection h with h; injection h with _ h; cases h
        · have h := (show W.heap[N]? = _ from HNB.out).symm.trans (show W.heap[N]? = _ from e ▸ b2)
          injection h with h; injection h with _ h; cases h
        · obtain ⟨cs', fr', h⟩ := row_ty o1 e
          have h := (show W.heap[N]? = _ from HNB.out).symm.trans h
          injection h with h; injection h with _ h; cases h
        · exact hne e
      intro a' W' hc hmv
      have k8 := Moves.k8 hmv b1 b2 o1 o2 (by dsimp only; decide) (by dsimp only; decide) (by dsimp only; decide) (by dsimp only; decide)
      rw [← hq] at hc
      have hmv2 : Moves (CollS q) W W' := hmv.mono (fun b _ h => by rw [hq]; exact S0F.coll o1 o2 b h)
      have hHL := HL'.out
      exact ⟨hmv.keepsFrom _, k8, HI.out.next (by omega) hc hmv2 (by rw [hq]; dsimp only; omega) (by rw [hq]; dsimp only; omega) (by rw [hq]; dsimp only; omega) (by rw [hq]; dsimp only; omega) (by rw [hq]; dsimp only; omega) (by rw [hq]; dsimp only; omega)⟩
  case done =>
    rintro D ys W hD hS ⟨⟨⟨v1, v2, b1, b2, o1, o2, hs⟩, hm, hlen, hbase⟩, hB⟩ hK
    have HLE : Hid (SpF zs ys W ∧ (ys.length = m.toNat ∨ (ys.length ≤ m.toNat ∧ ¬ okF zs ys.length))) := hid ⟨hS.1, .inr ⟨hlen, hS.2⟩⟩
    have hq := HQ.out
    have hHL := HL'.out
    rw [hq] at b1 b2 o1 o2
    obtain ⟨p1, q1, rfl⟩ := own_shape o1
    obtain ⟨p2, q2, rfl⟩ := own_shape o2
    have c1 := b1.cell
    have c2 := b2.cell
    have HO1 := hid (ownsRow_le (base' := w.heap.size) o1 (by dsimp only; omega))
    have HO2 := hid (ownsRow_le (base' := w.heap.size) o2 (by dsimp only; omega))
    have HBW := hid hB
    have HD := hid hD
    have HK := hid hK
    clear hq b1 b2 o1 o2 hs hB hD hK hlen hHL hS
    gi_wp2
    gi_region
    all_goals
      gi_wp2
      refine ⟨by simp, .inl ⟨_, _, rfl, run_takeDeferred HK.out, ?_⟩⟩
      refine ⟨.tuple #[.slice p1 ys.length q1, .slice p2 ys.length q2], by simp [results, Try.f16, go_sem], _, _, ys, rfl, ⟨HLE.out.1.k8 ?_, HLE.out.2⟩, ?_⟩
      · exact ⟨by simp, fun b cs t fr e _ => (World.putObj_heap_other (fun e' => by rw [e'] at e; have := HK.out.symm.trans e; cases this)).trans e⟩
      exact ⟨ownsRow_putObj (W := W) HO1.out _ HK.out rfl, ownsRow_putObj (W := W) HO2.out _ HK.out rfl, HBW.out.drew.trans (belowK_b (w := w) (Nat.le_refl _) W.drew D _ _ (by have := HL'.out; have := HD.out; omega) HK.out rfl rfl)⟩
  case stop =>
    rintro D c pre W hD hS ⟨⟨rfl, ys, x, rfl, ⟨v1, v2, b1, b2, o1, o2, hs⟩, hlen⟩, hB⟩ hK
    have HLE : Hid (SpF zs ys W ∧ (ys.length = m.toNat ∨ (ys.length ≤ m.toNat ∧ ¬ okF zs ys.length))) := hid ⟨hS.prefix, .inl hlen⟩
    have hq := HQ.out
    have hHL := HL'.out
    rw [hq] at b1 b2 o1 o2
    obtain ⟨p1, q1, rfl⟩ := own_shape o1
    obtain ⟨p2, q2, rfl⟩ := own_shape o2
    have c1 := b1.cell
    have c2 := b2.cell
    have HO1 := hid (ownsRow_le (base' := w.heap.size) o1 (by dsimp only; omega))
    have HO2 := hid (ownsRow_le (base' := w.heap.size) o2 (by dsimp only; omega))
    have HBW := hid hB
    have HD := hid hD
    have HK := hid hK
    clear hq b1 b2 o1 o2 hs hB hD hK hlen hHL hS
    gi_wp2
    gi_region
    all_goals
      gi_wp2
      refine ⟨by simp, .inl ⟨_, _, rfl, run_takeDeferred HK.out, ?_⟩⟩
      refine ⟨.tuple #[.slice p1 ys.length q1, .slice p2 ys.length q2], by simp [results, Try.f16, go_sem], _, _, ys, rfl, ⟨HLE.out.1.k8 ?_, HLE.out.2⟩, ?_⟩
      · exact ⟨by simp, fun b cs t fr e _ => (World.putObj_heap_other (fun e' => by rw [e'] at e; have := HK.out.symm.trans e; cases this)).trans e⟩
      exact ⟨ownsRow_putObj (W := W) HO1.out _ HK.out rfl, ownsRow_putObj (W := W) HO2.out _ HK.out rfl, HBW.out.drew.trans (belowK_b (w := w) (Nat.le_refl _) W.drew D _ _ (by have := HL'.out; have := HD.out; omega) HK.out rfl rfl)⟩

end Go.Proofs.Ytmgmghlflldepaa
