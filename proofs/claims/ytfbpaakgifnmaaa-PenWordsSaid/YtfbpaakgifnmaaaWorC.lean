/-
  Layer 2: the first numbers up to so many (the statements' own found). Condition: no more than 4096 bytes.
-/
import Derived.Test.YtfbpaakgifnmaaaWorB
namespace Go.Proofs.Ytfbpaakgifnmaaa
open Go.RowKit Go.Shelf
attribute [local go_sem] Oper.semAt_some

theorem BySl.keptC {S : Nat → Prop} {w w' : World} {v : Value} {zs : List Int} (h : BySl S w v zs) (k : ∀ p : Addr, p.block ∈ blksOf v → w'.cell? p = w.cell? p) : BySl S w' v zs := by
  obtain ⟨hz, h⟩ := h
  refine ⟨hz, ?_⟩
  rcases h with h | ⟨blk, off, cap, rfl, hc, hm, hb, hn⟩
  · exact .inl h
  · exact .inr ⟨blk, off, cap, rfl, hc, hm, fun i hi => (k _ (by simp [blksOf])).trans (hb i hi), hn⟩
theorem words_stops (n : Nat) (hn : 1 ≤ n) (Bb : Nat) (v : Value) (zs : List Int) (hbig : zs.length ≤ 1099511627776) (w : World) (bE : Boxed w Bb 42 v) (hv : BySl Nb w v zs) (hl : ∀ b ∈ blksOf v, b < w.heap.size) :
    SeqStopsK Fence.wide n Try.prog 69 #[.pointer (some ⟨Bb, 0, none⟩)] (fun x : Int × Int => #[Value.int .i64 x.1, Value.int .u64 x.2]) (KpL (Bb :: blksOf v)) (fun ys => ys = wordsL zs) (fun pre => ∃ k, k ≤ wordsN zs ∧ pre = wordsTo zs k) (wordsN zs) w := fun l J Jx W hW _ _ hY h0 =>
  words1_in n hn l Bb v zs hbig J Jx hY W ((hW.cell (p := ⟨Bb, 0, none⟩) bE.lt).trans bE.cell) (hv.keptC (fun _ hp => hW.cell (hl _ hp))) h0

set_option maxRecDepth 100000 in
set_option maxHeartbeats 4000000 in
theorem found_in (n : Nat) (hn : 3 ≤ n) (v : Value) (zs : List Int) (m : Int) (w : World) (h : BySl Nb w v zs) (hbig : zs.length ≤ 4096) :
    CallsIn Fence.wide n Try.prog 54 #[v, .int .i64 m] w fun r w' => ∃ v1 v2, r = .returned (.tuple #[v1, v2]) ∧
      w'.ownsRow w.heap.size 3 1 v1 ((wordsL zs).take m.toNat).length (((wordsL zs).take m.toNat).flatMap f1I) ∧ w'.ownsRow w.heap.size 22 1 v2 ((wordsL zs).take m.toNat).length (((wordsL zs).take m.toNat).flatMap f2U) ∧ Below w.heap.size w w' := by
  have h1 : 1 ≤ n := by omega
  obtain ⟨y, d, rfl⟩ := bysl_shape h
  have CW : Hid (∀ wx, Kp Nb w wx → Calls Try.prog 66 #[.slice y zs.length d] wx fun r w' => ∃ v', r = .returned (.func (.func 69) #[] #[.pointer (some ⟨wx.heap.size, 0, none⟩)]) ∧ Boxed w' wx.heap.size 42 v' ∧ BySl Nb w' v' zs ∧ (∀ b ∈ blksOf v', wx.heap.size < b ∧ b < w'.heap.size) ∧ Kp Nb wx w') := fun wx k => words0_any _ zs wx (h.kept k (fun _ h => h)) (by omega)
  have HBIG := hid hbig
  clear h hbig
  refine callsIn_of_wp_marks Try.func54 rfl trivial ?_ rfl
  simp only [Try.ntmps54, List.size_toArray, List.length_cons, List.length_nil, Nat.reduceAdd, Nat.reduceSub, Array.replicate_succ, Array.replicate_zero, List.push_toArray, List.append_toArray, List.nil_append, List.cons_append]
  gi_wp2_with (refine ⟨trivial, ?_⟩; gi_at_call 66; refine (callsIn_wide.2 (CW.out _ ((((Kp.refl Nb w).alloc _).alloc _).alloc _))).mono ?_; rintro r W0 ⟨v', rfl, c3, hv3, hbl, k0⟩)
  have b0 := Boxed.new w 3 (.int .i64 m)
  have b1 := Boxed.new (w.alloc (.cells #[.int .i64 m] 3)) 81 (.slice none 0 0)
  have b2 := Boxed.new ((w.alloc (.cells #[.int .i64 m] 3)).alloc (.cells #[.slice none 0 0] 81)) 82 (.slice none 0 0)
  simp only [World.size_alloc] at b1 b2 c3 hbl
  have d0 := ((b0.alloc (.cells #[.slice none 0 0] 81)).alloc (.cells #[.slice none 0 0] 82))
  have d1 := (b1.alloc (.cells #[.slice none 0 0] 82))
  have c0 : Boxed W0 w.heap.size 3 (.int .i64 m) := (k0.heap (by simp; omega) (fun h => h)).trans d0
  have c1 : Boxed W0 (w.heap.size + 1) 81 (.slice none 0 0) := (k0.heap (by simp) (fun h => h)).trans d1
  have c2 : Boxed W0 (w.heap.size + 1 + 1) 82 (.slice none 0 0) := (k0.heap (by simp) (fun h => h)).trans b2
  have hK0 : Kp Nb w W0 := ((((Kp.refl Nb w).alloc _).alloc _).alloc _).trans k0 (fun _ _ h => h)
  have hB0 : Below w.heap.size w W0 := hK0.below (Nat.le_refl _) (fun _ _ h => h)
  obtain ⟨Z, hZ0⟩ : ∃ Z, Z = W0.heap.size := ⟨_, rfl⟩
  have hZ : w.heap.size + 1 + 1 + 1 < Z := by rw [hZ0]; exact c3.lt
  rw [← hZ0] at hbl
  have HSZ : Hid (W0.heap.size = Z) := hZ0.symm
  have HBL := hid hbl
  have HV3 := hid hv3
  obtain ⟨q, hq⟩ : ∃ q : CollAt, q = ⟨w.heap.size + 1, 81, 3, 1, w.heap.size + 1 + 1, 82, 22, 1, Z⟩ := ⟨_, rfl⟩
  have HQ := hid hq
  have HB0 := hid hB0
  have HI0 := hid (CollI.start (q := q) f1I f2U (by rw [hq]; exact c1) (by rw [hq]; exact c2) c0.cell (by rw [hq]; exact Nat.le_of_eq hZ0) hB0)
  have HC3 := hid c3
  clear hZ0 hB0 hq b0 b1 b2 c0 c1 c2 c3 d0 d1 k0 hK0 hbl hv3
  refine wpIn_rangeFunc_ownG rfl h1 (gf := 69) (lb := #[.pointer (some ⟨w.heap.size + 1 + 1 + 1, 0, none⟩)]) rfl trivial (enters_of Try.func69 (by kernel_rfl) rfl)
    (words_stops (n - 1) (by omega) (w.heap.size + 1 + 1 + 1) v' zs (by have := HBIG.out; omega) W0 HC3.out HV3.out (fun b hb => by have := HBL.out b hb; have := HSZ.out; omega)) kpL_t (kpL_b (fun b hb => by have := HSZ.out; rcases List.mem_cons.1 hb with rfl | hb; omega; have := HBL.out b hb; omega)) (Below.refl _ _) (fun _ => rfl)
    (CollI q f1I f2U w w.heap.size m) (CollX q f1I f2U w m) (collI_own _ _ _ _ _ _ HB0.out.size) (fun c => collX_own _ _ _ _ _ c HB0.out.size) HI0.out
    (fun x => { tmps := #[.slice y zs.length d, .int .i64 m, undef, .pointer (some ⟨w.heap.size, 0, none⟩), .slice none 0 0, .slice none 0 0, .pointer (some ⟨w.heap.size + 1, 0, none⟩), .pointer (some ⟨w.heap.size + 1 + 1, 0, none⟩), .int .i64 x.1, .int .u64 x.2, .slice y zs.length d, .func (.func 69) #[] #[.pointer (some ⟨w.heap.size + 1 + 1 + 1, 0, none⟩)], .int .i64 x.1, .int .u64 x.2, undef, undef, undef, undef, undef, undef, undef, undef, undef, undef, undef, undef, undef, undef], defers := [] }) ?assign ?body ?done ?stop
  case assign =>
    intro l x W K hK
    gi_wp2
    exact hK
  case body =>
    intro l pre x W hI hlt
    have HI := hid hI
    obtain ⟨⟨⟨v1, v2, b1, b2, o1, o2, hs⟩, hm, hlen, hbase⟩, hB⟩ := hI
    obtain ⟨p1, q1, rfl⟩ := own_shape o1
    have hq := HQ.out
    have c1 : W.cell? ⟨w.heap.size + 1, 0, none⟩ = some (.slice p1 pre.length q1) := by rw [hq] at b1; exact b1.cell
    have HC := hid b1
    have HC2 := hid b2
    have HO1 := hid o1
    have HO2 := hid o2
    have HS := hid hs
    have HL := hid hlen
    have HBS := hid hbase
    have HBW := hid hB
    have hlt' : pre.length ≤ 281474976710 := by have := wordsN_le zs; have := HBIG.out; omega
    clear hq b1 b2 o1 o2 hs hlen hbase hB
    by_cases hge : m ≤ (pre.length : Int)
    · gi_wp2
      exact ⟨KeepsFrom.refl _ _, ⟨rfl, pre, x, rfl, ⟨_, v2, HC.out, HC2.out, HO1.out, HO2.out, HS.out⟩, by have := HL.out; omega⟩, HBW.out⟩
    · gi_wp2
      have hmx : Try.prog.follows .mixedOrders = true := by kernel_rfl
      have b1 := HC.out
      have b2 := HC2.out
      have o1 := HO1.out
      have o2 := HO2.out
      have hbs := HBS.out
      have hq := HQ.out
      rw [hq] at b1 b2 o1 o2 hbs
      dsimp only at hbs
      refine coll_region (q := ⟨w.heap.size + 1, 81, 3, 1, w.heap.size + 1 + 1, 82, 22, 1, Z⟩) (f1 := f1I) (f2 := f2U) (pre := pre) (x := x) (y1 := .int .i64 x.1) (y2 := .int .u64 x.2) (N := 28) (tb1 := 6) (tx1 := 8) (tb2 := 7) (tx2 := 9) (d := 18) hmx (by kernel_rfl) rfl b1 b2 o1 o2 HS.out
        (mk_ok (fun w u h => iload w _ u h) (fun w => imake w x.1) (fun w g n c u h hf => istore w _ g n c u h hf) Try.underlying81 iinfo rfl (by omega) (by unfold maxLen; omega) (by simp) (by simp [f1I, Value.oneCell']) rfl (by simp) rfl ⟨rfl, rfl, rfl⟩ rfl ⟨rfl, rfl, rfl⟩ rfl ⟨rfl, rfl, rfl⟩ rfl ⟨rfl, rfl, rfl⟩ rfl ⟨rfl, rfl, rfl⟩ (by kernel_rfl) (by kernel_rfl) (by kernel_rfl) (by kernel_rfl) (by decide) (by decide) (by decide) (by decide))
        (mk_ok (fun w u h => uload w _ u h) (fun w => umake w x.2) (fun w g n c u h hf => ustore w _ g n c u h hf) Try.underlying82 uinfo rfl (by omega) (by unfold maxLen; omega) (by simp) (by simp [f2U, Value.oneCell']) rfl (by simp) rfl ⟨rfl, rfl, rfl⟩ rfl ⟨rfl, rfl, rfl⟩ rfl ⟨rfl, rfl, rfl⟩ rfl ⟨rfl, rfl, rfl⟩ rfl ⟨rfl, rfl, rfl⟩ (by kernel_rfl) (by kernel_rfl) (by kernel_rfl) (by kernel_rfl) (by decide) (by decide) (by decide) (by decide))
        rfl rfl rfl rfl rfl (by decide) (by decide) (by simp) (by simp) (by simp) hbs ?_
      intro a' W' hc hmv
      rw [← hq] at hc hmv
      exact ⟨hmv.keepsFrom _, hmv.kpL (fun b hb => by rw [hq]; unfold CollS; dsimp only; rcases List.mem_cons.1 hb with rfl | hb; omega; have := HBL.out b hb; omega), HI.out.next (by omega) hc hmv (by rw [hq]; dsimp only; omega) (by rw [hq]; dsimp only; omega) (by rw [hq]; dsimp only; omega) (by rw [hq]; dsimp only; omega) (by rw [hq]; dsimp only; omega) (by rw [hq]; dsimp only; omega)⟩
  case done =>
    rintro D ys W hD rfl ⟨⟨⟨v1, v2, b1, b2, o1, o2, hs⟩, hm, hlen, hbase⟩, hB⟩ hK
    have HLE := hid hlen
    have hq := HQ.out
    rw [hq] at b1 b2 o1 o2
    obtain ⟨p1, q1, rfl⟩ := own_shape o1
    obtain ⟨p2, q2, rfl⟩ := own_shape o2
    have c1 := b1.cell
    have c2 := b2.cell
    have HO1 := hid (ownsRow_le (base' := w.heap.size) o1 (by dsimp only; omega))
    have HO2 := hid (ownsRow_le (base' := w.heap.size) o2 (by dsimp only; omega))
    have HBW := hid hB
    have HD := hid hD
    have HK := hid hK
    clear hq b1 b2 o1 o2 hs hm hlen hbase hB hD hK
    gi_wp2
    gi_region
    all_goals
      gi_wp2
      refine ⟨by simp, .inl ⟨_, _, rfl, run_takeDeferred HK.out, ?_⟩⟩
      refine ⟨.tuple #[.slice p1 (wordsL zs).length q1, .slice p2 (wordsL zs).length q2], by simp [results, Try.f54, go_sem], _, _, rfl, ?_⟩
      rw [List.take_of_length_le HLE.out]
      exact ⟨ownsRow_putObj (W := W) HO1.out _ HK.out rfl, ownsRow_putObj (W := W) HO2.out _ HK.out rfl, HBW.out.drew.trans (belowK_b (w := w) (Nat.le_refl _) W.drew D _ _ (by have := HSZ.out; have := HD.out; omega) HK.out rfl rfl)⟩
  case stop =>
    rintro D c pre W hD ⟨k, hk, rfl⟩ ⟨⟨rfl, pre, x, e1, ⟨v1, v2, b1, b2, o1, o2, hs⟩, hlen⟩, hB⟩ hK
    rw [wordsTo_take zs k _ hk] at e1
    change (wordsL zs).take k = _ at e1
    have e2 := take_of_snoc e1.symm
    rw [hlen] at e2
    have HE := hid e2
    have hq := HQ.out
    rw [hq] at b1 b2 o1 o2
    obtain ⟨p1, q1, rfl⟩ := own_shape o1
    obtain ⟨p2, q2, rfl⟩ := own_shape o2
    have c1 := b1.cell
    have c2 := b2.cell
    have HO1 := hid (ownsRow_le (base' := w.heap.size) o1 (by dsimp only; omega))
    have HO2 := hid (ownsRow_le (base' := w.heap.size) o2 (by dsimp only; omega))
    have HBW := hid hB
    have HD := hid hD
    have HK := hid hK
    clear hq b1 b2 o1 o2 hs hB hD hK hlen e1 e2
    gi_wp2
    gi_region
    all_goals
      gi_wp2
      refine ⟨by simp, .inl ⟨_, _, rfl, run_takeDeferred HK.out, ?_⟩⟩
      refine ⟨.tuple #[.slice p1 (pre).length q1, .slice p2 (pre).length q2], by simp [results, Try.f54, go_sem], _, _, rfl, ?_⟩
      rw [← HE.out]
      exact ⟨ownsRow_putObj (W := W) HO1.out _ HK.out rfl, ownsRow_putObj (W := W) HO2.out _ HK.out rfl, HBW.out.drew.trans (belowK_b (w := w) (Nat.le_refl _) W.drew D _ _ (by have := HSZ.out; have := HD.out; omega) HK.out rfl rfl)⟩


end Go.Proofs.Ytfbpaakgifnmaaa
