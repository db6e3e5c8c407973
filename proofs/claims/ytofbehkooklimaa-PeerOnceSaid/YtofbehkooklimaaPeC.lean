/-
  Layer 29: the first pairs up to so many (the statements own round). Condition: what an int is.
-/
import Derived.Test.YtofbehkooklimaaPeB
import Derived.Test.YtofbehkooklimaaIntOps
namespace Go.Proofs.Ytofbehkooklimaa
open Go.RowKit Go.Shelf
attribute [local go_sem] Oper.semAt_some

set_option maxRecDepth 100000 in
set_option maxHeartbeats 4000000 in
theorem pround_in (n : Nat) (hn : 3 ≤ n) (c m : Int) (w : World) :
    CallsIn Fence.wide n Try.prog 36 #[.int .i64 c, .int .i64 m] w fun r w' => ∃ v1 v2, r = .returned (.tuple #[v1, v2]) ∧
      w'.ownsRow w.heap.size 3 1 v1 ((pairsL c).take m.toNat).length (((pairsL c).take m.toNat).flatMap f1I) ∧ w'.ownsRow w.heap.size 3 1 v2 ((pairsL c).take m.toNat).length (((pairsL c).take m.toNat).flatMap f2I) ∧ Below w.heap.size w w' := by
  have h1 : 1 ≤ n := by omega
  have hnil := fun (w : World) (c : Array Value) => fnil w 52 c
  refine callsIn_of_wp_marks Try.func36 rfl trivial ?_ rfl
  simp only [Try.ntmps36, List.size_toArray, List.length_cons, List.length_nil, Nat.reduceAdd, Nat.reduceSub, Array.replicate_succ, Array.replicate_zero, List.push_toArray, List.append_toArray, List.nil_append, List.cons_append]
  gi_wp2_with (refine ⟨trivial, ?_⟩; gi_at_call 48; refine (round0_in (n - 1) c _).mono ?_; rintro r w' ⟨rfl, rfl⟩)
  have b0 := Boxed.new w 3 (.int .i64 m)
  have b1 := Boxed.new (w.alloc (.cells #[.int .i64 m] 3)) 23 (.slice none 0 0)
  have b2 := Boxed.new ((w.alloc (.cells #[.int .i64 m] 3)).alloc (.cells #[.slice none 0 0] 23)) 23 (.slice none 0 0)
  have b3 := Boxed.new (((w.alloc (.cells #[.int .i64 m] 3)).alloc (.cells #[.slice none 0 0] 23)).alloc (.cells #[.slice none 0 0] 23)) 3 (.int .i64 c)
  simp only [World.size_alloc] at b1 b2 b3
  have hB0 : Below w.heap.size w ((((w.alloc (.cells #[.int .i64 m] 3)).alloc (.cells #[.slice none 0 0] 23)).alloc (.cells #[.slice none 0 0] 23)).alloc (.cells #[.int .i64 c] 3)) := (((((Below.refl _ w).alloc (Nat.le_refl _) _).alloc (by simp) _).alloc (by simp; omega) _).alloc (by simp; omega) _)
  have c0 := (((b0.alloc (.cells #[.slice none 0 0] 23)).alloc (.cells #[.slice none 0 0] 23)).alloc (.cells #[.int .i64 c] 3))
  have c1 := ((b1.alloc (.cells #[.slice none 0 0] 23)).alloc (.cells #[.int .i64 c] 3))
  have c2 := (b2.alloc (.cells #[.int .i64 c] 3))
  have c3 := b3
  have hsz : ((((w.alloc (.cells #[.int .i64 m] 3)).alloc (.cells #[.slice none 0 0] 23)).alloc (.cells #[.slice none 0 0] 23)).alloc (.cells #[.int .i64 c] 3)).heap.size = w.heap.size + 1 + 1 + 1 + 1 := by simp only [World.size_alloc]
  obtain ⟨W0, hW0⟩ : ∃ W0, W0 = ((((w.alloc (.cells #[.int .i64 m] 3)).alloc (.cells #[.slice none 0 0] 23)).alloc (.cells #[.slice none 0 0] 23)).alloc (.cells #[.int .i64 c] 3)) := ⟨_, rfl⟩
  rw [← hW0] at hB0 c0 c1 c2 c3 hsz ⊢
  have HSZ := hid hsz
  obtain ⟨q, hq⟩ : ∃ q : CollAt, q = ⟨w.heap.size + 1, 23, 3, 1, w.heap.size + 1 + 1, 23, 3, 1, w.heap.size + 1 + 1 + 1 + 1⟩ := ⟨_, rfl⟩
  have HQ := hid hq
  have HB0 := hid hB0
  have HI0 := hid (CollI.start (q := q) f1I f2I (by rw [hq]; exact c1) (by rw [hq]; exact c2) c0.cell (by rw [hq]; exact Nat.le_of_eq hsz.symm) hB0)
  have HC3 := hid c3
  clear hW0 hsz hB0 hq b0 b1 b2 b3 c0 c1 c2 c3
  refine wpIn_rangeFunc_ownG rfl h1 (gf := 52) (lb := #[.pointer (some ⟨w.heap.size + 1 + 1 + 1, 0, none⟩)]) rfl trivial (enters_of Try.func52 (by kernel_rfl) rfl)
    (round_stops (n - 1) (by omega) (w.heap.size + 1 + 1 + 1) c W0 HC3.out) kpL_t (kpL_b (fun b hb => by have := HSZ.out; simp only [List.mem_cons, List.not_mem_nil, or_false] at hb; omega)) (Below.refl _ _) (fun _ => rfl)
    (CollI q f1I f2I w w.heap.size m) (CollX q f1I f2I w m) (collI_own _ _ _ _ _ _ HB0.out.size) (fun c => collX_own _ _ _ _ _ c HB0.out.size) HI0.out
    (fun x => { tmps := #[.int .i64 c, .int .i64 m, undef, .pointer (some ⟨w.heap.size, 0, none⟩), .slice none 0 0, .slice none 0 0, .pointer (some ⟨w.heap.size + 1, 0, none⟩), .pointer (some ⟨w.heap.size + 1 + 1, 0, none⟩), .func (.func 52) #[] #[.pointer (some ⟨w.heap.size + 1 + 1 + 1, 0, none⟩)], .int .i64 x.1, .int .i64 x.2, .int .i64 c, .func (.func 52) #[] #[.pointer (some ⟨w.heap.size + 1 + 1 + 1, 0, none⟩)], .func (.func 52) #[] #[.pointer (some ⟨w.heap.size + 1 + 1 + 1, 0, none⟩)], .bool false, .func (.func 52) #[] #[.pointer (some ⟨w.heap.size + 1 + 1 + 1, 0, none⟩)], .int .i64 x.1, .int .i64 x.2, undef, undef, undef, undef, undef, undef, undef, undef, undef, undef, undef, undef, undef, undef], defers := [] }) ?assign ?body ?done ?stop
  case assign =>
    intro l x W K hK
    gi_wp2
    exact hK
  case body =>
    intro l pre x W hI hlt
    have HI := hid hI
    obtain ⟨⟨⟨v1, v2, b1, b2, o1, o2, hs⟩, hm, hlen, hbase⟩, hB⟩ := hI
    obtain ⟨p1, q1, rfl⟩ := own_shape o1
    have hq := HQ.out
    have c1 : W.cell? ⟨w.heap.size + 1, 0, none⟩ = some (.slice p1 pre.length q1) := by rw [hq] at b1; exact b1.cell
    have HC := hid b1
    have HC2 := hid b2
    have HO1 := hid o1
    have HO2 := hid o2
    have HS := hid hs
    have HL := hid hlen
    have HBS := hid hbase
    have HBW := hid hB
    have hlt' : pre.length ≤ 281474976710 := by have := pairsN_le c; omega
    clear hq b1 b2 o1 o2 hs hlen hbase hB
    by_cases hge : m ≤ (pre.length : Int)
    · gi_wp2
      exact ⟨KeepsFrom.refl _ _, ⟨rfl, pre, x, rfl, ⟨_, v2, HC.out, HC2.out, HO1.out, HO2.out, HS.out⟩, by have := HL.out; omega⟩, HBW.out⟩
    · gi_wp2
      have hmx : Try.prog.follows .mixedOrders = true := by kernel_rfl
      have b1 := HC.out
      have b2 := HC2.out
      have o1 := HO1.out
      have o2 := HO2.out
      have hbs := HBS.out
      have hq := HQ.out
      rw [hq] at b1 b2 o1 o2 hbs
      dsimp only at hbs
      refine coll_region (q := ⟨w.heap.size + 1, 23, 3, 1, w.heap.size + 1 + 1, 23, 3, 1, w.heap.size + 1 + 1 + 1 + 1⟩) (f1 := f1I) (f2 := f2I) (pre := pre) (x := x) (y1 := .int .i64 x.1) (y2 := .int .i64 x.2) (N := 32) (tb1 := 6) (tx1 := 9) (tb2 := 7) (tx2 := 10) (d := 22) hmx (by kernel_rfl) rfl b1 b2 o1 o2 HS.out
        (mk_ok (fun w u h => iload w _ u h) (fun w => imake w x.1) (fun w g n c u h hf => istore w _ g n c u h hf) Try.underlying23 iinfo rfl (by omega) (by unfold maxLen; omega) (by simp) (by simp [f1I, Value.oneCell']) rfl (by simp) rfl ⟨rfl, rfl, rfl⟩ rfl ⟨rfl, rfl, rfl⟩ rfl ⟨rfl, rfl, rfl⟩ rfl ⟨rfl, rfl, rfl⟩ rfl ⟨rfl, rfl, rfl⟩ (by kernel_rfl) (by kernel_rfl) (by kernel_rfl) (by kernel_rfl) (by decide) (by decide) (by decide) (by decide))
        (mk_ok (fun w u h => iload w _ u h) (fun w => imake w x.2) (fun w g n c u h hf => istore w _ g n c u h hf) Try.underlying23 iinfo rfl (by omega) (by unfold maxLen; omega) (by simp) (by simp [f2I, Value.oneCell']) rfl (by simp) rfl ⟨rfl, rfl, rfl⟩ rfl ⟨rfl, rfl, rfl⟩ rfl ⟨rfl, rfl, rfl⟩ rfl ⟨rfl, rfl, rfl⟩ rfl ⟨rfl, rfl, rfl⟩ (by kernel_rfl) (by kernel_rfl) (by kernel_rfl) (by kernel_rfl) (by decide) (by decide) (by decide) (by decide))
        rfl rfl rfl rfl rfl (by decide) (by decide) (by simp) (by simp) (by simp) hbs ?_
      intro a' W' hc hmv
      rw [← hq] at hc hmv
      exact ⟨hmv.keepsFrom _, hmv.kpL (fun b hb => by simp only [List.mem_cons, List.not_mem_nil, or_false] at hb; rw [hq]; unfold CollS; dsimp only; omega), HI.out.next (by omega) hc hmv (by rw [hq]; dsimp only; omega) (by rw [hq]; dsimp only; omega) (by rw [hq]; dsimp only; omega) (by rw [hq]; dsimp only; omega) (by rw [hq]; dsimp only; omega) (by rw [hq]; dsimp only; omega)⟩
  case done =>
    rintro D ys W hD rfl ⟨⟨⟨v1, v2, b1, b2, o1, o2, hs⟩, hm, hlen, hbase⟩, hB⟩ hK
    have HLE := hid hlen
    have hq := HQ.out
    rw [hq] at b1 b2 o1 o2
    obtain ⟨p1, q1, rfl⟩ := own_shape o1
    obtain ⟨p2, q2, rfl⟩ := own_shape o2
    have c1 := b1.cell
    have c2 := b2.cell
    have HO1 := hid (ownsRow_le (base' := w.heap.size) o1 (by dsimp only; omega))
    have HO2 := hid (ownsRow_le (base' := w.heap.size) o2 (by dsimp only; omega))
    have HBW := hid hB
    have HD := hid hD
    have HK := hid hK
    clear hq b1 b2 o1 o2 hs hm hlen hbase hB hD hK
    gi_wp2
    gi_region
    all_goals
      gi_wp2
      refine ⟨by simp, .inl ⟨_, _, rfl, run_takeDeferred HK.out, ?_⟩⟩
      refine ⟨.tuple #[.slice p1 (pairsL c).length q1, .slice p2 (pairsL c).length q2], by simp [results, Try.f36, go_sem], _, _, rfl, ?_⟩
      rw [List.take_of_length_le HLE.out]
      exact ⟨ownsRow_putObj (W := W) HO1.out _ HK.out rfl, ownsRow_putObj (W := W) HO2.out _ HK.out rfl, HBW.out.drew.trans (belowK_b (w := w) (Nat.le_refl _) W.drew D _ _ (by have := HSZ.out; have := HD.out; omega) HK.out rfl rfl)⟩
  case stop =>
    rintro D c pre W hD ⟨k, hk, rfl⟩ ⟨⟨rfl, pre, x, e1, ⟨v1, v2, b1, b2, o1, o2, hs⟩, hlen⟩, hB⟩ hK
    rw [pairsTo_take c k _ hk] at e1
    change (pairsL c).take k = _ at e1
    have e2 := take_of_snoc e1.symm
    rw [hlen] at e2
    have HE := hid e2
    have hq := HQ.out
    rw [hq] at b1 b2 o1 o2
    obtain ⟨p1, q1, rfl⟩ := own_shape o1
    obtain ⟨p2, q2, rfl⟩ := own_shape o2
    have c1 := b1.cell
    have c2 := b2.cell
    have HO1 := hid (ownsRow_le (base' := w.heap.size) o1 (by dsimp only; omega))
    have HO2 := hid (ownsRow_le (base' := w.heap.size) o2 (by dsimp only; omega))
    have HBW := hid hB
    have HD := hid hD
    have HK := hid hK
    clear hq b1 b2 o1 o2 hs hB hD hK hlen e1 e2
    gi_wp2
    gi_region
    all_goals
      gi_wp2
      refine ⟨by simp, .inl ⟨_, _, rfl, run_takeDeferred HK.out, ?_⟩⟩
      refine ⟨.tuple #[.slice p1 (pre).length q1, .slice p2 (pre).length q2], by simp [results, Try.f36, go_sem], _, _, rfl, ?_⟩
      rw [← HE.out]
      exact ⟨ownsRow_putObj (W := W) HO1.out _ HK.out rfl, ownsRow_putObj (W := W) HO2.out _ HK.out rfl, HBW.out.drew.trans (belowK_b (w := w) (Nat.le_refl _) W.drew D _ _ (by have := HSZ.out; have := HD.out; omega) HK.out rfl rfl)⟩
def pAs (n m : Int) : List Int := ((pairsL n).take m.toNat).map (·.1)
def pBs (n m : Int) : List Int := ((pairsL n).take m.toNat).map (·.2)
theorem pround_any (n m : Int) (w : World) :
    Calls Try.prog 36 #[.int .i64 n, .int .i64 m] w fun r w' => (∃ v1 v2, r = .returned (.tuple #[v1, v2]) ∧ IntRow w' v1 (pAs n m) ∧ IntRow w' v2 (pBs n m)) ∧ Kp Nb w w' :=
  (callsIn_wide.1 (pround_in 3 (Nat.le_refl _) n m w)).mono fun r w' ⟨v1, v2, he, h1, h2, hB⟩ =>
    ⟨⟨v1, v2, he, .of (by rw [flat1] at h1; exact h1), .of (by rw [flat2] at h2; exact h2)⟩, Kp.of_below hB⟩

end Go.Proofs.Ytofbehkooklimaa
