/-
  Layer 14: the sizes of a guess, gone through (sizes.Rounds), and the first of them up to so many (the statements' own rounds). Condition: what an int is.
-/
import Derived.Test.YtofbehkooklimaaSizA
import Derived.Test.YtofbehkooklimaaIntRow
import Derived.RangeFuncNested
import Derived.RangeFuncBound
import Derived.RangeFuncCalls
import Derived.RangeFuncLeaves
import Derived.Shelf.Abstract
import Derived.Shelf.RegionOpen
import Derived.OwnWalkIn
import Derived.TacticsInMore
import Derived.LoopNIn
import Derived.LoopIn
namespace Go.Proofs.Ytofbehkooklimaa
open Go.RowKit Go.Shelf
attribute [local go_sem] Oper.semAt_some

/-- The size of a round. -/
def sizeZ (g : Int) : Nat → Int
  | 0 => cellsZ g
  | k + 1 => nextZ (sizeZ g k)
def roundsL (g : Int) (k : Nat) : List (Int × Int) := (List.range k).map fun (i : Nat) => ((i : Int), sizeZ g i)
theorem roundsL_succ (g : Int) (k : Nat) : roundsL g (k + 1) = roundsL g k ++ [((k : Int), sizeZ g k)] := by simp [roundsL, List.range_succ]
theorem roundsL_take (g : Int) (k : Nat) (h : k ≤ 4) : roundsL g k = (roundsL g 4).take k := by
  unfold roundsL
  rw [← List.map_take, List.take_range, Nat.min_eq_left h]
theorem roundsL_length (g : Int) (k : Nat) : (roundsL g k).length = k := by simp [roundsL]

theorem int_load (w : World) (B : Nat) (u : Value) (h : w.cell? ⟨B, 0, none⟩ = some u) : (Instr.loadAt 23 (.pointer (some ⟨B, 0, none⟩))).run Try.prog w = .ok u w := by go_simp
theorem int_make (w : World) (x : Int) : (Instr.buildSlice 23 1 #[(0, .int .i64 x)]).run Try.prog w = .ok (.slice (some ⟨w.heap.size, 0, none⟩) 1 1) (w.alloc (.cells #[.int .i64 x] 3 (0, 0))) := by go_simp
theorem int_store (w : World) (B g n cap : Nat) (u : Value) (h : w.cell? ⟨B, 0, none⟩ = some u) (hf : w.frozen? ⟨B, 0, none⟩ = false) : (Instr.storeAt 23 (.pointer (some ⟨B, 0, none⟩)) (.slice (some ⟨g, 0, none⟩) n cap)).run Try.prog w = .ok () (w.setCell ⟨B, 0, none⟩ (.slice (some ⟨g, 0, none⟩) n cap)) := by go_simp
theorem info_int : (Try.prog.info? 3).map (fun i => (i.zero, i.size, i.bytes)) = some (some (.int .i64 0), 1, 8) := by kernel_rfl

set_option maxRecDepth 100000 in
set_option maxHeartbeats 2000000 in
theorem rounds1_in (n : Nat) (hn : 1 ≤ n) (l Bg : Nat) (g : Int) (J Jx : List (Int × Int) → World → Prop)
    (hY : ∀ pre x W, J pre W → pre.length < 4 → YieldAt Fence.wide (n - 1) Try.prog l #[.int .i64 x.1, .int .i64 x.2] W fun e W' =>
      (e = .returned (.bool true) ∧ J (pre ++ [x]) W' ∧ KpL [] W W') ∨ (e = .returned (.bool false) ∧ Jx (pre ++ [x]) W'))
    (W : World) (hB : W.cell? ⟨Bg, 0, none⟩ = some (.int .i64 g)) (h0 : J [] W) :
    CallsIn Fence.wide n Try.prog 50 #[.func (.yield l) #[] #[], .pointer (some ⟨Bg, 0, none⟩)] W fun e W' => (∃ v, e = .returned v) ∧
      ((∃ ys, ys = roundsL g 4 ∧ J ys W') ∨ (∃ pre, (∃ k, k ≤ 4 ∧ pre = roundsL g k) ∧ Jx pre W')) := by
  refine callsIn_of_wp Try.func50 rfl trivial ?_ rfl
  simp only [Try.ntmps50, List.size_toArray, List.length_cons, List.length_nil, Nat.reduceAdd, Nat.reduceSub, Array.replicate_succ, Array.replicate_zero, List.push_toArray, List.append_toArray, List.nil_append, List.cons_append]
  gi_wp2_with (refine ⟨trivial, ?_⟩; gi_at_call 14; refine (callsIn_wide.2 (cells_any g _)).mono ?_; rintro e w' ⟨rfl, rfl⟩)
  gi_loopw [3, 7] (fun s i wr => ∃ k : Nat, k ≤ 4 ∧ i = .int .i64 k ∧ s = .int .i64 (sizeZ g k) ∧ J (roundsL g k) wr) (fun _ i _ => 4 - (intOf i).toNat)
  case atStart => exact ⟨0, Nat.zero_le _, rfl, rfl, h0⟩
  case round =>
    obtain ⟨k, hk, rfl, rfl, hJs⟩ := hrel
    by_cases hlt : k < 4
    · obtain ⟨fn, tmps, assign, body, hy, hR⟩ := hY _ ((k : Int), sizeZ g k) wr hJs (by rw [roundsL_length]; exact hlt)
      dsimp only at hy
      gi_wp2
      refine hR.mono ?_
      rintro e W3 (⟨rfl, hJ3, -⟩ | ⟨rfl, hJx3⟩)
      · gi_wp2_with (refine ⟨trivial, ?_⟩; gi_at_call 15; refine (callsIn_wide.2 (next_any (sizeZ g k) _)).mono ?_; rintro e w' ⟨rfl, rfl⟩)
        go_roundw
        case rel => exact ⟨k + 1, by omega, by go_num, rfl, by rw [roundsL_succ]; exact hJ3⟩
        case measure => simp [intOf]; omega
      · gi_wp2
        refine bodyPost_ret (results_none rfl _ _ _) rfl ?_
        exact ⟨⟨_, rfl⟩, .inr ⟨_, ⟨k + 1, by omega, (roundsL_succ _ _).symm⟩, hJx3⟩⟩
    · obtain rfl : k = 4 := by omega
      gi_wp2
      go_end0
      exact ⟨⟨_, rfl⟩, .inl ⟨_, rfl, hJs⟩⟩

theorem func_not_nil (w : World) (f : Nat) (c : Array Value) : (binOp BinOp.eql 61 (.func (.func f) #[] c) .nilFunc).run Try.prog w = .ok (.bool false) w := by kernel_rfl

set_option maxHeartbeats 1000000 in
theorem rounds0_in (n : Nat) (g : Int) (w : World) :
    CallsIn Fence.wide n Try.prog 42 #[.int .i64 g] w fun e w' => e = .returned (.func (.func 50) #[] #[.pointer (some ⟨w.heap.size, 0, none⟩)]) ∧ w' = w.alloc (.cells #[.int .i64 g] 3) := by
  refine callsIn_of_wp Try.func42 rfl trivial ?_ rfl
  simp only [Try.ntmps42, List.size_toArray, List.length_cons, List.length_nil, Nat.reduceAdd, Nat.reduceSub, Array.replicate_succ, Array.replicate_zero, List.push_toArray, List.append_toArray, List.nil_append, List.cons_append]
  gi_wp2
  go_ret
  exact ⟨rfl, rfl⟩

theorem rounds_stops (n : Nat) (hn : 1 ≤ n) (Bg : Nat) (g : Int) (w : World) (hB : Bg < w.heap.size) (hc : w.cell? ⟨Bg, 0, none⟩ = some (.int .i64 g)) :
    SeqStopsK Fence.wide n Try.prog 50 #[.pointer (some ⟨Bg, 0, none⟩)] (fun x : Int × Int => #[Value.int .i64 x.1, Value.int .i64 x.2]) (KpL []) (fun ys => ys = roundsL g 4) (fun pre => ∃ k, k ≤ 4 ∧ pre = roundsL g k) 4 w := fun l J Jx W hW _ _ hY h0 =>
  rounds1_in n hn l Bg g J Jx hY W ((hW.cell (p := ⟨Bg, 0, none⟩) hB).trans hc) h0

set_option maxRecDepth 100000 in
set_option maxHeartbeats 4000000 in
theorem rounds_in (n : Nat) (hn : 3 ≤ n) (g m : Int) (w : World) :
    CallsIn Fence.wide n Try.prog 12 #[.int .i64 g, .int .i64 m] w fun e w' => ∃ v1 v2, e = .returned (.tuple #[v1, v2]) ∧
      w'.ownsRow w.heap.size 3 1 v1 ((roundsL g 4).take m.toNat).length (((roundsL g 4).take m.toNat).flatMap f1I) ∧ w'.ownsRow w.heap.size 3 1 v2 ((roundsL g 4).take m.toNat).length (((roundsL g 4).take m.toNat).flatMap f2I) ∧ Below w.heap.size w w' := by
  have h1 : 1 ≤ n := by omega
  have hnil := fun (w : World) (c : Array Value) => func_not_nil w 50 c
  refine callsIn_of_wp_marks Try.func12 rfl trivial ?_ rfl
  simp only [Try.ntmps12, List.size_toArray, List.length_cons, List.length_nil, Nat.reduceAdd, Nat.reduceSub, Array.replicate_succ, Array.replicate_zero, List.push_toArray, List.append_toArray, List.nil_append, List.cons_append]
  gi_wp2_with (refine ⟨trivial, ?_⟩; gi_at_call 42; refine (rounds0_in (n - 1) g _).mono ?_; rintro e w' ⟨rfl, rfl⟩)
  have bM := Boxed.new w 3 (.int .i64 m)
  have bI := Boxed.new (w.alloc (.cells #[.int .i64 m] 3)) 23 (.slice none 0 0)
  have bL := Boxed.new ((w.alloc (.cells #[.int .i64 m] 3)).alloc (.cells #[.slice none 0 0] 23)) 23 (.slice none 0 0)
  have bG := Boxed.new (((w.alloc (.cells #[.int .i64 m] 3)).alloc (.cells #[.slice none 0 0] 23)).alloc (.cells #[.slice none 0 0] 23)) 3 (.int .i64 g)
  simp only [World.size_alloc] at bI bL bG
  have hB0 : Below w.heap.size w ((((w.alloc (.cells #[.int .i64 m] 3)).alloc (.cells #[.slice none 0 0] 23)).alloc (.cells #[.slice none 0 0] 23)).alloc (.cells #[.int .i64 g] 3)) := ((((Below.refl _ w).alloc (Nat.le_refl _) _).alloc (by simp) _).alloc (by simp; omega) _).alloc (by simp; omega) _
  have bM0 := ((bM.alloc (.cells #[.slice none 0 0] 23)).alloc (.cells #[.slice none 0 0] 23)).alloc (.cells #[.int .i64 g] 3)
  have bI0 := (bI.alloc (.cells #[.slice none 0 0] 23)).alloc (.cells #[.int .i64 g] 3)
  have bL0 := bL.alloc (.cells #[.int .i64 g] 3)
  have hsz : ((((w.alloc (.cells #[.int .i64 m] 3)).alloc (.cells #[.slice none 0 0] 23)).alloc (.cells #[.slice none 0 0] 23)).alloc (.cells #[.int .i64 g] 3)).heap.size = w.heap.size + 1 + 1 + 1 + 1 := by simp only [World.size_alloc]
  obtain ⟨W0, hW0⟩ : ∃ W0, W0 = ((((w.alloc (.cells #[.int .i64 m] 3)).alloc (.cells #[.slice none 0 0] 23)).alloc (.cells #[.slice none 0 0] 23)).alloc (.cells #[.int .i64 g] 3)) := ⟨_, rfl⟩
  rw [← hW0] at hB0 bM0 bI0 bL0 bG hsz ⊢
  have HSZ := hid hsz
  obtain ⟨q, hq⟩ : ∃ q : CollAt, q = ⟨w.heap.size + 1, 23, 3, 1, w.heap.size + 1 + 1, 23, 3, 1, w.heap.size + 1 + 1 + 1 + 1⟩ := ⟨_, rfl⟩
  have HQ := hid hq
  have HB0 := hid hB0
  have HI0 := hid (CollI.start (q := q) f1I f2I (by rw [hq]; exact bI0) (by rw [hq]; exact bL0) bM0.cell (by rw [hq]; exact Nat.le_of_eq hsz.symm) hB0)
  clear hW0 bM bI bL hsz hB0 bI0 bL0 bM0 hq
  refine wpIn_rangeFunc_ownG rfl h1 (gf := 50) (lb := #[.pointer (some ⟨w.heap.size + 1 + 1 + 1, 0, none⟩)]) rfl trivial (enters_of Try.func50 (by kernel_rfl) rfl)
    (rounds_stops (n - 1) (by omega) (w.heap.size + 1 + 1 + 1) g W0 (by have := HSZ.out; omega) bG.cell) kpL_t (kpL_b (fun b hb => by cases hb)) (Below.refl _ _) (fun _ => rfl)
    (CollI q f1I f2I w w.heap.size m) (CollX q f1I f2I w m) (collI_own _ _ _ _ _ _ HB0.out.size) (fun c => collX_own _ _ _ _ _ c HB0.out.size) HI0.out
    (fun x => { tmps := #[.int .i64 g, .int .i64 m, undef, .pointer (some ⟨w.heap.size, 0, none⟩), .slice none 0 0, .slice none 0 0, .pointer (some ⟨w.heap.size + 1, 0, none⟩), .pointer (some ⟨w.heap.size + 1 + 1, 0, none⟩), .func (.func 50) #[] #[.pointer (some ⟨w.heap.size + 1 + 1 + 1, 0, none⟩)], .int .i64 x.1, .int .i64 x.2, .int .i64 g, .func (.func 50) #[] #[.pointer (some ⟨w.heap.size + 1 + 1 + 1, 0, none⟩)], .func (.func 50) #[] #[.pointer (some ⟨w.heap.size + 1 + 1 + 1, 0, none⟩)], .bool false, .func (.func 50) #[] #[.pointer (some ⟨w.heap.size + 1 + 1 + 1, 0, none⟩)], .int .i64 x.1, .int .i64 x.2, undef, undef, undef, undef, undef, undef, undef, undef, undef, undef, undef, undef, undef, undef], defers := [] }) ?assign ?body ?done ?stop
  case assign =>
    intro l x W K hK
    gi_wp2
    exact hK
  case body =>
    intro l pre x W hI hlt
    have HI := hid hI
    obtain ⟨⟨⟨v1, v2, b1, b2, o1, o2, hs⟩, hm, hlen, hbase⟩, hB⟩ := hI
    obtain ⟨p1, q1, rfl⟩ := own_shape o1
    have hq := HQ.out
    have c1 : W.cell? ⟨w.heap.size + 1, 0, none⟩ = some (.slice p1 pre.length q1) := by rw [hq] at b1; exact b1.cell
    have HC := hid b1
    have HC2 := hid b2
    have HO1 := hid o1
    have HO2 := hid o2
    have HS := hid hs
    have HL := hid hlen
    have HBS := hid hbase
    have HBW := hid hB
    clear hq b1 b2 o1 o2 hs hlen hbase hB
    by_cases hge : m ≤ (pre.length : Int)
    · gi_wp2
      exact ⟨KeepsFrom.refl _ _, ⟨rfl, pre, x, rfl, ⟨_, v2, HC.out, HC2.out, HO1.out, HO2.out, HS.out⟩, by have := HL.out; omega⟩, HBW.out⟩
    · gi_wp2
      have hmx : Try.prog.follows .mixedOrders = true := by kernel_rfl
      have b1 := HC.out
      have b2 := HC2.out
      have o1 := HO1.out
      have o2 := HO2.out
      have hbs := HBS.out
      have hq := HQ.out
      rw [hq] at b1 b2 o1 o2 hbs
      refine coll_region (q := ⟨w.heap.size + 1, 23, 3, 1, w.heap.size + 1 + 1, 23, 3, 1, w.heap.size + 1 + 1 + 1 + 1⟩) (f1 := f1I) (f2 := f2I) (pre := pre) (x := x) (y1 := .int .i64 x.1) (y2 := .int .i64 x.2) (N := 32) (tb1 := 6) (tx1 := 9) (tb2 := 7) (tx2 := 10) (d := 22) hmx (by kernel_rfl) rfl b1 b2 o1 o2 HS.out
        (mk_ok (fun w u h => int_load w _ u h) (fun w => int_make w x.1) (fun w g n c u h hf => int_store w _ g n c u h hf) Try.underlying23 info_int rfl (by omega) (by unfold maxLen; omega) (by simp) (by simp [f1I, Value.oneCell']) rfl (by simp) rfl ⟨rfl, rfl, rfl⟩ rfl ⟨rfl, rfl, rfl⟩ rfl ⟨rfl, rfl, rfl⟩ rfl ⟨rfl, rfl, rfl⟩ rfl ⟨rfl, rfl, rfl⟩ (by kernel_rfl) (by kernel_rfl) (by kernel_rfl) (by kernel_rfl) (by decide) (by decide) (by decide) (by decide))
        (mk_ok (fun w u h => int_load w _ u h) (fun w => int_make w x.2) (fun w g n c u h hf => int_store w _ g n c u h hf) Try.underlying23 info_int rfl (by omega) (by unfold maxLen; omega) (by simp) (by simp [f2I, Value.oneCell']) rfl (by simp) rfl ⟨rfl, rfl, rfl⟩ rfl ⟨rfl, rfl, rfl⟩ rfl ⟨rfl, rfl, rfl⟩ rfl ⟨rfl, rfl, rfl⟩ rfl ⟨rfl, rfl, rfl⟩ (by kernel_rfl) (by kernel_rfl) (by kernel_rfl) (by kernel_rfl) (by decide) (by decide) (by decide) (by decide))
        rfl rfl rfl rfl rfl (by decide) (by decide) (by simp) (by simp) (by simp) hbs ?_
      intro a' W' hc hmv
      rw [← hq] at hc hmv
      exact ⟨hmv.keepsFrom _, (fun b hb => by cases hb), HI.out.next (by omega) hc hmv (by rw [hq]; dsimp only; omega) (by rw [hq]; dsimp only; omega) (by rw [hq]; dsimp only; omega) (by rw [hq]; dsimp only; omega) (by rw [hq]; dsimp only; omega) (by rw [hq]; dsimp only; omega)⟩
  case done =>
    rintro D ys W hD rfl ⟨⟨⟨v1, v2, b1, b2, o1, o2, hs⟩, hm, hlen, hbase⟩, hB⟩ hK
    rw [roundsL_length] at hlen
    have hq := HQ.out
    rw [hq] at b1 b2 o1 o2
    obtain ⟨p1, q1, rfl⟩ := own_shape o1
    obtain ⟨p2, q2, rfl⟩ := own_shape o2
    have c1 := b1.cell
    have c2 := b2.cell
    have HO1 := hid (ownsRow_le (base' := w.heap.size) o1 (by dsimp only; omega))
    have HO2 := hid (ownsRow_le (base' := w.heap.size) o2 (by dsimp only; omega))
    have HBW := hid hB
    have HLE := hid hlen
    have HD := hid hD
    have HK := hid hK
    clear hq b1 b2 o1 o2 hs hm hlen hbase hB hD hK
    gi_wp2
    gi_region
    all_goals
      gi_wp2
      refine ⟨by simp, .inl ⟨_, _, rfl, run_takeDeferred HK.out, ?_⟩⟩
      refine ⟨.tuple #[.slice p1 (roundsL g 4).length q1, .slice p2 (roundsL g 4).length q2], by simp [results, Try.f12, go_sem], _, _, rfl, ?_⟩
      rw [List.take_of_length_le (by rw [roundsL_length]; exact HLE.out)]
      exact ⟨ownsRow_putObj (W := W) HO1.out _ HK.out rfl, ownsRow_putObj (W := W) HO2.out _ HK.out rfl, HBW.out.drew.trans (belowK_b (w := w) (Nat.le_refl _) W.drew D _ _ (by have := HSZ.out; have := HD.out; omega) HK.out rfl rfl)⟩
  case stop =>
    rintro D c pre W hD ⟨k, hk, rfl⟩ ⟨⟨rfl, pre, x, e1, ⟨v1, v2, b1, b2, o1, o2, hs⟩, hlen⟩, hB⟩ hK
    rw [roundsL_take g k hk] at e1
    have e2 := take_of_snoc e1.symm
    rw [hlen] at e2
    have hq := HQ.out
    rw [hq] at b1 b2 o1 o2
    obtain ⟨p1, q1, rfl⟩ := own_shape o1
    obtain ⟨p2, q2, rfl⟩ := own_shape o2
    have c1 := b1.cell
    have c2 := b2.cell
    have HO1 := hid (ownsRow_le (base' := w.heap.size) o1 (by dsimp only; omega))
    have HO2 := hid (ownsRow_le (base' := w.heap.size) o2 (by dsimp only; omega))
    have HBW := hid hB
    have HD := hid hD
    have HK := hid hK
    have HE := hid e2
    clear hq b1 b2 o1 o2 hs hB hD hK hlen e1 e2
    gi_wp2
    gi_region
    all_goals
      gi_wp2
      refine ⟨by simp, .inl ⟨_, _, rfl, run_takeDeferred HK.out, ?_⟩⟩
      refine ⟨.tuple #[.slice p1 pre.length q1, .slice p2 pre.length q2], by simp [results, Try.f12, go_sem], _, _, rfl, ?_⟩
      rw [← HE.out]
      exact ⟨ownsRow_putObj (W := W) HO1.out _ HK.out rfl, ownsRow_putObj (W := W) HO2.out _ HK.out rfl, HBW.out.drew.trans (belowK_b (w := w) (Nat.le_refl _) W.drew D _ _ (by have := HSZ.out; have := HD.out; omega) HK.out rfl rfl)⟩

def firsts (g m : Int) : List Int := ((roundsL g 4).take m.toNat).map (·.1)
def sizesOf (g m : Int) : List Int := ((roundsL g 4).take m.toNat).map (·.2)
theorem rounds_any (g m : Int) (w : World) :
    Calls Try.prog 12 #[.int .i64 g, .int .i64 m] w fun e w' => (∃ v1 v2, e = .returned (.tuple #[v1, v2]) ∧ IntRow w' v1 (firsts g m) ∧ IntRow w' v2 (sizesOf g m)) ∧ Kp Nb w w' :=
  (callsIn_wide.1 (rounds_in 3 (Nat.le_refl _) g m w)).mono fun e w' ⟨v1, v2, he, h1, h2, hB⟩ =>
    ⟨⟨v1, v2, he, .of (by rw [flat1] at h1; exact h1), .of (by rw [flat2] at h2; exact h2)⟩, Kp.of_below hB⟩

end Go.Proofs.Ytofbehkooklimaa
