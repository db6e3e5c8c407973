/-
  Layer 14: walks of Cells, Next, Fits, and of the reference's. Nothing is assumed but what an int is.
  Layer 14: the sizes of a guess, gone through (sizes.Rounds), and the first of them up to so many (the statements' own rounds). Condition: what an int is.
  Layer 14: walks of Parts, Range, CellBytes, of the reference's Parts, and of first, what must be answered ahead of everything else. Condition: what an int is.
  Layer 14: the walk of the reference's Parts: the cut points. Condition: a size that may be.
  Layer 14: the walks of first, SizesRounds and SizesParts. Condition: what an int is.
-/
import Derived.WalkKit
import Derived.Test.YteedceepoindeaaProg
import Derived.Test.YteedceepoindeaaKp
import Derived.IntWalk
import Derived.BigQuiet
import Derived.Deep.QuietTactic
import Derived.Test.YteedceepoindeaaIntRow
import Derived.RangeFuncNested
import Derived.RangeFuncBound
import Derived.RangeFuncCalls
import Derived.RangeFuncLeaves
import Derived.Shelf.Abstract
import Derived.Shelf.RegionOpen
import Derived.OwnWalkIn
import Derived.TacticsInMore
import Derived.LoopNIn
import Derived.LoopIn
import Derived.Deep.AppendLies
import Derived.WalkSpells
import Derived.Deep.CutBlock
import Derived.Deep.DeepCutAuto
namespace Go.Proofs.Yteedceepoindeaa
open Go.RowKit

def cellsZ (g : Int) : Int := 3 * min (min (max g 0) 4096 / 2 + min (max g 0) 4096 / 8 + 4) 512
def fitsB (s : Int) : Bool := decide (3 ≤ s ∧ s ≤ 1536 ∧ s % 3 = 0)
def nextZ (s : Int) : Int := if fitsB s = true then min (2 * s) 1536 else 0
theorem fitsB_t {s : Int} (h1 : 3 ≤ s) (h2 : s ≤ 1536) (h3 : s % 3 = 0) : fitsB s = true := by unfold fitsB; rw [decide_eq_true_iff]; exact ⟨h1, h2, h3⟩
theorem fitsB_f {s : Int} (h : ¬ (3 ≤ s ∧ s ≤ 1536 ∧ s % 3 = 0)) : fitsB s = false := by unfold fitsB; rw [decide_eq_false_iff_not]; exact h
theorem fitsB_spec {s : Int} (h : fitsB s = true) : 3 ≤ s ∧ s ≤ 1536 ∧ s % 3 = 0 := by unfold fitsB at h; exact of_decide_eq_true h
theorem fitsB_not {s : Int} (h : fitsB s = false) : ¬ (3 ≤ s ∧ s ≤ 1536 ∧ s % 3 = 0) := by unfold fitsB at h; exact of_decide_eq_false h
theorem ret_int {k : IntKind} {a b : Int} (h : a = b) : Ending.returned (.int k a) = .returned (.int k b) := by rw [h]
theorem ret_bool {a b : Bool} (h : a = b) : Ending.returned (.bool a) = .returned (.bool b) := by rw [h]

set_option maxHeartbeats 400000 in
theorem cells_any (g : Int) (w : World) : Calls Try.prog 52 #[.int .i64 g] w fun e w' => e = .returned (.int .i64 (cellsZ g)) ∧ w = w' := by
  rcases Int.lt_or_le g 0 with h | h
  · go_enter Try.func52, Try.ntmps52
    go_wp2
    all_goals (go_ret; exact ⟨ret_int (by unfold cellsZ; omega), rfl⟩)
  · rcases Int.lt_or_le 4096 g with h2 | h2
    · go_enter Try.func52, Try.ntmps52
      go_wp2
      all_goals (go_ret; exact ⟨ret_int (by unfold cellsZ; omega), rfl⟩)
    · rcases Int.lt_or_le 512 (g / 2 + g / 8 + 4) with h3 | h3
      all_goals
        go_enter Try.func52, Try.ntmps52
        go_wp2
        all_goals (go_ret; exact ⟨ret_int (by unfold cellsZ; omega), rfl⟩)
set_option maxHeartbeats 400000 in
theorem sfits_any (s : Int) (w : World) : Calls Try.prog 12 #[.int .i64 s] w fun e w' => e = .returned (.bool (fitsB s)) ∧ w = w' := by
  by_cases h1 : 3 ≤ s
  · by_cases h2 : s ≤ 1536
    · by_cases h3 : s % 3 = 0
      · go_enter Try.func12, Try.ntmps12
        go_wp2
        all_goals (go_ret; exact ⟨ret_bool (fitsB_t h1 h2 h3).symm, rfl⟩)
      · have h4 : (s % 3 == 0) = false := by rw [beq_eq_false_iff_ne]; exact h3
        go_enter Try.func12, Try.ntmps12
        go_wp2
        all_goals (go_ret; exact ⟨ret_bool (fitsB_f (fun h => h3 h.2.2)).symm, rfl⟩)
    · go_enter Try.func12, Try.ntmps12
      go_wp2
      all_goals (go_ret; exact ⟨ret_bool (fitsB_f (by omega)).symm, rfl⟩)
  · go_enter Try.func12, Try.ntmps12
    go_wp2
    all_goals (go_ret; exact ⟨ret_bool (fitsB_f (by omega)).symm, rfl⟩)
set_option maxHeartbeats 400000 in
theorem srfits_any (s : Int) (w : World) : Calls Try.prog 10 #[.int .i64 s] w fun e w' => e = .returned (.bool (fitsB s)) ∧ w = w' := by
  by_cases h1 : 2 < s
  · by_cases h2 : s < 1537
    · by_cases h3 : s % 3 = 0
      · go_enter Try.func10, Try.ntmps10
        go_wp2
        all_goals (go_ret; exact ⟨ret_bool (fitsB_t (by omega) (by omega) h3).symm, rfl⟩)
      · have h4 : (s % 3 == 0) = false := by rw [beq_eq_false_iff_ne]; exact h3
        go_enter Try.func10, Try.ntmps10
        go_wp2
        all_goals (go_ret; exact ⟨ret_bool (fitsB_f (fun h => h3 h.2.2)).symm, rfl⟩)
    · go_enter Try.func10, Try.ntmps10
      go_wp2
      all_goals (go_ret; exact ⟨ret_bool (fitsB_f (by omega)).symm, rfl⟩)
  · go_enter Try.func10, Try.ntmps10
    go_wp2
    all_goals (go_ret; exact ⟨ret_bool (fitsB_f (by omega)).symm, rfl⟩)

set_option maxHeartbeats 400000 in
theorem next_any (s : Int) (w : World) : Calls Try.prog 53 #[.int .i64 s] w fun e w' => e = .returned (.int .i64 (nextZ s)) ∧ w = w' := by
  cases hf : fitsB s with
  | false =>
    have HN := hid (show nextZ s = 0 from by unfold nextZ; rw [hf]; rfl)
    have CF : Hid (∀ w, Calls Try.prog 12 #[.int .i64 s] w fun e w' => e = .returned (.bool false) ∧ w = w') := fun w => by rw [← hf]; exact sfits_any s w
    clear hf
    go_enter Try.func53, Try.ntmps53
    go_wp2_with (go_at_call 12; refine (CF.out _).mono ?_; rintro e w' ⟨rfl, rfl⟩)
    go_ret
    exact ⟨ret_int HN.out.symm, rfl⟩
  | true =>
    obtain ⟨h1, h2, h3⟩ := fitsB_spec hf
    have HN := hid (show nextZ s = min (2 * s) 1536 from by unfold nextZ; rw [hf]; rfl)
    have CF : Hid (∀ w, Calls Try.prog 12 #[.int .i64 s] w fun e w' => e = .returned (.bool true) ∧ w = w') := fun w => by rw [← hf]; exact sfits_any s w
    clear hf h3
    rcases Int.lt_or_le 1536 (2 * s) with h4 | h4
    all_goals
      go_enter Try.func53, Try.ntmps53
      go_wp2_with (go_at_call 12; refine (CF.out _).mono ?_; rintro e w' ⟨rfl, rfl⟩)
      go_ret
      exact ⟨ret_int (by rw [HN.out]; omega), rfl⟩

end Go.Proofs.Yteedceepoindeaa

namespace Go.Proofs.Yteedceepoindeaa
open Go.RowKit Go.Shelf
attribute [local go_sem] Oper.semAt_some

/-- The size of a round. -/
def sizeZ (g : Int) : Nat → Int
  | 0 => cellsZ g
  | k + 1 => nextZ (sizeZ g k)
def roundsL (g : Int) (k : Nat) : List (Int × Int) := (List.range k).map fun (i : Nat) => ((i : Int), sizeZ g i)
theorem roundsL_succ (g : Int) (k : Nat) : roundsL g (k + 1) = roundsL g k ++ [((k : Int), sizeZ g k)] := by simp [roundsL, List.range_succ]
theorem roundsL_take (g : Int) (k : Nat) (h : k ≤ 4) : roundsL g k = (roundsL g 4).take k := by
  unfold roundsL
  rw [← List.map_take, List.take_range, Nat.min_eq_left h]
theorem roundsL_length (g : Int) (k : Nat) : (roundsL g k).length = k := by simp [roundsL]

theorem int_load (w : World) (B : Nat) (u : Value) (h : w.cell? ⟨B, 0, none⟩ = some u) : (Instr.loadAt 61 (.pointer (some ⟨B, 0, none⟩))).run Try.prog w = .ok u w := by go_simp
theorem int_make (w : World) (x : Int) : (Instr.buildSlice 61 1 #[(0, .int .i64 x)]).run Try.prog w = .ok (.slice (some ⟨w.heap.size, 0, none⟩) 1 1) (w.alloc (.cells #[.int .i64 x] 3 (0, 0))) := by go_simp
theorem int_store (w : World) (B g n cap : Nat) (u : Value) (h : w.cell? ⟨B, 0, none⟩ = some u) (hf : w.frozen? ⟨B, 0, none⟩ = false) : (Instr.storeAt 61 (.pointer (some ⟨B, 0, none⟩)) (.slice (some ⟨g, 0, none⟩) n cap)).run Try.prog w = .ok () (w.setCell ⟨B, 0, none⟩ (.slice (some ⟨g, 0, none⟩) n cap)) := by go_simp
theorem info_int : (Try.prog.info? 3).map (fun i => (i.zero, i.size, i.bytes)) = some (some (.int .i64 0), 1, 8) := by kernel_rfl

set_option maxRecDepth 100000 in
set_option maxHeartbeats 2000000 in
theorem rounds1_in (n : Nat) (hn : 1 ≤ n) (l Bg : Nat) (g : Int) (J Jx : List (Int × Int) → World → Prop)
    (hY : ∀ pre x W, J pre W → pre.length < 4 → YieldAt Fence.wide (n - 1) Try.prog l #[.int .i64 x.1, .int .i64 x.2] W fun e W' =>
      (e = .returned (.bool true) ∧ J (pre ++ [x]) W' ∧ KpL [] W W') ∨ (e = .returned (.bool false) ∧ Jx (pre ++ [x]) W'))
    (W : World) (hB : W.cell? ⟨Bg, 0, none⟩ = some (.int .i64 g)) (h0 : J [] W) :
    CallsIn Fence.wide n Try.prog 68 #[.func (.yield l) #[] #[], .pointer (some ⟨Bg, 0, none⟩)] W fun e W' => (∃ v, e = .returned v) ∧
      ((∃ ys, ys = roundsL g 4 ∧ J ys W') ∨ (∃ pre, (∃ k, k ≤ 4 ∧ pre = roundsL g k) ∧ Jx pre W')) := by
  refine callsIn_of_wp Try.func68 rfl trivial ?_ rfl
  simp only [Try.ntmps68, List.size_toArray, List.length_cons, List.length_nil, Nat.reduceAdd, Nat.reduceSub, Array.replicate_succ, Array.replicate_zero, List.push_toArray, List.append_toArray, List.nil_append, List.cons_append]
  gi_wp2_with (refine ⟨trivial, ?_⟩; gi_at_call 52; refine (callsIn_wide.2 (cells_any g _)).mono ?_; rintro e w' ⟨rfl, rfl⟩)
  gi_loopw [3, 7] (fun s i wr => ∃ k : Nat, k ≤ 4 ∧ i = .int .i64 k ∧ s = .int .i64 (sizeZ g k) ∧ J (roundsL g k) wr) (fun _ i _ => 4 - (intOf i).toNat)
  case atStart => exact ⟨0, Nat.zero_le _, rfl, rfl, h0⟩
  case round =>
    obtain ⟨k, hk, rfl, rfl, hJs⟩ := hrel
    by_cases hlt : k < 4
    · obtain ⟨fn, tmps, assign, body, hy, hR⟩ := hY _ ((k : Int), sizeZ g k) wr hJs (by rw [roundsL_length]; exact hlt)
      dsimp only at hy
      gi_wp2
      refine hR.mono ?_
      rintro e W3 (⟨rfl, hJ3, -⟩ | ⟨rfl, hJx3⟩)
      · gi_wp2_with (refine ⟨trivial, ?_⟩; gi_at_call 53; refine (callsIn_wide.2 (next_any (sizeZ g k) _)).mono ?_; rintro e w' ⟨rfl, rfl⟩)
        go_roundw
        case rel => exact ⟨k + 1, by omega, by go_num, rfl, by rw [roundsL_succ]; exact hJ3⟩
        case measure => simp [intOf]; omega
      · gi_wp2
        refine bodyPost_ret (results_none rfl _ _ _) rfl ?_
        exact ⟨⟨_, rfl⟩, .inr ⟨_, ⟨k + 1, by omega, (roundsL_succ _ _).symm⟩, hJx3⟩⟩
    · obtain rfl : k = 4 := by omega
      gi_wp2
      go_end0
      exact ⟨⟨_, rfl⟩, .inl ⟨_, rfl, hJs⟩⟩

theorem func_not_nil (w : World) (f : Nat) (c : Array Value) : (binOp BinOp.eql 94 (.func (.func f) #[] c) .nilFunc).run Try.prog w = .ok (.bool false) w := by kernel_rfl

set_option maxHeartbeats 1000000 in
theorem rounds0_in (n : Nat) (g : Int) (w : World) :
    CallsIn Fence.wide n Try.prog 54 #[.int .i64 g] w fun e w' => e = .returned (.func (.func 68) #[] #[.pointer (some ⟨w.heap.size, 0, none⟩)]) ∧ w' = w.alloc (.cells #[.int .i64 g] 3) := by
  refine callsIn_of_wp Try.func54 rfl trivial ?_ rfl
  simp only [Try.ntmps54, List.size_toArray, List.length_cons, List.length_nil, Nat.reduceAdd, Nat.reduceSub, Array.replicate_succ, Array.replicate_zero, List.push_toArray, List.append_toArray, List.nil_append, List.cons_append]
  gi_wp2
  go_ret
  exact ⟨rfl, rfl⟩

theorem rounds_stops (n : Nat) (hn : 1 ≤ n) (Bg : Nat) (g : Int) (w : World) (hB : Bg < w.heap.size) (hc : w.cell? ⟨Bg, 0, none⟩ = some (.int .i64 g)) :
    SeqStopsK Fence.wide n Try.prog 68 #[.pointer (some ⟨Bg, 0, none⟩)] (fun x : Int × Int => #[Value.int .i64 x.1, Value.int .i64 x.2]) (KpL []) (fun ys => ys = roundsL g 4) (fun pre => ∃ k, k ≤ 4 ∧ pre = roundsL g k) 4 w := fun l J Jx W hW _ _ hY h0 =>
  rounds1_in n hn l Bg g J Jx hY W ((hW.cell (p := ⟨Bg, 0, none⟩) hB).trans hc) h0

set_option maxRecDepth 100000 in
set_option maxHeartbeats 4000000 in
theorem rounds_in (n : Nat) (hn : 3 ≤ n) (g m : Int) (w : World) :
    CallsIn Fence.wide n Try.prog 30 #[.int .i64 g, .int .i64 m] w fun e w' => ∃ v1 v2, e = .returned (.tuple #[v1, v2]) ∧
      w'.ownsRow w.heap.size 3 1 v1 ((roundsL g 4).take m.toNat).length (((roundsL g 4).take m.toNat).flatMap f1I) ∧ w'.ownsRow w.heap.size 3 1 v2 ((roundsL g 4).take m.toNat).length (((roundsL g 4).take m.toNat).flatMap f2I) ∧ Below w.heap.size w w' := by
  have h1 : 1 ≤ n := by omega
  have hnil := fun (w : World) (c : Array Value) => func_not_nil w 68 c
  refine callsIn_of_wp_marks Try.func30 rfl trivial ?_ rfl
  simp only [Try.ntmps30, List.size_toArray, List.length_cons, List.length_nil, Nat.reduceAdd, Nat.reduceSub, Array.replicate_succ, Array.replicate_zero, List.push_toArray, List.append_toArray, List.nil_append, List.cons_append]
  gi_wp2_with (refine ⟨trivial, ?_⟩; gi_at_call 54; refine (rounds0_in (n - 1) g _).mono ?_; rintro e w' ⟨rfl, rfl⟩)
  have bM := Boxed.new w 3 (.int .i64 m)
  have bI := Boxed.new (w.alloc (.cells #[.int .i64 m] 3)) 61 (.slice none 0 0)
  have bL := Boxed.new ((w.alloc (.cells #[.int .i64 m] 3)).alloc (.cells #[.slice none 0 0] 61)) 61 (.slice none 0 0)
  have bG := Boxed.new (((w.alloc (.cells #[.int .i64 m] 3)).alloc (.cells #[.slice none 0 0] 61)).alloc (.cells #[.slice none 0 0] 61)) 3 (.int .i64 g)
  simp only [World.size_alloc] at bI bL bG
  have hB0 : Below w.heap.size w ((((w.alloc (.cells #[.int .i64 m] 3)).alloc (.cells #[.slice none 0 0] 61)).alloc (.cells #[.slice none 0 0] 61)).alloc (.cells #[.int .i64 g] 3)) := ((((Below.refl _ w).alloc (Nat.le_refl _) _).alloc (by simp) _).alloc (by simp; omega) _).alloc (by simp; omega) _
  have bM0 := ((bM.alloc (.cells #[.slice none 0 0] 61)).alloc (.cells #[.slice none 0 0] 61)).alloc (.cells #[.int .i64 g] 3)
  have bI0 := (bI.alloc (.cells #[.slice none 0 0] 61)).alloc (.cells #[.int .i64 g] 3)
  have bL0 := bL.alloc (.cells #[.int .i64 g] 3)
  have hsz : ((((w.alloc (.cells #[.int .i64 m] 3)).alloc (.cells #[.slice none 0 0] 61)).alloc (.cells #[.slice none 0 0] 61)).alloc (.cells #[.int .i64 g] 3)).heap.size = w.heap.size + 1 + 1 + 1 + 1 := by simp only [World.size_alloc]
  obtain ⟨W0, hW0⟩ : ∃ W0, W0 = ((((w.alloc (.cells #[.int .i64 m] 3)).alloc (.cells #[.slice none 0 0] 61)).alloc (.cells #[.slice none 0 0] 61)).alloc (.cells #[.int .i64 g] 3)) := ⟨_, rfl⟩
  rw [← hW0] at hB0 bM0 bI0 bL0 bG hsz ⊢
  have HSZ := hid hsz
  obtain ⟨q, hq⟩ : ∃ q : CollAt, q = ⟨w.heap.size + 1, 61, 3, 1, w.heap.size + 1 + 1, 61, 3, 1, w.heap.size + 1 + 1 + 1 + 1⟩ := ⟨_, rfl⟩
  have HQ := hid hq
  have HB0 := hid hB0
  have HI0 := hid (CollI.start (q := q) f1I f2I (by rw [hq]; exact bI0) (by rw [hq]; exact bL0) bM0.cell (by rw [hq]; exact Nat.le_of_eq hsz.symm) hB0)
  clear hW0 bM bI bL hsz hB0 bI0 bL0 bM0 hq
  refine wpIn_rangeFunc_ownG rfl h1 (gf := 68) (lb := #[.pointer (some ⟨w.heap.size + 1 + 1 + 1, 0, none⟩)]) rfl trivial (enters_of Try.func68 (by kernel_rfl) rfl)
    (rounds_stops (n - 1) (by omega) (w.heap.size + 1 + 1 + 1) g W0 (by have := HSZ.out; omega) bG.cell) kpL_t (kpL_b (fun b hb => by cases hb)) (Below.refl _ _) (fun _ => rfl)
    (CollI q f1I f2I w w.heap.size m) (CollX q f1I f2I w m) (collI_own _ _ _ _ _ _ HB0.out.size) (fun c => collX_own _ _ _ _ _ c HB0.out.size) HI0.out
    (fun x => { tmps := #[.int .i64 g, .int .i64 m, undef, .pointer (some ⟨w.heap.size, 0, none⟩), .slice none 0 0, .slice none 0 0, .pointer (some ⟨w.heap.size + 1, 0, none⟩), .pointer (some ⟨w.heap.size + 1 + 1, 0, none⟩), .func (.func 68) #[] #[.pointer (some ⟨w.heap.size + 1 + 1 + 1, 0, none⟩)], .int .i64 x.1, .int .i64 x.2, .int .i64 g, .func (.func 68) #[] #[.pointer (some ⟨w.heap.size + 1 + 1 + 1, 0, none⟩)], .func (.func 68) #[] #[.pointer (some ⟨w.heap.size + 1 + 1 + 1, 0, none⟩)], .bool false, .func (.func 68) #[] #[.pointer (some ⟨w.heap.size + 1 + 1 + 1, 0, none⟩)], .int .i64 x.1, .int .i64 x.2, undef, undef, undef, undef, undef, undef, undef, undef, undef, undef, undef, undef, undef, undef], defers := [] }) ?assign ?body ?done ?stop
  case assign =>
    intro l x W K hK
    gi_wp2
    exact hK
  case body =>
    intro l pre x W hI hlt
    have HI := hid hI
    obtain ⟨⟨⟨v1, v2, b1, b2, o1, o2, hs⟩, hm, hlen, hbase⟩, hB⟩ := hI
    obtain ⟨p1, q1, rfl⟩ := own_shape o1
    have hq := HQ.out
    have c1 : W.cell? ⟨w.heap.size + 1, 0, none⟩ = some (.slice p1 pre.length q1) := by rw [hq] at b1; exact b1.cell
    have HC := hid b1
    have HC2 := hid b2
    have HO1 := hid o1
    have HO2 := hid o2
    have HS := hid hs
    have HL := hid hlen
    have HBS := hid hbase
    have HBW := hid hB
    clear hq b1 b2 o1 o2 hs hlen hbase hB
    by_cases hge : m ≤ (pre.length : Int)
    · gi_wp2
      exact ⟨KeepsFrom.refl _ _, ⟨rfl, pre, x, rfl, ⟨_, v2, HC.out, HC2.out, HO1.out, HO2.out, HS.out⟩, by have := HL.out; omega⟩, HBW.out⟩
    · gi_wp2
      have hmx : Try.prog.follows .mixedOrders = true := by kernel_rfl
      have b1 := HC.out
      have b2 := HC2.out
      have o1 := HO1.out
      have o2 := HO2.out
      have hbs := HBS.out
      have hq := HQ.out
      rw [hq] at b1 b2 o1 o2 hbs
      refine coll_region (q := ⟨w.heap.size + 1, 61, 3, 1, w.heap.size + 1 + 1, 61, 3, 1, w.heap.size + 1 + 1 + 1 + 1⟩) (f1 := f1I) (f2 := f2I) (pre := pre) (x := x) (y1 := .int .i64 x.1) (y2 := .int .i64 x.2) (N := 32) (tb1 := 6) (tx1 := 9) (tb2 := 7) (tx2 := 10) (d := 22) hmx (by kernel_rfl) rfl b1 b2 o1 o2 HS.out
        (mk_ok (fun w u h => int_load w _ u h) (fun w => int_make w x.1) (fun w g n c u h hf => int_store w _ g n c u h hf) Try.underlying61 info_int rfl (by omega) (by unfold maxLen; omega) (by simp) (by simp [f1I, Value.oneCell']) rfl (by simp) rfl ⟨rfl, rfl, rfl⟩ rfl ⟨rfl, rfl, rfl⟩ rfl ⟨rfl, rfl, rfl⟩ rfl ⟨rfl, rfl, rfl⟩ rfl ⟨rfl, rfl, rfl⟩ (by kernel_rfl) (by kernel_rfl) (by kernel_rfl) (by kernel_rfl) (by decide) (by decide) (by decide) (by decide))
        (mk_ok (fun w u h => int_load w _ u h) (fun w => int_make w x.2) (fun w g n c u h hf => int_store w _ g n c u h hf) Try.underlying61 info_int rfl (by omega) (by unfold maxLen; omega) (by simp) (by simp [f2I, Value.oneCell']) rfl (by simp) rfl ⟨rfl, rfl, rfl⟩ rfl ⟨rfl, rfl, rfl⟩ rfl ⟨rfl, rfl, rfl⟩ rfl ⟨rfl, rfl, rfl⟩ rfl ⟨rfl, rfl, rfl⟩ (by kernel_rfl) (by kernel_rfl) (by kernel_rfl) (by kernel_rfl) (by decide) (by decide) (by decide) (by decide))
        rfl rfl rfl rfl rfl (by decide) (by decide) (by simp) (by simp) (by simp) hbs ?_
      intro a' W' hc hmv
      rw [← hq] at hc hmv
      exact ⟨hmv.keepsFrom _, (fun b hb => by cases hb), HI.out.next (by omega) hc hmv (by rw [hq]; dsimp only; omega) (by rw [hq]; dsimp only; omega) (by rw [hq]; dsimp only; omega) (by rw [hq]; dsimp only; omega) (by rw [hq]; dsimp only; omega) (by rw [hq]; dsimp only; omega)⟩
  case done =>
    rintro D ys W hD rfl ⟨⟨⟨v1, v2, b1, b2, o1, o2, hs⟩, hm, hlen, hbase⟩, hB⟩ hK
    rw [roundsL_length] at hlen
    have hq := HQ.out
    rw [hq] at b1 b2 o1 o2
    obtain ⟨p1, q1, rfl⟩ := own_shape o1
    obtain ⟨p2, q2, rfl⟩ := own_shape o2
    have c1 := b1.cell
    have c2 := b2.cell
    have HO1 := hid (ownsRow_le (base' := w.heap.size) o1 (by dsimp only; omega))
    have HO2 := hid (ownsRow_le (base' := w.heap.size) o2 (by dsimp only; omega))
    have HBW := hid hB
    have HLE := hid hlen
    have HD := hid hD
    have HK := hid hK
    clear hq b1 b2 o1 o2 hs hm hlen hbase hB hD hK
    gi_wp2
    gi_region
    all_goals
      gi_wp2
      refine ⟨by simp, .inl ⟨_, _, rfl, run_takeDeferred HK.out, ?_⟩⟩
      refine ⟨.tuple #[.slice p1 (roundsL g 4).length q1, .slice p2 (roundsL g 4).length q2], by simp [results, Try.f30, go_sem], _, _, rfl, ?_⟩
      rw [List.take_of_length_le (by rw [roundsL_length]; exact HLE.out)]
      exact ⟨ownsRow_putObj (W := W) HO1.out _ HK.out rfl, ownsRow_putObj (W := W) HO2.out _ HK.out rfl, HBW.out.drew.trans (belowK_b (w := w) (Nat.le_refl _) W.drew D _ _ (by have := HSZ.out; have := HD.out; omega) HK.out rfl rfl)⟩
  case stop =>
    rintro D c pre W hD ⟨k, hk, rfl⟩ ⟨⟨rfl, pre, x, e1, ⟨v1, v2, b1, b2, o1, o2, hs⟩, hlen⟩, hB⟩ hK
    rw [roundsL_take g k hk] at e1
    have e2 := take_of_snoc e1.symm
    rw [hlen] at e2
    have hq := HQ.out
    rw [hq] at b1 b2 o1 o2
    obtain ⟨p1, q1, rfl⟩ := own_shape o1
    obtain ⟨p2, q2, rfl⟩ := own_shape o2
    have c1 := b1.cell
    have c2 := b2.cell
    have HO1 := hid (ownsRow_le (base' := w.heap.size) o1 (by dsimp only; omega))
    have HO2 := hid (ownsRow_le (base' := w.heap.size) o2 (by dsimp only; omega))
    have HBW := hid hB
    have HD := hid hD
    have HK := hid hK
    have HE := hid e2
    clear hq b1 b2 o1 o2 hs hB hD hK hlen e1 e2
    gi_wp2
    gi_region
    all_goals
      gi_wp2
      refine ⟨by simp, .inl ⟨_, _, rfl, run_takeDeferred HK.out, ?_⟩⟩
      refine ⟨.tuple #[.slice p1 pre.length q1, .slice p2 pre.length q2], by simp [results, Try.f30, go_sem], _, _, rfl, ?_⟩
      rw [← HE.out]
      exact ⟨ownsRow_putObj (W := W) HO1.out _ HK.out rfl, ownsRow_putObj (W := W) HO2.out _ HK.out rfl, HBW.out.drew.trans (belowK_b (w := w) (Nat.le_refl _) W.drew D _ _ (by have := HSZ.out; have := HD.out; omega) HK.out rfl rfl)⟩

def firsts (g m : Int) : List Int := ((roundsL g 4).take m.toNat).map (·.1)
def sizesOf (g m : Int) : List Int := ((roundsL g 4).take m.toNat).map (·.2)
theorem srounds_any (g m : Int) (w : World) :
    Calls Try.prog 30 #[.int .i64 g, .int .i64 m] w fun e w' => (∃ v1 v2, e = .returned (.tuple #[v1, v2]) ∧ IntRow w' v1 (firsts g m) ∧ IntRow w' v2 (sizesOf g m)) ∧ Kp Nb w w' :=
  (callsIn_wide.1 (rounds_in 3 (Nat.le_refl _) g m w)).mono fun e w' ⟨v1, v2, he, h1, h2, hB⟩ =>
    ⟨⟨v1, v2, he, .of (by rw [flat1] at h1; exact h1), .of (by rw [flat2] at h2; exact h2)⟩, Kp.of_below hB⟩

end Go.Proofs.Yteedceepoindeaa

namespace Go.Proofs.Yteedceepoindeaa
open Go.RowKit

def partsZ (s : Int) : Int := if fitsB s = true then (s + 47) / 48 else 0
def bytesZ (s : Int) : Int := if fitsB s = true then 28 * s else 0
theorem partsZ_t {s : Int} (h : fitsB s = true) : partsZ s = (s + 47) / 48 := by unfold partsZ; rw [if_pos h]
theorem partsZ_f {s : Int} (h : fitsB s = false) : partsZ s = 0 := by unfold partsZ; rw [h]; rfl
theorem partsZ_le (s : Int) : 0 ≤ partsZ s ∧ partsZ s ≤ 32 := by
  cases h : fitsB s with
  | false => rw [partsZ_f h]; omega
  | true => have := fitsB_spec h; rw [partsZ_t h]; omega

set_option maxHeartbeats 400000 in
theorem parts_any (s : Int) (w : World) : Calls Try.prog 31 #[.int .i64 s] w fun e w' => e = .returned (.int .i64 (partsZ s)) ∧ w = w' := by
  cases hf : fitsB s with
  | false =>
    have HN := hid (partsZ_f hf)
    have CF : Hid (∀ w, Calls Try.prog 12 #[.int .i64 s] w fun e w' => e = .returned (.bool false) ∧ w = w') := fun w => by rw [← hf]; exact sfits_any s w
    clear hf
    go_enter Try.func31, Try.ntmps31
    go_wp2_with (go_at_call 12; refine (CF.out _).mono ?_; rintro e w' ⟨rfl, rfl⟩)
    go_ret
    exact ⟨ret_int HN.out.symm, rfl⟩
  | true =>
    obtain ⟨h1, h2, h3⟩ := fitsB_spec hf
    have HN := hid (partsZ_t hf)
    have CF : Hid (∀ w, Calls Try.prog 12 #[.int .i64 s] w fun e w' => e = .returned (.bool true) ∧ w = w') := fun w => by rw [← hf]; exact sfits_any s w
    clear hf h3
    go_enter Try.func31, Try.ntmps31
    go_wp2_with (go_at_call 12; refine (CF.out _).mono ?_; rintro e w' ⟨rfl, rfl⟩)
    go_ret
    exact ⟨ret_int (by rw [HN.out]; omega), rfl⟩
set_option maxHeartbeats 400000 in
theorem bytes_any (s : Int) (w : World) : Calls Try.prog 36 #[.int .i64 s] w fun e w' => e = .returned (.int .i64 (bytesZ s)) ∧ w = w' := by
  cases hf : fitsB s with
  | false =>
    have HN := hid (show bytesZ s = 0 from by unfold bytesZ; rw [hf]; rfl)
    have CF : Hid (∀ w, Calls Try.prog 12 #[.int .i64 s] w fun e w' => e = .returned (.bool false) ∧ w = w') := fun w => by rw [← hf]; exact sfits_any s w
    clear hf
    go_enter Try.func36, Try.ntmps36
    go_wp2_with (go_at_call 12; refine (CF.out _).mono ?_; rintro e w' ⟨rfl, rfl⟩)
    go_ret
    exact ⟨ret_int HN.out.symm, rfl⟩
  | true =>
    obtain ⟨h1, h2, h3⟩ := fitsB_spec hf
    have HN := hid (show bytesZ s = 28 * s from by unfold bytesZ; rw [hf]; rfl)
    have CF : Hid (∀ w, Calls Try.prog 12 #[.int .i64 s] w fun e w' => e = .returned (.bool true) ∧ w = w') := fun w => by rw [← hf]; exact sfits_any s w
    clear hf h3
    go_enter Try.func36, Try.ntmps36
    go_wp2_with (go_at_call 12; refine (CF.out _).mono ?_; rintro e w' ⟨rfl, rfl⟩)
    go_ret
    exact ⟨ret_int (by rw [HN.out]), rfl⟩

/-- Is there such a part? -/
def partB (s p : Int) : Bool := decide (0 ≤ p ∧ p < partsZ s)
def fromZ (s p : Int) : Int := if partB s p = true then p * 48 else 0
def toZ (s p : Int) : Int := if partB s p = true then min (p * 48 + 48) s else 0
theorem partB_spec {s p : Int} (h : partB s p = true) : 0 ≤ p ∧ p < partsZ s := by unfold partB at h; exact of_decide_eq_true h
theorem partB_fits {s p : Int} (h : partB s p = true) : fitsB s = true := by
  have := partB_spec h
  cases hf : fitsB s with
  | true => rfl
  | false => rw [partsZ_f hf] at this; omega
theorem partB_not {s p : Int} (h : partB s p = false) : p < 0 ∨ partsZ s ≤ p := by unfold partB at h; have := of_decide_eq_false h; omega
theorem partB_none {s p : Int} (h : fitsB s = false) : partB s p = false := by unfold partB; rw [partsZ_f h, decide_eq_false_iff_not]; omega

set_option maxHeartbeats 1000000 in
theorem range_any (s p : Int) (w : World) : Calls Try.prog 32 #[.int .i64 s, .int .i64 p] w fun e w' => e = .returned (.tuple #[.int .i64 (fromZ s p), .int .i64 (toZ s p), .bool (partB s p)]) ∧ w = w' := by
  have hz := partsZ_le s
  have CP : Hid (∀ w, Calls Try.prog 31 #[.int .i64 s] w fun e w' => e = .returned (.int .i64 (partsZ s)) ∧ w = w') := fun w => parts_any s w
  cases hb : partB s p with
  | false =>
    have HF := hid (show fromZ s p = 0 from by unfold fromZ; rw [hb]; rfl)
    have HT := hid (show toZ s p = 0 from by unfold toZ; rw [hb]; rfl)
    have hn := partB_not hb
    clear hb
    by_cases hp : p < 0
    · go_enter Try.func32, Try.ntmps32
      go_wp2
      rw [HF.out, HT.out]
      go_ret3
      exact ⟨rfl, rfl⟩
    · have hq : partsZ s ≤ p := by omega
      clear hn
      obtain ⟨z, hzz⟩ : ∃ z, z = partsZ s := ⟨_, rfl⟩
      rw [← hzz] at CP hz hq
      clear hzz
      go_enter Try.func32, Try.ntmps32
      go_wp2_with (go_at_call 31; refine (CP.out _).mono ?_; rintro e w' ⟨rfl, rfl⟩)
      rw [HF.out, HT.out]
      go_ret3
      exact ⟨rfl, rfl⟩
  | true =>
    have HF := hid (show fromZ s p = p * 48 from by unfold fromZ; rw [hb]; rfl)
    have HT := hid (show toZ s p = min (p * 48 + 48) s from by unfold toZ; rw [hb]; rfl)
    obtain ⟨h1, h2⟩ := partB_spec hb
    obtain ⟨h3, h4, -⟩ := fitsB_spec (partB_fits hb)
    clear hb
    obtain ⟨z, hzz⟩ : ∃ z, z = partsZ s := ⟨_, rfl⟩
    rw [← hzz] at CP hz h2
    clear hzz
    have hp32 : p < 32 := by omega
    rcases Int.lt_or_le s (p * 48 + 48) with h5 | h5
    · go_enter Try.func32, Try.ntmps32
      go_wp2_with (go_at_call 31; refine (CP.out _).mono ?_; rintro e w' ⟨rfl, rfl⟩)
      rw [HF.out, HT.out, Int.min_eq_right (by omega)]
      go_ret3
      exact ⟨rfl, rfl⟩
    · go_enter Try.func32, Try.ntmps32
      go_wp2_with (go_at_call 31; refine (CP.out _).mono ?_; rintro e w' ⟨rfl, rfl⟩)
      rw [HF.out, HT.out, Int.min_eq_left (by omega)]
      go_ret3
      exact ⟨rfl, rfl⟩

end Go.Proofs.Yteedceepoindeaa

namespace Go.Proofs.Yteedceepoindeaa
open Go.RowKit

def cutsL (s : Int) (k : Nat) : List Int := (List.range (k + 1)).map fun (i : Nat) => min (48 * (i : Int)) s
theorem cutsL_length (s : Int) (k : Nat) : (cutsL s k).length = k + 1 := by simp [cutsL]
theorem cutsL_succ (s : Int) (k : Nat) : cutsL s (k + 1) = cutsL s k ++ [min (48 * ((k + 1 : Nat) : Int)) s] := by unfold cutsL; rw [List.range_succ, List.map_append]; rfl
theorem cutsL_get (s : Int) (k i : Nat) (h : i ≤ k) : (cutsL s k)[i]?.getD 0 = min (48 * (i : Int)) s := by
  unfold cutsL
  rw [List.getElem?_map, List.getElem?_range (by omega)]
  rfl
theorem IntRow.last {w : World} {base e n : Nat} {v : Value} {zs : List Int} (h : w.ownsRow base e 1 v (n + 1) (zs.map (Value.int .i64))) : ∃ g c, v = .slice (some ⟨g, 0, none⟩) (n + 1) c ∧ w.cell? ⟨g, n, none⟩ = some (.int .i64 (zs[n]?.getD 0)) := by
  have hr := IntRow.of h
  have hl : zs.length = n + 1 := by have := h.1; simpa using this
  rcases hr with ⟨rfl, _⟩ | ⟨g, cap, rfl, _, _, hcell⟩
  · simp at hl
  · exact ⟨g, cap, by rw [hl], hcell n (by omega)⟩
def lenV : Value → Nat | .slice _ n _ => n | _ => 0
def CutR (w : World) (s : Int) (v : Value) (wr : World) : Prop :=
  ∃ k : Nat, Hid (k ≤ 32 ∧ (k = 0 ∨ 48 * ((k : Int) - 1) < s)) ∧ Hid (wr.ownsRow w.heap.size 3 1 v (k + 1) ((cutsL s k).map (Value.int .i64))) ∧ Hid (Kp Nb w wr)

theorem cut_next {w wr w1 : World} {s E : Int} {k g c g1 cap : Nat} {x : Obj} (hk : k ≤ 32 ∧ (k = 0 ∨ 48 * ((k : Int) - 1) < s)) (hlt : 48 * (k : Int) < s) (hE : E = min (48 * ((k + 1 : Nat) : Int)) s ∧ s ≤ 1536)
    (ho : wr.ownsRow w.heap.size 3 1 (.slice (some ⟨g, 0, none⟩) (k + 1) c) (k + 1) ((cutsL s k).map (Value.int .i64))) (hw : Kp Nb w wr)
    (hown1 : w1.ownsRow w.heap.size 3 1 (.slice (some ⟨g1, 0, none⟩) (k + 1 + 1) cap) (k + 1 + 1) ((cutsL s k).map (Value.int .i64) ++ [.int .i64 E])) (hgrow : (wr.alloc x).grownBy w1 (Value.slice (some ⟨g, 0, none⟩) (k + 1) c).ownBlock) :
    CutR w s (.slice (some ⟨g1, 0, none⟩) (k + 1 + 1) cap) w1 := by
  refine ⟨k + 1, ⟨by omega, .inr (by omega)⟩, ?_, ?_⟩
  · rw [cutsL_succ, List.map_append, ← hE.1]
    exact hown1
  · refine Kp.grown (hw.alloc x) hgrow (fun b hb hlt => ?_)
    have := (row_cells ho hb).1
    omega


end Go.Proofs.Yteedceepoindeaa

namespace Go.Proofs.Yteedceepoindeaa
open Go.RowKit

theorem IntRow.some {w : World} {v : Value} {zs : List Int} (h : IntRow w v zs) (hl : 0 < zs.length) : ∃ g c, v = .slice (Option.some ⟨g, 0, Option.none⟩) zs.length c ∧ ∀ i, i < zs.length → w.cell? ⟨g, i, Option.none⟩ = Option.some (.int .i64 (zs[i]?.getD 0)) := by
  rcases h with ⟨rfl, _⟩ | ⟨g, cap, rfl, _, _, hcell⟩
  · simp at hl
  · exact ⟨g, cap, rfl, hcell⟩
theorem fs_rounds (w : World) : Calls Try.prog 30 #[.int .i64 0, .int .i64 9] w fun e w' => (∃ v1 v2, e = .returned (.tuple #[v1, v2]) ∧ IntRow w' v1 [0, 1, 2, 3] ∧ IntRow w' v2 [12, 24, 48, 96]) ∧ Kp Nb w w' := by
  have := srounds_any 0 9 w
  rw [show firsts 0 9 = [0, 1, 2, 3] from by kernel_rfl, show sizesOf 0 9 = [12, 24, 48, 96] from by kernel_rfl] at this
  exact this
theorem fs_range (w : World) : Calls Try.prog 32 #[.int .i64 60, .int .i64 1] w fun e w' => e = .returned (.tuple #[.int .i64 48, .int .i64 60, .bool true]) ∧ w = w' := by
  have := range_any 60 1 w
  rw [show fromZ 60 1 = 48 from by kernel_rfl, show toZ 60 1 = 60 from by kernel_rfl, show partB 60 1 = true from by kernel_rfl] at this
  exact this
theorem fs_cells (w : World) : Calls Try.prog 52 #[.int .i64 0] w fun e w' => e = .returned (.int .i64 12) ∧ w = w' := by
  have := cells_any 0 w
  rw [show cellsZ 0 = 12 from by kernel_rfl] at this
  exact this
theorem fs_next1 (w : World) : Calls Try.prog 53 #[.int .i64 1536] w fun e w' => e = .returned (.int .i64 1536) ∧ w = w' := by
  have := next_any 1536 w
  rw [show nextZ 1536 = 1536 from by kernel_rfl] at this
  exact this
theorem fs_next2 (w : World) : Calls Try.prog 53 #[.int .i64 4] w fun e w' => e = .returned (.int .i64 0) ∧ w = w' := by
  have := next_any 4 w
  rw [show nextZ 4 = 0 from by kernel_rfl] at this
  exact this
theorem fs_parts (w : World) : Calls Try.prog 31 #[.int .i64 60] w fun e w' => e = .returned (.int .i64 2) ∧ w = w' := by
  have := parts_any 60 w
  rw [show partsZ 60 = 2 from by kernel_rfl] at this
  exact this
theorem fs_bytes (w : World) : Calls Try.prog 36 #[.int .i64 3] w fun e w' => e = .returned (.int .i64 84) ∧ w = w' := by
  have := bytes_any 3 w
  rw [show bytesZ 3 = 84 from by kernel_rfl] at this
  exact this

set_option maxRecDepth 100000 in
set_option maxHeartbeats 1000000 in
theorem first14_any (w : World) : Calls Try.prog 29 #[] w fun e w' => e = .returned (.bool true) ∧ Kp Nb w w' := by
  go_enter Try.func29, Try.ntmps29
  go_wp2_with fail
  refine (fs_rounds _).mono ?_
  rintro e w1 ⟨⟨v1, v2, rfl, r1, r2⟩, k1⟩
  obtain ⟨g1, d1, rfl, c1⟩ := r1.some (by decide)
  obtain ⟨g2, d2, rfl, c2⟩ := r2.some (by decide)
  have e1 : w1.cell? ⟨g1, 3, none⟩ = some (.int .i64 3) := c1 3 (by decide)
  have e2 : w1.cell? ⟨g2, 3, none⟩ = some (.int .i64 96) := c2 3 (by decide)
  have K1 := hid k1
  clear k1 r1 r2 c1 c2
  go_wp2_with (first
    | (go_at_call 32; refine (fs_range _).mono ?_; rintro e w' ⟨rfl, rfl⟩)
    | (go_at_call 52; refine (fs_cells _).mono ?_; rintro e w' ⟨rfl, rfl⟩)
    | (go_at_call 53; ((with_reducible refine (fs_next1 _).mono ?_); rintro e w' ⟨rfl, rfl⟩))
    | (go_at_call 53; ((with_reducible refine (fs_next2 _).mono ?_); rintro e w' ⟨rfl, rfl⟩))
    | (go_at_call 31; refine (fs_parts _).mono ?_; rintro e w' ⟨rfl, rfl⟩)
    | (go_at_call 36; refine (fs_bytes _).mono ?_; rintro e w' ⟨rfl, rfl⟩))
  go_ret
  exact ⟨rfl, K1.out⟩

theorem firsts_length (g m : Int) : (firsts g m).length = min m.toNat 4 := by unfold firsts; rw [List.length_map, List.length_take, roundsL_length]
theorem sizesOf_length (g m : Int) : (sizesOf g m).length = min m.toNat 4 := by unfold sizesOf; rw [List.length_map, List.length_take, roundsL_length]
theorem roundsL_get (g : Int) (j : Nat) (h : j < 4) : (roundsL g 4)[j]? = Option.some ((j : Int), sizeZ g j) := by
  unfold roundsL
  rw [List.getElem?_map, List.getElem?_range h]
  rfl
theorem firsts_get (g m : Int) (j : Nat) (h : j < min m.toNat 4) : (firsts g m)[j]?.getD 0 = (j : Int) := by
  unfold firsts
  rw [List.getElem?_map, List.getElem?_take_of_lt (by omega), roundsL_get g j (by omega)]
  rfl
theorem sizesOf_get (g m : Int) (j : Nat) (h : j < min m.toNat 4) : (sizesOf g m)[j]?.getD 0 = sizeZ g j := by
  unfold sizesOf
  rw [List.getElem?_map, List.getElem?_take_of_lt (by omega), roundsL_get g j (by omega)]
  rfl
def RoR (g : Int) (L : Nat) (n i : Value) : Prop := ∃ j : Nat, j ≤ L ∧ i = .int .i64 j ∧ n = .int .i64 (sizeZ g j)

/-- What rounds answers, with the length as a letter. -/
theorem rounds_len (g m : Int) (L : Nat) (hL : L = min m.toNat 4) (w : World) :
    Calls Try.prog 30 #[.int .i64 g, .int .i64 m] w fun e w' => (∃ x1 c1 x2 c2, e = .returned (.tuple #[.slice x1 L c1, .slice x2 L c2]) ∧ Hid (∀ j, j < L → ∃ b1 b2, x1 = Option.some ⟨b1, 0, none⟩ ∧ x2 = Option.some ⟨b2, 0, none⟩ ∧ w'.cell? ⟨b1, j, none⟩ = Option.some (.int .i64 (j : Int)) ∧ w'.cell? ⟨b2, j, none⟩ = Option.some (.int .i64 (sizeZ g j)))) ∧ Kp Nb w w' := by
  refine (srounds_any g m w).mono ?_
  rintro e w' ⟨⟨v1, v2, rfl, r1, r2⟩, k⟩
  obtain ⟨x1, c1, rfl⟩ := r1.shape
  obtain ⟨x2, c2, rfl⟩ := r2.shape
  rw [firsts_length, sizesOf_length, ← hL]
  refine ⟨⟨x1, c1, x2, c2, rfl, fun j hj => ?_⟩, k⟩
  obtain ⟨b1, d1, e1, q1⟩ := r1.some (by rw [firsts_length]; omega)
  obtain ⟨b2, d2, e2, q2⟩ := r2.some (by rw [sizesOf_length]; omega)
  have h1 := q1 j (by rw [firsts_length]; omega)
  have h2 := q2 j (by rw [sizesOf_length]; omega)
  rw [firsts_get g m j (by omega)] at h1
  rw [sizesOf_get g m j (by omega)] at h2
  injection e1 with e1
  injection e2 with e2
  exact ⟨b1, b2, e1, e2, h1, h2⟩


end Go.Proofs.Yteedceepoindeaa
