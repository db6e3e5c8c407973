/-
  Layer 23: what a timer waits, gone through (timer.Waits), and their sum (timer.Longest). Condition: what an int is.
-/
import Derived.Test.YtofjkaemakdmeaaTimA
import Derived.Test.YtofjkaemakdmeaaIntRow
import Derived.RangeFuncNested
import Derived.RangeFuncBound
import Derived.RangeFuncCalls
import Derived.RangeFuncLeaves
import Derived.Shelf.Abstract
import Derived.Shelf.RegionOpen
import Derived.OwnWalkIn
import Derived.TacticsInMore
import Derived.LoopNIn
import Derived.LoopIn
namespace Go.Proofs.Ytofjkaemakdmeaa
open Go.RowKit Go.Shelf
attribute [local go_sem] Oper.semAt_some

def waitsN (e t : Int) : Nat := if tfitsB e t = true then t.toNat + 1 else 0
def waitsTo (e : Int) (k : Nat) : List (Int × Int) := (List.range k).map fun (i : Nat) => ((i : Int), e * timesZ i)
def waitsL (e t : Int) : List (Int × Int) := waitsTo e (waitsN e t)
theorem waitsTo_succ (e : Int) (k : Nat) : waitsTo e (k + 1) = waitsTo e k ++ [((k : Int), e * timesZ k)] := by simp [waitsTo, List.range_succ]
theorem waitsTo_length (e : Int) (k : Nat) : (waitsTo e k).length = k := by simp [waitsTo]
theorem waitsTo_take (e : Int) (k n : Nat) (h : k ≤ n) : waitsTo e k = (waitsTo e n).take k := by
  unfold waitsTo
  rw [← List.map_take, List.take_range, Nat.min_eq_left h]
theorem waitsTo_get (e : Int) (k i : Nat) (h : i < k) : (waitsTo e k)[i]? = some ((i : Int), e * timesZ i) := by
  unfold waitsTo
  rw [List.getElem?_map, List.getElem?_range h]
  rfl
theorem waitsN_le (e t : Int) : waitsN e t ≤ 11 := by
  unfold waitsN
  split
  · have := tfitsB_spec (by assumption); omega
  · omega
theorem wait_le {e : Int} (h1 : 1 ≤ e) (h2 : e ≤ 1000) (k : Nat) : 1 ≤ e * timesZ k ∧ e * timesZ k ≤ 8000 := by
  unfold timesZ
  split
  · omega
  · split
    · omega
    · split <;> omega

set_option maxRecDepth 100000 in
set_option maxHeartbeats 2000000 in
theorem waits1_in (n : Nat) (hn : 1 ≤ n) (l Be Bt : Nat) (e t : Int) (J Jx : List (Int × Int) → World → Prop)
    (hY : ∀ pre x W, J pre W → pre.length < waitsN e t → YieldAt Fence.wide (n - 1) Try.prog l #[.int .i64 x.1, .int .i64 x.2] W fun r W' =>
      (r = .returned (.bool true) ∧ J (pre ++ [x]) W' ∧ KpL [Be, Bt] W W') ∨ (r = .returned (.bool false) ∧ Jx (pre ++ [x]) W'))
    (W : World) (hE : W.cell? ⟨Be, 0, none⟩ = some (.int .i64 e)) (hT : W.cell? ⟨Bt, 0, none⟩ = some (.int .i64 t)) (h0 : J [] W) :
    CallsIn Fence.wide n Try.prog 85 #[.func (.yield l) #[] #[], .pointer (some ⟨Be, 0, none⟩), .pointer (some ⟨Bt, 0, none⟩)] W fun r W' => (∃ v, r = .returned v) ∧
      ((∃ ys, ys = waitsL e t ∧ J ys W') ∨ (∃ pre, (∃ k, k ≤ waitsN e t ∧ pre = waitsTo e k) ∧ Jx pre W')) := by
  have CF : Hid (∀ w, Calls Try.prog 74 #[.int .i64 e, .int .i64 t] w fun r w' => r = .returned (.bool (tfitsB e t)) ∧ w = w') := fun w => tfits_any e t w
  refine callsIn_of_wp Try.func85 rfl trivial ?_ rfl
  simp only [Try.ntmps85, List.size_toArray, List.length_cons, List.length_nil, Nat.reduceAdd, Nat.reduceSub, Array.replicate_succ, Array.replicate_zero, List.push_toArray, List.append_toArray, List.nil_append, List.cons_append]
  cases hf : tfitsB e t with
  | false =>
    rw [hf] at CF
    have HL := hid (show waitsL e t = [] from by unfold waitsL waitsN; rw [hf]; rfl)
    have HJ := hid h0
    clear hf hY h0
    gi_wp2_with (refine ⟨trivial, ?_⟩; gi_at_call 74; refine (callsIn_wide.2 (CF.out _)).mono ?_; rintro r w' ⟨rfl, rfl⟩)
    refine bodyPost_ret (results_none rfl _ _ _) rfl ?_
    exact ⟨⟨_, rfl⟩, .inl ⟨_, rfl, by rw [HL.out]; exact HJ.out⟩⟩
  | true =>
    rw [hf] at CF
    have HN := hid (show waitsN e t = t.toNat + 1 from by unfold waitsN; rw [hf]; rfl)
    obtain ⟨e1, e2, t1, t2⟩ := tfitsB_spec hf
    obtain ⟨T, rfl⟩ : ∃ T : Nat, t = (T : Int) := ⟨t.toNat, by omega⟩
    have HNT : Hid (waitsN e T = T + 1) := HN.out
    have HY := hid hY
    have HJ := hid h0
    have HE := hid hE
    have HT := hid hT
    clear hf hY h0 HN
    gi_wp2_with (refine ⟨trivial, ?_⟩; gi_at_call 74; refine (callsIn_wide.2 (CF.out _)).mono ?_; rintro r w' ⟨rfl, rfl⟩)
    gi_loopw [4, 12] (fun s i wr => ∃ k : Nat, k ≤ T + 1 ∧ i = .int .i64 k ∧ s = .int .i64 (timesZ k) ∧ Hid (J (waitsTo e k) wr) ∧ Hid (KpL [Be, Bt] W wr)) (fun _ i _ => T + 1 - (intOf i).toNat)
    case atStart => exact ⟨0, Nat.zero_le _, rfl, rfl, HJ, fun _ _ => rfl⟩
    case round =>
      clear hE hT
      obtain ⟨k, hk, rfl, rfl, hJs, hK⟩ := hrel
      have cE := (hK.out.cell (b := Be) (by simp) 0).trans HE.out
      by_cases hlt : k < T + 1
      · have ht := timesZ_le k
        have hts := timesZ_succ k
        have hw := wait_le e1 e2 k
        obtain ⟨fn, tmps, assign, body, hy, hR⟩ := HY.out _ ((k : Int), e * timesZ k) wr hJs.out (by rw [waitsTo_length, HNT.out]; exact hlt)
        dsimp only at hy
        obtain ⟨z, hz⟩ : ∃ z, z = timesZ k := ⟨_, rfl⟩
        obtain ⟨pz, hpz⟩ : ∃ p, p = e * timesZ k := ⟨_, rfl⟩
        rw [← hpz] at hy hR hw
        rw [← hz] at ht hts hpz ⊢
        have hmul : IntKind.i64.wrap (e * z) = pz := by rw [← hpz]; exact IntWalk.i64_in _ (by omega)
        have HTS := hid hts
        have HZ := hid hz
        have HPZ := hid hpz
        have HRR := hid hR
        clear hts hz hpz hR
        gi_wp2
        refine HRR.out.mono ?_
        rintro r W3 (⟨rfl, hJ3, hK3⟩ | ⟨rfl, hJx3⟩)
        · have HJ3 := hid hJ3
          have HK3 := hid (kpL_t hK.out hK3)
          clear hJ3 hK3 hmul hy
          gi_wp2
          all_goals
            go_roundw
            case rel => exact ⟨k + 1, by omega, by go_num, by rw [HTS.out]; congr 1; omega, by rw [waitsTo_succ, ← HZ.out, ← HPZ.out]; exact HJ3, HK3⟩
            case measure => simp [intOf]; omega
        · gi_wp2
          refine bodyPost_ret (results_none rfl _ _ _) rfl ?_
          exact ⟨⟨_, rfl⟩, .inr ⟨_, ⟨k + 1, by rw [HNT.out]; omega, rfl⟩, by rw [waitsTo_succ, ← HZ.out, ← HPZ.out]; exact hJx3⟩⟩
      · obtain rfl : k = T + 1 := by omega
        gi_wp2
        go_end0
        exact ⟨⟨_, rfl⟩, .inl ⟨_, rfl, by unfold waitsL; rw [HNT.out]; exact hJs.out⟩⟩

set_option maxHeartbeats 1000000 in
theorem waits0_in (n : Nat) (e t : Int) (w : World) :
    CallsIn Fence.wide n Try.prog 75 #[.int .i64 e, .int .i64 t] w fun r w' => r = .returned (.func (.func 85) #[] #[.pointer (some ⟨w.heap.size, 0, none⟩), .pointer (some ⟨w.heap.size + 1, 0, none⟩)]) ∧ w' = (w.alloc (.cells #[.int .i64 e] 3)).alloc (.cells #[.int .i64 t] 3) := by
  refine callsIn_of_wp Try.func75 rfl trivial ?_ rfl
  simp only [Try.ntmps75, List.size_toArray, List.length_cons, List.length_nil, Nat.reduceAdd, Nat.reduceSub, Array.replicate_succ, Array.replicate_zero, List.push_toArray, List.append_toArray, List.nil_append, List.cons_append]
  gi_wp2
  go_ret
  exact ⟨rfl, rfl⟩

theorem waits_stops (n : Nat) (hn : 1 ≤ n) (Be Bt : Nat) (e t : Int) (w : World) (bE : Boxed w Be 3 (.int .i64 e)) (bT : Boxed w Bt 3 (.int .i64 t)) :
    SeqStopsK Fence.wide n Try.prog 85 #[.pointer (some ⟨Be, 0, none⟩), .pointer (some ⟨Bt, 0, none⟩)] (fun x : Int × Int => #[Value.int .i64 x.1, Value.int .i64 x.2]) (KpL [Be, Bt]) (fun ys => ys = waitsL e t) (fun pre => ∃ k, k ≤ waitsN e t ∧ pre = waitsTo e k) (waitsN e t) w := fun l J Jx W hW _ _ hY h0 =>
  waits1_in n hn l Be Bt e t J Jx hY W ((hW.cell (p := ⟨Be, 0, none⟩) bE.lt).trans bE.cell) ((hW.cell (p := ⟨Bt, 0, none⟩) bT.lt).trans bT.cell) h0

end Go.Proofs.Ytofjkaemakdmeaa
