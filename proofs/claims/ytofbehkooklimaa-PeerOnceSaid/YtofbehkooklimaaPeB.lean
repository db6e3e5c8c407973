/-
  Layer 29: the pairs of a round, gone through (peer.Round). Condition: what an int is.
-/
import Derived.Test.YtofbehkooklimaaPeA
import Derived.Test.YtofbehkooklimaaIntRow
import Derived.RangeFuncNested
import Derived.RangeFuncBound
import Derived.RangeFuncCalls
import Derived.RangeFuncLeaves
import Derived.Shelf.Abstract
import Derived.Shelf.RegionOpen
import Derived.OwnWalkIn
import Derived.TacticsInMore
import Derived.LoopNIn
import Derived.LoopIn
namespace Go.Proofs.Ytofbehkooklimaa
open Go.RowKit Go.Shelf
attribute [local go_sem] Oper.semAt_some

def pairsN (n : Int) : Nat := if pfitsB n = true then (n.toNat - 1) * n.toNat else 0
def pairAt (n : Int) (i : Nat) : Int × Int := (((i % n.toNat : Nat) : Int), peerV n ((i % n.toNat : Nat) : Int) ((i / n.toNat : Nat) : Int))
def pairsTo (n : Int) (k : Nat) : List (Int × Int) := (List.range k).map (pairAt n)
def pairsL (n : Int) : List (Int × Int) := pairsTo n (pairsN n)
theorem pairsTo_succ (n : Int) (k : Nat) : pairsTo n (k + 1) = pairsTo n k ++ [pairAt n k] := by simp [pairsTo, List.range_succ]
theorem pairsTo_length (n : Int) (k : Nat) : (pairsTo n k).length = k := by simp [pairsTo]
theorem pairsTo_take (n : Int) (k m : Nat) (h : k ≤ m) : pairsTo n k = (pairsTo n m).take k := by
  unfold pairsTo
  rw [← List.map_take, List.take_range, Nat.min_eq_left h]
theorem pairsTo_get (n : Int) (k i : Nat) (h : i < k) : (pairsTo n k)[i]? = some (pairAt n i) := by
  unfold pairsTo
  rw [List.getElem?_map, List.getElem?_range h]
  rfl
theorem pairsN_le (n : Int) : pairsN n ≤ 56 := by
  unfold pairsN
  split
  · have := pfitsB_spec (by assumption)
    have := Nat.mul_le_mul (show n.toNat - 1 ≤ 7 by omega) (show n.toNat ≤ 8 by omega)
    omega
  · omega
theorem pairAt_at (N t i : Nat) (h : i < N) : pairAt (N : Int) (t * N + i) = ((i : Int), peerV N i t) := by
  have e1 : (t * N + i) % N = i := by rw [Nat.mul_comm, Nat.mul_add_mod]; exact Nat.mod_eq_of_lt h
  have e2 : (t * N + i) / N = t := by rw [Nat.mul_comm, Nat.mul_add_div (by omega), Nat.div_eq_of_lt h]; omega
  simp only [pairAt, Int.toNat_natCast, e1, e2]

set_option maxRecDepth 100000 in
set_option maxHeartbeats 2000000 in
theorem round1_in (m : Nat) (hm : 1 ≤ m) (l Bn : Nat) (n : Int) (J Jx : List (Int × Int) → World → Prop)
    (hY : ∀ pre x W, J pre W → pre.length < pairsN n → YieldAt Fence.wide (m - 1) Try.prog l #[.int .i64 x.1, .int .i64 x.2] W fun r W' =>
      (r = .returned (.bool true) ∧ J (pre ++ [x]) W' ∧ KpL [Bn] W W') ∨ (r = .returned (.bool false) ∧ Jx (pre ++ [x]) W'))
    (W : World) (hE : W.cell? ⟨Bn, 0, none⟩ = some (.int .i64 n)) (h0 : J [] W) :
    CallsIn Fence.wide m Try.prog 52 #[.func (.yield l) #[] #[], .pointer (some ⟨Bn, 0, none⟩)] W fun r W' => (∃ v, r = .returned v) ∧
      ((∃ ys, ys = pairsL n ∧ J ys W') ∨ (∃ pre, (∃ k, k ≤ pairsN n ∧ pre = pairsTo n k) ∧ Jx pre W')) := by
  have CF : Hid (∀ w, Calls Try.prog 39 #[.int .i64 n] w fun r w' => r = .returned (.bool (pfitsB n)) ∧ w = w') := fun w => pfits_any n w
  refine callsIn_of_wp Try.func52 rfl trivial ?_ rfl
  simp only [Try.ntmps52, List.size_toArray, List.length_cons, List.length_nil, Nat.reduceAdd, Nat.reduceSub, Array.replicate_succ, Array.replicate_zero, List.push_toArray, List.append_toArray, List.nil_append, List.cons_append]
  cases hf : pfitsB n with
  | false =>
    rw [hf] at CF
    have HL := hid (show pairsL n = [] from by unfold pairsL pairsN; rw [hf]; rfl)
    have HJ := hid h0
    clear hf hY h0
    gi_wp2_with (refine ⟨trivial, ?_⟩; gi_at_call 39; refine (callsIn_wide.2 (CF.out _)).mono ?_; rintro r w' ⟨rfl, rfl⟩)
    refine bodyPost_ret (results_none rfl _ _ _) rfl ?_
    exact ⟨⟨_, rfl⟩, .inl ⟨_, rfl, by rw [HL.out]; exact HJ.out⟩⟩
  | true =>
    rw [hf] at CF
    obtain ⟨n1, n2⟩ := pfitsB_spec hf
    obtain ⟨N, rfl⟩ : ∃ N : Nat, n = (N : Int) := ⟨n.toNat, by omega⟩
    have HN := hid (show pairsN N = (N - 1) * N from by unfold pairsN; rw [hf]; simp)
    have HY := hid hY
    have HJ := hid h0
    have HE := hid hE
    clear hf hY h0
    gi_wp2_with (refine ⟨trivial, ?_⟩; gi_at_call 39; refine (callsIn_wide.2 (CF.out _)).mono ?_; rintro r w' ⟨rfl, rfl⟩)
    gi_loopw [12] (fun i wr => ∃ t : Nat, t ≤ N - 1 ∧ i = .int .i64 t ∧ Hid (J (pairsTo N (t * N)) wr) ∧ Hid (KpL [Bn] W wr)) (fun i _ => N - 1 - (intOf i).toNat)
    case atStart => exact ⟨0, Nat.zero_le _, rfl, by rw [Nat.zero_mul]; exact HJ, fun _ _ => rfl⟩
    case round =>
      clear hE
      obtain ⟨t, ht, rfl, hJt, hK⟩ := hrel
      have cE := (hK.out.cell (b := Bn) (by simp) 0).trans HE.out
      by_cases hlt : t < N - 1
      · have HLT := hid hlt
        have hd : decide ((t : Int) < (N : Int) - 1) = true := decide_eq_true (by omega)
        gi_wp2
        clear cE
        gi_loopw [16] (fun i wr => ∃ k : Nat, k ≤ N ∧ i = .int .i64 k ∧ Hid (J (pairsTo N (t * N + k)) wr) ∧ Hid (KpL [Bn] W wr)) (fun i _ => N - (intOf i).toNat)
        case atStart => exact ⟨0, Nat.zero_le _, rfl, by rw [Nat.add_zero]; exact hJt, hK⟩
        case round =>
          obtain ⟨k, hk, rfl, hJs, hKs⟩ := hrel
          have cE := (hKs.out.cell (b := Bn) (by simp) 0).trans HE.out
          by_cases hltk : k < N
          · have hpa := pairAt_at N t k hltk
            have hbound : t * N + k < (N - 1) * N := by
              have := Nat.mul_le_mul_right N (show t + 1 ≤ N - 1 by omega)
              rw [Nat.add_mul, Nat.one_mul] at this
              omega
            obtain ⟨fn, tmps, assign, body, hy, hR⟩ := HY.out _ (pairAt N (t * N + k)) wr hJs.out (by rw [pairsTo_length, HN.out]; exact hbound)
            have HT := hid (pairsTo_succ (N : Int) (t * N + k))
            have HB := hid hbound
            obtain ⟨px, hpx⟩ : ∃ px, px = pairAt N (t * N + k) := ⟨_, rfl⟩
            rw [← hpx] at hy hR HT
            rw [← hpx] at hpa
            subst hpa
            dsimp only at hy
            have HRR := hid hR
            clear hbound hR hpx
            gi_wp2_with (refine ⟨trivial, ?_⟩; gi_at_call 37; refine (callsIn_wide.2 (peer_any _ _ _ _)).mono ?_; rintro r w' ⟨rfl, rfl⟩)
            refine HRR.out.mono ?_
            rintro r W3 (⟨rfl, hJ3, hK3⟩ | ⟨rfl, hJx3⟩)
            · have HJ3 := hid hJ3
              have HK3 := hid (kpL_t hKs.out hK3)
              clear hJ3 hK3 hy cE hJs hKs
              gi_wp2
              all_goals
                go_roundw
                case rel => exact ⟨k + 1, by omega, by go_num, by rw [← Nat.add_assoc, HT.out]; exact HJ3, HK3⟩
                case measure => simp [intOf]; omega
            · gi_wp2
              refine bodyPost_ret (results_none rfl _ _ _) rfl ?_
              exact ⟨⟨_, rfl⟩, .inr ⟨_, ⟨t * N + k + 1, by rw [HN.out]; exact HB.out, rfl⟩, by rw [HT.out]; exact hJx3⟩⟩
          · obtain rfl : k = N := by omega
            have HJE : Hid (J (pairsTo k ((t + 1) * k)) wr) := by rw [Nat.add_mul, Nat.one_mul]; exact hJs
            clear hJs
            gi_wp2
            all_goals
              go_roundw
              case rel => exact ⟨t + 1, by have := HLT.out; omega, by go_num, HJE, hKs⟩
              case measure => have := HLT.out; simp [intOf]; omega
      · obtain rfl : t = N - 1 := by omega
        gi_wp2
        go_end0
        exact ⟨⟨_, rfl⟩, .inl ⟨_, rfl, by unfold pairsL; rw [HN.out]; exact hJt.out⟩⟩

set_option maxHeartbeats 1000000 in
theorem round0_in (m : Nat) (n : Int) (w : World) :
    CallsIn Fence.wide m Try.prog 48 #[.int .i64 n] w fun r w' => r = .returned (.func (.func 52) #[] #[.pointer (some ⟨w.heap.size, 0, none⟩)]) ∧ w' = w.alloc (.cells #[.int .i64 n] 3) := by
  refine callsIn_of_wp Try.func48 rfl trivial ?_ rfl
  simp only [Try.ntmps48, List.size_toArray, List.length_cons, List.length_nil, Nat.reduceAdd, Nat.reduceSub, Array.replicate_succ, Array.replicate_zero, List.push_toArray, List.append_toArray, List.nil_append, List.cons_append]
  gi_wp2
  go_ret
  exact ⟨rfl, rfl⟩

theorem round_stops (m : Nat) (hm : 1 ≤ m) (Bn : Nat) (n : Int) (w : World) (bN : Boxed w Bn 3 (.int .i64 n)) :
    SeqStopsK Fence.wide m Try.prog 52 #[.pointer (some ⟨Bn, 0, none⟩)] (fun x : Int × Int => #[Value.int .i64 x.1, Value.int .i64 x.2]) (KpL [Bn]) (fun ys => ys = pairsL n) (fun pre => ∃ k, k ≤ pairsN n ∧ pre = pairsTo n k) (pairsN n) w := fun l J Jx W hW _ _ hY h0 =>
  round1_in m hm l Bn n J Jx hY W ((hW.cell (p := ⟨Bn, 0, none⟩) bN.lt).trans bN.cell) h0

end Go.Proofs.Ytofbehkooklimaa
