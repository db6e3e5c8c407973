/-
  Layer 29: walks of Fits, isNode, Peer, Turn, Sessions. Condition: what an int is.
-/
import Derived.WalkKit
import Derived.Test.YtofbehkooklimaaProg
import Derived.Test.YtofbehkooklimaaKp
import Derived.IntWalk
import Derived.BigQuiet
import Derived.Deep.QuietTactic
namespace Go.Proofs.Ytofbehkooklimaa
open Go.RowKit

theorem pret_int {k : IntKind} {a b : Int} (h : a = b) : Ending.returned (.int k a) = .returned (.int k b) := by rw [h]
theorem pret_bool {a b : Bool} (h : a = b) : Ending.returned (.bool a) = .returned (.bool b) := by rw [h]
def pfitsB (n : Int) : Bool := decide (2 ≤ n ∧ n ≤ 8)
theorem pfitsB_t {n : Int} (h : 2 ≤ n ∧ n ≤ 8) : pfitsB n = true := by unfold pfitsB; exact decide_eq_true h
theorem pfitsB_f {n : Int} (h : ¬ (2 ≤ n ∧ n ≤ 8)) : pfitsB n = false := by unfold pfitsB; exact decide_eq_false h
theorem pfitsB_spec {n : Int} (h : pfitsB n = true) : 2 ≤ n ∧ n ≤ 8 := by unfold pfitsB at h; exact of_decide_eq_true h
theorem pfitsB_not {n : Int} (h : pfitsB n = false) : ¬ (2 ≤ n ∧ n ≤ 8) := by unfold pfitsB at h; exact of_decide_eq_false h
def isB (n k : Int) : Bool := decide ((2 ≤ n ∧ n ≤ 8) ∧ 0 ≤ k ∧ k < n)
theorem isB_t {n k : Int} (h : (2 ≤ n ∧ n ≤ 8) ∧ 0 ≤ k ∧ k < n) : isB n k = true := by unfold isB; exact decide_eq_true h
theorem isB_f {n k : Int} (h : ¬ ((2 ≤ n ∧ n ≤ 8) ∧ 0 ≤ k ∧ k < n)) : isB n k = false := by unfold isB; exact decide_eq_false h
theorem isB_spec {n k : Int} (h : isB n k = true) : (2 ≤ n ∧ n ≤ 8) ∧ 0 ≤ k ∧ k < n := by unfold isB at h; exact of_decide_eq_true h

set_option maxHeartbeats 400000 in
theorem pfits_any (n : Int) (w : World) : Calls Try.prog 39 #[.int .i64 n] w fun r w' => r = .returned (.bool (pfitsB n)) ∧ w = w' := by
  go_enter Try.func39, Try.ntmps39
  go_wp2
  all_goals
    go_ret
    refine ⟨pret_bool ?_, rfl⟩
    first
      | exact (pfitsB_t (by omega)).symm
      | exact (pfitsB_f (by omega)).symm
      | (unfold pfitsB; rw [decide_eq_decide]; omega)
set_option maxHeartbeats 400000 in
theorem isnode_any (n k : Int) (w : World) : Calls Try.prog 49 #[.int .i64 n, .int .i64 k] w fun r w' => r = .returned (.bool (isB n k)) ∧ w = w' := by
  have CF : Hid (∀ w, Calls Try.prog 39 #[.int .i64 n] w fun r w' => r = .returned (.bool (pfitsB n)) ∧ w = w') := fun w => pfits_any n w
  cases hf : pfitsB n with
  | false =>
    rw [hf] at CF
    have HB := hid (isB_f (k := k) (fun h => pfitsB_not hf h.1))
    clear hf
    go_enter Try.func49, Try.ntmps49
    go_wp2_with (go_at_call 39; refine (CF.out _).mono ?_; rintro e w' ⟨rfl, rfl⟩)
    go_ret
    exact ⟨pret_bool HB.out.symm, rfl⟩
  | true =>
    rw [hf] at CF
    have HN := hid (pfitsB_spec hf)
    clear hf
    go_enter Try.func49, Try.ntmps49
    go_wp2_with (go_at_call 39; refine (CF.out _).mono ?_; rintro e w' ⟨rfl, rfl⟩)
    all_goals
      go_ret
      refine ⟨pret_bool ?_, rfl⟩
      have hn := HN.out
      first
        | exact (isB_t (by omega)).symm
        | exact (isB_f (by omega)).symm
        | (unfold isB; rw [decide_eq_decide]; omega)

/-- Is there such a peer, and which? -/
def peerB (n k t : Int) : Bool := isB n k && decide (0 ≤ t)
def peerZ (n k t : Int) : Int := (k + 1 + t % (n - 1)) % n
def turnB (n k p : Int) : Bool := isB n k && isB n p && !decide (k = p)
def turnZ (n k p : Int) : Int := (p - k - 1 + n) % n

/-- Its answer. -/
def peerV (n k t : Int) : Int := if peerB n k t = true then peerZ n k t else 0
def turnV (n k p : Int) : Int := if turnB n k p = true then turnZ n k p else 0
theorem pret_two {a b : Int} {c d : Bool} (h : a = b) (g : c = d) : Ending.returned (.tuple #[.int .i64 a, .bool c]) = .returned (.tuple #[.int .i64 b, .bool d]) := by rw [h, g]

set_option maxHeartbeats 1000000 in
theorem peer_any (n k t : Int) (w : World) : Calls Try.prog 37 #[.int .i64 n, .int .i64 k, .int .i64 t] w fun r w' => r = .returned (.tuple #[.int .i64 (peerV n k t), .bool (peerB n k t)]) ∧ w = w' := by
  have CI : Hid (∀ w, Calls Try.prog 49 #[.int .i64 n, .int .i64 k] w fun r w' => r = .returned (.bool (isB n k)) ∧ w = w') := fun w => isnode_any n k w
  cases hi : isB n k with
  | false =>
    rw [hi] at CI
    have HB := hid (show peerB n k t = false from by unfold peerB; rw [hi]; rfl)
    clear hi
    go_enter Try.func37, Try.ntmps37
    go_wp2_with (go_at_call 49; refine (CI.out _).mono ?_; rintro e w' ⟨rfl, rfl⟩)
    go_ret2
    exact ⟨pret_two (by unfold peerV; rw [HB.out]; rfl) HB.out.symm, rfl⟩
  | true =>
    rw [hi] at CI
    obtain ⟨⟨h1, h2⟩, h3, h4⟩ := isB_spec hi
    by_cases ht : 0 ≤ t
    · have HB := hid (show peerB n k t = true from by unfold peerB; rw [hi, decide_eq_true ht]; rfl)
      have e1 : t.tmod (n - 1) = t % (n - 1) := Int.tmod_eq_emod_of_nonneg ht
      have m1 := Int.emod_nonneg t (show n - 1 ≠ 0 by omega)
      have m2 := Int.emod_lt_of_pos t (show 0 < n - 1 by omega)
      have HZ := hid (show peerZ n k t = (k + 1 + t % (n - 1)) % n from rfl)
      obtain ⟨q, hq⟩ : ∃ q, q = t % (n - 1) := ⟨_, rfl⟩
      rw [← hq] at e1 m1 m2 HZ
      have e2 : (k + 1 + q).tmod n = (k + 1 + q) % n := Int.tmod_eq_emod_of_nonneg (by omega)
      have hn0 : ((n == 0) : Bool) = false := by rw [beq_eq_false_iff_ne]; omega
      have hn1 : ((n - 1 == 0) : Bool) = false := by rw [beq_eq_false_iff_ne]; omega
      clear hi hq
      go_enter Try.func37, Try.ntmps37
      go_wp2_with (go_at_call 49; refine (CI.out _).mono ?_; rintro e w' ⟨rfl, rfl⟩)
      go_ret2
      exact ⟨pret_two (by unfold peerV; rw [HB.out, HZ.out]; rfl) HB.out.symm, rfl⟩
    · have HB := hid (show peerB n k t = false from by unfold peerB; rw [hi, decide_eq_false ht]; rfl)
      clear hi
      go_enter Try.func37, Try.ntmps37
      go_wp2_with (go_at_call 49; refine (CI.out _).mono ?_; rintro e w' ⟨rfl, rfl⟩)
      go_ret2
      exact ⟨pret_two (by unfold peerV; rw [HB.out]; rfl) HB.out.symm, rfl⟩

set_option maxHeartbeats 1000000 in
theorem turn_any (n k p : Int) (w : World) : Calls Try.prog 38 #[.int .i64 n, .int .i64 k, .int .i64 p] w fun r w' => r = .returned (.tuple #[.int .i64 (turnV n k p), .bool (turnB n k p)]) ∧ w = w' := by
  have CI : Hid (∀ w, Calls Try.prog 49 #[.int .i64 n, .int .i64 k] w fun r w' => r = .returned (.bool (isB n k)) ∧ w = w') := fun w => isnode_any n k w
  have CJ : Hid (∀ w, Calls Try.prog 49 #[.int .i64 n, .int .i64 p] w fun r w' => r = .returned (.bool (isB n p)) ∧ w = w') := fun w => isnode_any n p w
  cases hi : isB n k with
  | false =>
    rw [hi] at CI
    have HB := hid (show turnB n k p = false from by unfold turnB; rw [hi]; rfl)
    clear hi
    go_enter Try.func38, Try.ntmps38
    go_wp2_with (go_at_call 49; refine (CI.out _).mono ?_; rintro e w' ⟨rfl, rfl⟩)
    go_ret2
    exact ⟨pret_two (by unfold turnV; rw [HB.out]; rfl) HB.out.symm, rfl⟩
  | true =>
    rw [hi] at CI
    cases hj : isB n p with
    | false =>
      rw [hj] at CJ
      have HB := hid (show turnB n k p = false from by unfold turnB; rw [hi, hj]; rfl)
      clear hi hj
      go_enter Try.func38, Try.ntmps38
      go_wp2_with (go_at_call 49; (first | with_reducible refine (CI.out _).mono ?_ | with_reducible refine (CJ.out _).mono ?_); rintro e w' ⟨rfl, rfl⟩)
      go_ret2
      exact ⟨pret_two (by unfold turnV; rw [HB.out]; rfl) HB.out.symm, rfl⟩
    | true =>
      rw [hj] at CJ
      obtain ⟨⟨h1, h2⟩, h3, h4⟩ := isB_spec hi
      obtain ⟨_, h5, h6⟩ := isB_spec hj
      by_cases ht : k = p
      · have HB := hid (show turnB n k p = false from by unfold turnB; rw [hi, hj, decide_eq_true ht]; rfl)
        clear hi hj
        go_enter Try.func38, Try.ntmps38
        go_wp2_with (go_at_call 49; (first | with_reducible refine (CI.out _).mono ?_ | with_reducible refine (CJ.out _).mono ?_); rintro e w' ⟨rfl, rfl⟩)
        all_goals
          go_ret2
          exact ⟨pret_two (by unfold turnV; rw [HB.out]; rfl) HB.out.symm, rfl⟩
      · have HB := hid (show turnB n k p = true from by unfold turnB; rw [hi, hj, decide_eq_false ht]; rfl)
        have HZ := hid (show turnZ n k p = (p - k - 1 + n) % n from rfl)
        have e2 : (p - k - 1 + n).tmod n = (p - k - 1 + n) % n := Int.tmod_eq_emod_of_nonneg (by omega)
        have hn0 : ((n == 0) : Bool) = false := by rw [beq_eq_false_iff_ne]; omega
        clear hi hj
        go_enter Try.func38, Try.ntmps38
        go_wp2_with (go_at_call 49; (first | with_reducible refine (CI.out _).mono ?_ | with_reducible refine (CJ.out _).mono ?_); rintro e w' ⟨rfl, rfl⟩)
        all_goals
          go_ret2
          exact ⟨pret_two (by unfold turnV; rw [HB.out, HZ.out]; simp only [if_true, Int.add_emod_right]) HB.out.symm, rfl⟩

def sessZ (n r : Int) : Int := if pfitsB n = true then n * (n - 1) * min (max r 0) 1048576 else 0

set_option maxHeartbeats 1000000 in
theorem sessions_any (n r : Int) (w : World) : Calls Try.prog 40 #[.int .i64 n, .int .i64 r] w fun e w' => e = .returned (.int .i64 (sessZ n r)) ∧ w = w' := by
  have CF : Hid (∀ w, Calls Try.prog 39 #[.int .i64 n] w fun r w' => r = .returned (.bool (pfitsB n)) ∧ w = w') := fun w => pfits_any n w
  cases hf : pfitsB n with
  | false =>
    rw [hf] at CF
    have HB := hid (show sessZ n r = 0 from by unfold sessZ; rw [hf]; rfl)
    clear hf
    go_enter Try.func40, Try.ntmps40
    go_wp2_with (go_at_call 39; refine (CF.out _).mono ?_; rintro e w' ⟨rfl, rfl⟩)
    go_ret
    exact ⟨pret_int HB.out.symm, rfl⟩
  | true =>
    rw [hf] at CF
    obtain ⟨h1, h2⟩ := pfitsB_spec hf
    have HB := hid (show sessZ n r = n * (n - 1) * min (max r 0) 1048576 from by unfold sessZ; rw [hf]; rfl)
    clear hf
    have h6 : n * (n - 1) ≤ 56 := by
      have := Int.mul_le_mul h2 (show n - 1 ≤ 7 by omega) (by omega) (by omega)
      omega
    have h7 : 0 ≤ n * (n - 1) := Int.mul_nonneg (by omega) (by omega)
    obtain ⟨p, hp⟩ : ∃ p, p = n * (n - 1) := ⟨_, rfl⟩
    rw [← hp] at HB h6 h7
    obtain ⟨m, hm⟩ : ∃ m, m = min (max r 0) 1048576 := ⟨_, rfl⟩
    have h8 : 0 ≤ p * m := Int.mul_nonneg h7 (by omega)
    have h9 : p * m ≤ 56 * 1048576 := Int.mul_le_mul h6 (by omega) (by omega) (by omega)
    have w1 : wrap64 (p * m) = p * m := by unfold wrap64; omega
    have w0 : wrap64 (n * (n - 1)) = p := by rw [← hp]; unfold wrap64; omega
    rw [← hm] at HB
    have HP := hid hp
    clear hp
    by_cases hr0 : r < 0
    · have em : m = 0 := by omega
      clear hm h8 h9
      subst em
      go_enter Try.func40, Try.ntmps40
      go_wp2_with (go_at_call 39; refine (CF.out _).mono ?_; rintro e w' ⟨rfl, rfl⟩)
      go_ret
      exact ⟨pret_int (by rw [HB.out, Int.mul_zero]), rfl⟩
    · by_cases hr1 : r ≤ 1048576
      · have em : m = r := by omega
        clear hm
        subst em
        go_enter Try.func40, Try.ntmps40
        go_wp2_with (go_at_call 39; refine (CF.out _).mono ?_; rintro e w' ⟨rfl, rfl⟩)
        all_goals (first | (exfalso; omega) | (go_ret; exact ⟨pret_int (by rw [HB.out]), rfl⟩))
      · have em : m = 1048576 := by omega
        clear hm
        subst em
        go_enter Try.func40, Try.ntmps40
        go_wp2_with (go_at_call 39; refine (CF.out _).mono ?_; rintro e w' ⟨rfl, rfl⟩)
        all_goals (first | (exfalso; omega) | (go_ret; exact ⟨pret_int (by rw [HB.out]), rfl⟩))

end Go.Proofs.Ytofbehkooklimaa
