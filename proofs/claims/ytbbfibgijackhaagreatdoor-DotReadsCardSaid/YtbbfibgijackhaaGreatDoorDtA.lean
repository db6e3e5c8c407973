/-
  Layer 3: Good, goodRun. Conditions: what these types hold.
-/
import Derived.Test.YtbbfibgijackhaaGreatDoorPenNew
import Derived.Test.YtbbfibgijackhaaGreatDoorRowApp
import Derived.Test.YtbbfibgijackhaaGreatDoorVars
import Derived.Test.YtbbfibgijackhaaGreatDoorGhostR
import Derived.StillTailTactics
import Derived.BigQuiet
import Derived.Deep.DeepCutAuto
import Derived.IntWalk
import Derived.Lib.Walk
import Derived.Deep.RegionHeld3
import Derived.Deep.QuietTactic
import Derived.WalkMore
namespace Go.Proofs.YtbbfibgijackhaaGreatDoor
open Go.RowKit

abbrev RunQ := Int × Int × Int
abbrev runL (q : RunQ) : List Value := [.int .i64 q.1, .int .i64 q.2.1, .int .i64 q.2.2]
abbrev runV (q : RunQ) : Value := .agg #[.int .i64 q.1, .int .i64 q.2.1, .int .i64 q.2.2]
abbrev dotV (n d : Int) : Value := .agg #[.int .i64 n, .int .i64 d]
def I64 (z : Int) : Prop := -9223372036854775808 ≤ z ∧ z < 9223372036854775808
def RunOk (q : RunQ) : Prop := I64 q.1 ∧ I64 q.2.1 ∧ I64 q.2.2
def goodB (n d : Int) : Bool := decide (0 ≤ n ∧ n ≤ 7 ∧ 1 ≤ d ∧ d ≤ 1099511627776)
theorem goodB_of {n d : Int} : goodB n d = true ↔ 0 ≤ n ∧ n ≤ 7 ∧ 1 ≤ d ∧ d ≤ 1099511627776 := by unfold goodB; exact decide_eq_true_iff
def goodR (q : RunQ) : Bool := decide (0 ≤ q.1 ∧ q.1 ≤ 7 ∧ 1 ≤ q.2.1 ∧ q.2.1 ≤ q.2.2 ∧ q.2.2 ≤ 1099511627776)
theorem goodR_of {q : RunQ} : goodR q = true ↔ 0 ≤ q.1 ∧ q.1 ≤ 7 ∧ 1 ≤ q.2.1 ∧ q.2.1 ≤ q.2.2 ∧ q.2.2 ≤ 1099511627776 := by unfold goodR; exact decide_eq_true_iff

set_option maxHeartbeats 400000 in
theorem good_any (n d : Int) (w : World) : Calls Tryz.prog 7 #[dotV n d] w fun e w' => e = .returned (.bool (goodB n d)) ∧ Kp Nb w w' := by
  have K := hid ((Kp.refl Nb w).alloc (.cells #[.int .i64 n, .int .i64 d] 25))
  by_cases h1 : 0 ≤ n
  · by_cases h2 : n ≤ 7
    · by_cases h3 : 1 ≤ d
      · obtain ⟨b, hb⟩ : ∃ b, decide (d ≤ 1099511627776) = b := ⟨_, rfl⟩
        have HG : Hid (goodB n d = b) := hid (by unfold goodB; rw [← hb]; simp [h1, h2, h3])
        go_enter Tryz.func7, Tryz.ntmps7
        go_wp2
        go_ret
        exact ⟨by rw [HG.out, ← hb]; rfl, K.out⟩
      · have HG : Hid (goodB n d = false) := hid (by unfold goodB; simp [h3])
        go_enter Tryz.func7, Tryz.ntmps7
        go_wp2
        go_ret
        exact ⟨by rw [HG.out]; rfl, K.out⟩
    · have HG : Hid (goodB n d = false) := hid (by unfold goodB; simp [h2])
      go_enter Tryz.func7, Tryz.ntmps7
      go_wp2
      go_ret
      exact ⟨by rw [HG.out]; rfl, K.out⟩
  · have HG : Hid (goodB n d = false) := hid (by unfold goodB; simp [h1])
    go_enter Tryz.func7, Tryz.ntmps7
    go_wp2
    go_ret
    exact ⟨by rw [HG.out]; rfl, K.out⟩

set_option maxHeartbeats 400000 in
theorem goodrun_any (q : RunQ) (w : World) : Calls Tryz.prog 39 #[runV q] w fun e w' => e = .returned (.bool (goodR q)) ∧ Kp Nb w w' := by
  obtain ⟨n, f, t⟩ := q
  have K := hid ((Kp.refl Nb w).alloc (.cells #[.int .i64 n, .int .i64 f, .int .i64 t] 61))
  obtain ⟨W, hW⟩ : ∃ W, W = w.alloc (.cells #[.int .i64 n, .int .i64 f, .int .i64 t] 61) := ⟨_, rfl⟩
  obtain ⟨N, hN⟩ : ∃ N, w.heap.size = N := ⟨_, rfl⟩
  have HB : Hid (Blk W N 61 [.int .i64 n, .int .i64 f, .int .i64 t]) := hid (by rw [hW, ← hN]; exact Blk.new w _ _)
  rw [← hW] at K
  obtain ⟨b1, hb1⟩ : ∃ b, goodB n f = b := ⟨_, rfl⟩
  obtain ⟨b2, hb2⟩ : ∃ b, goodB n t = b := ⟨_, rfl⟩
  have HB1 := hid hb1
  have HB2 := hid hb2
  go_enter Tryz.func39, Tryz.ntmps39
  go_upto_region 1 with fail
  rw [← hW]
  clear hW hN hb1 hb2
  have c0 : W.cell? ⟨N, 0, none⟩ = some (.int .i64 n) := HB.out.cell 0
  have c1 : W.cell? ⟨N, 1, none⟩ = some (.int .i64 f) := HB.out.cell 1
  have c2 : W.cell? ⟨N, 2, none⟩ = some (.int .i64 t) := HB.out.cell 2
  go_wp2_with fail
  refine (good_any n f W).mono ?_
  rintro r w1 ⟨rfl, k1⟩
  rw [HB1.out]
  clear c0 c1 c2
  have HB' := hid (HB.out.kept k1 (fun h => h))
  have K1 := hid (K.out.trans k1 (fun _ _ h => h))
  have c0 : w1.cell? ⟨N, 0, none⟩ = some (.int .i64 n) := HB'.out.cell 0
  have c1 : w1.cell? ⟨N, 1, none⟩ = some (.int .i64 f) := HB'.out.cell 1
  have c2 : w1.cell? ⟨N, 2, none⟩ = some (.int .i64 t) := HB'.out.cell 2
  clear k1
  cases b1 with
  | false =>
    have HG : Hid (goodR (n, f, t) = false) := hid (Bool.eq_false_iff.2 fun h => by
      have h := goodR_of.1 h
      dsimp only at h
      have h2 := HB1.out
      rw [goodB_of.2 (by omega)] at h2
      cases h2)
    go_wp2
    go_ret
    exact ⟨by rw [HG.out]; rfl, K1.out⟩
  | true =>
    have h1 := goodB_of.1 HB1.out
    go_wp2_with fail
    refine (good_any n t w1).mono ?_
    rintro r w2 ⟨rfl, k2⟩
    rw [HB2.out]
    clear c0 c1 c2
    have HB3 := hid (HB'.out.kept k2 (fun h => h))
    have K2 := hid (K1.out.trans k2 (fun _ _ h => h))
    have c0 : w2.cell? ⟨N, 0, none⟩ = some (.int .i64 n) := HB3.out.cell 0
    have c1 : w2.cell? ⟨N, 1, none⟩ = some (.int .i64 f) := HB3.out.cell 1
    have c2 : w2.cell? ⟨N, 2, none⟩ = some (.int .i64 t) := HB3.out.cell 2
    clear k2
    cases b2 with
    | false =>
      have HG : Hid (goodR (n, f, t) = false) := hid (Bool.eq_false_iff.2 fun h => by
        have h := goodR_of.1 h
        dsimp only at h
        have h2 := HB2.out
        rw [goodB_of.2 (by omega)] at h2
        cases h2)
      go_wp2
      go_ret
      exact ⟨by rw [HG.out]; rfl, K2.out⟩
    | true =>
      have h2 := goodB_of.1 HB2.out
      obtain ⟨b, hb⟩ : ∃ b, decide (f ≤ t) = b := ⟨_, rfl⟩
      have HG : Hid (goodR (n, f, t) = b) := hid (by
        unfold goodR
        rw [← hb]
        dsimp only
        apply decide_eq_decide.2
        constructor
        · intro h; omega
        · intro h; omega)
      go_wp2
      go_ret
      exact ⟨by rw [HG.out, ← hb]; rfl, K2.out⟩

end Go.Proofs.YtbbfibgijackhaaGreatDoor
