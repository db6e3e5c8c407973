/-
  Layer 14: walks of Cells, Next, Fits, and of the reference's. Nothing is assumed but what an int is.
-/
import Derived.WalkKit
import Derived.Test.YtofbehkooklimaaProg
import Derived.Test.YtofbehkooklimaaKp
import Derived.IntWalk
import Derived.BigQuiet
import Derived.Deep.QuietTactic
namespace Go.Proofs.Ytofbehkooklimaa
open Go.RowKit

def cellsZ (g : Int) : Int := 3 * min (min (max g 0) 4096 / 2 + min (max g 0) 4096 / 8 + 4) 512
def fitsB (s : Int) : Bool := decide (3 ≤ s ∧ s ≤ 1536 ∧ s % 3 = 0)
def nextZ (s : Int) : Int := if fitsB s = true then min (2 * s) 1536 else 0
theorem fitsB_t {s : Int} (h1 : 3 ≤ s) (h2 : s ≤ 1536) (h3 : s % 3 = 0) : fitsB s = true := by unfold fitsB; rw [decide_eq_true_iff]; exact ⟨h1, h2, h3⟩
theorem fitsB_f {s : Int} (h : ¬ (3 ≤ s ∧ s ≤ 1536 ∧ s % 3 = 0)) : fitsB s = false := by unfold fitsB; rw [decide_eq_false_iff_not]; exact h
theorem fitsB_spec {s : Int} (h : fitsB s = true) : 3 ≤ s ∧ s ≤ 1536 ∧ s % 3 = 0 := by unfold fitsB at h; exact of_decide_eq_true h
theorem fitsB_not {s : Int} (h : fitsB s = false) : ¬ (3 ≤ s ∧ s ≤ 1536 ∧ s % 3 = 0) := by unfold fitsB at h; exact of_decide_eq_false h
theorem ret_int {k : IntKind} {a b : Int} (h : a = b) : Ending.returned (.int k a) = .returned (.int k b) := by rw [h]
theorem ret_bool {a b : Bool} (h : a = b) : Ending.returned (.bool a) = .returned (.bool b) := by rw [h]

set_option maxHeartbeats 400000 in
theorem cells_any (g : Int) (w : World) : Calls Try.prog 14 #[.int .i64 g] w fun e w' => e = .returned (.int .i64 (cellsZ g)) ∧ w = w' := by
  rcases Int.lt_or_le g 0 with h | h
  · go_enter Try.func14, Try.ntmps14
    go_wp2
    all_goals (go_ret; exact ⟨ret_int (by unfold cellsZ; omega), rfl⟩)
  · rcases Int.lt_or_le 4096 g with h2 | h2
    · go_enter Try.func14, Try.ntmps14
      go_wp2
      all_goals (go_ret; exact ⟨ret_int (by unfold cellsZ; omega), rfl⟩)
    · rcases Int.lt_or_le 512 (g / 2 + g / 8 + 4) with h3 | h3
      all_goals
        go_enter Try.func14, Try.ntmps14
        go_wp2
        all_goals (go_ret; exact ⟨ret_int (by unfold cellsZ; omega), rfl⟩)
set_option maxHeartbeats 400000 in
theorem fits_any (s : Int) (w : World) : Calls Try.prog 43 #[.int .i64 s] w fun e w' => e = .returned (.bool (fitsB s)) ∧ w = w' := by
  by_cases h1 : 3 ≤ s
  · by_cases h2 : s ≤ 1536
    · by_cases h3 : s % 3 = 0
      · go_enter Try.func43, Try.ntmps43
        go_wp2
        all_goals (go_ret; exact ⟨ret_bool (fitsB_t h1 h2 h3).symm, rfl⟩)
      · have h4 : (s % 3 == 0) = false := by rw [beq_eq_false_iff_ne]; exact h3
        go_enter Try.func43, Try.ntmps43
        go_wp2
        all_goals (go_ret; exact ⟨ret_bool (fitsB_f (fun h => h3 h.2.2)).symm, rfl⟩)
    · go_enter Try.func43, Try.ntmps43
      go_wp2
      all_goals (go_ret; exact ⟨ret_bool (fitsB_f (by omega)).symm, rfl⟩)
  · go_enter Try.func43, Try.ntmps43
    go_wp2
    all_goals (go_ret; exact ⟨ret_bool (fitsB_f (by omega)).symm, rfl⟩)
set_option maxHeartbeats 400000 in
theorem rfits_any (s : Int) (w : World) : Calls Try.prog 18 #[.int .i64 s] w fun e w' => e = .returned (.bool (fitsB s)) ∧ w = w' := by
  by_cases h1 : 2 < s
  · by_cases h2 : s < 1537
    · by_cases h3 : s % 3 = 0
      · go_enter Try.func18, Try.ntmps18
        go_wp2
        all_goals (go_ret; exact ⟨ret_bool (fitsB_t (by omega) (by omega) h3).symm, rfl⟩)
      · have h4 : (s % 3 == 0) = false := by rw [beq_eq_false_iff_ne]; exact h3
        go_enter Try.func18, Try.ntmps18
        go_wp2
        all_goals (go_ret; exact ⟨ret_bool (fitsB_f (fun h => h3 h.2.2)).symm, rfl⟩)
    · go_enter Try.func18, Try.ntmps18
      go_wp2
      all_goals (go_ret; exact ⟨ret_bool (fitsB_f (by omega)).symm, rfl⟩)
  · go_enter Try.func18, Try.ntmps18
    go_wp2
    all_goals (go_ret; exact ⟨ret_bool (fitsB_f (by omega)).symm, rfl⟩)
set_option maxHeartbeats 400000 in
theorem rcells_any (g : Int) (w : World) : Calls Try.prog 13 #[.int .i64 g] w fun e w' => e = .returned (.int .i64 (cellsZ g)) ∧ w = w' := by
  go_enter Try.func13, Try.ntmps13
  go_wp2
  all_goals (go_ret; exact ⟨ret_int (by unfold cellsZ; omega), rfl⟩)

set_option maxHeartbeats 400000 in
theorem next_any (s : Int) (w : World) : Calls Try.prog 15 #[.int .i64 s] w fun e w' => e = .returned (.int .i64 (nextZ s)) ∧ w = w' := by
  cases hf : fitsB s with
  | false =>
    have HN := hid (show nextZ s = 0 from by unfold nextZ; rw [hf]; rfl)
    have CF : Hid (∀ w, Calls Try.prog 43 #[.int .i64 s] w fun e w' => e = .returned (.bool false) ∧ w = w') := fun w => by rw [← hf]; exact fits_any s w
    clear hf
    go_enter Try.func15, Try.ntmps15
    go_wp2_with (go_at_call 43; refine (CF.out _).mono ?_; rintro e w' ⟨rfl, rfl⟩)
    go_ret
    exact ⟨ret_int HN.out.symm, rfl⟩
  | true =>
    obtain ⟨h1, h2, h3⟩ := fitsB_spec hf
    have HN := hid (show nextZ s = min (2 * s) 1536 from by unfold nextZ; rw [hf]; rfl)
    have CF : Hid (∀ w, Calls Try.prog 43 #[.int .i64 s] w fun e w' => e = .returned (.bool true) ∧ w = w') := fun w => by rw [← hf]; exact fits_any s w
    clear hf h3
    rcases Int.lt_or_le 1536 (2 * s) with h4 | h4
    all_goals
      go_enter Try.func15, Try.ntmps15
      go_wp2_with (go_at_call 43; refine (CF.out _).mono ?_; rintro e w' ⟨rfl, rfl⟩)
      go_ret
      exact ⟨ret_int (by rw [HN.out]; omega), rfl⟩
set_option maxHeartbeats 400000 in
theorem rnext_any (s : Int) (w : World) : Calls Try.prog 16 #[.int .i64 s] w fun e w' => e = .returned (.int .i64 (nextZ s)) ∧ w = w' := by
  cases hf : fitsB s with
  | false =>
    have HN := hid (show nextZ s = 0 from by unfold nextZ; rw [hf]; rfl)
    have CF : Hid (∀ w, Calls Try.prog 18 #[.int .i64 s] w fun e w' => e = .returned (.bool false) ∧ w = w') := fun w => by rw [← hf]; exact rfits_any s w
    clear hf
    go_enter Try.func16, Try.ntmps16
    go_wp2_with (go_at_call 18; refine (CF.out _).mono ?_; rintro e w' ⟨rfl, rfl⟩)
    go_ret
    exact ⟨ret_int HN.out.symm, rfl⟩
  | true =>
    obtain ⟨h1, h2, h3⟩ := fitsB_spec hf
    have HN := hid (show nextZ s = min (2 * s) 1536 from by unfold nextZ; rw [hf]; rfl)
    have CF : Hid (∀ w, Calls Try.prog 18 #[.int .i64 s] w fun e w' => e = .returned (.bool true) ∧ w = w') := fun w => by rw [← hf]; exact rfits_any s w
    clear hf
    go_enter Try.func16, Try.ntmps16
    go_wp2_with (go_at_call 18; refine (CF.out _).mono ?_; rintro e w' ⟨rfl, rfl⟩)
    all_goals
      go_ret
      exact ⟨ret_int (by rw [HN.out]; omega), rfl⟩

end Go.Proofs.Ytofbehkooklimaa
