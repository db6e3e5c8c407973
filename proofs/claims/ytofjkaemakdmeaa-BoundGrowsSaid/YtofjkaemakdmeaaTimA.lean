/-
  Layer 23: walks of fits, held, New, Start, Stop, Due, Fired, and of the reference's Fits, Held, Wait. Condition: what an int is.
-/
import Derived.WalkKit
import Derived.Test.YtofjkaemakdmeaaProg
import Derived.Test.YtofjkaemakdmeaaKp
import Derived.IntWalk
import Derived.BigQuiet
import Derived.Deep.QuietTactic
import Derived.Deep.RegionWith
namespace Go.Proofs.Ytofjkaemakdmeaa
open Go.RowKit

theorem tret_int {k : IntKind} {a b : Int} (h : a = b) : Ending.returned (.int k a) = .returned (.int k b) := by rw [h]
theorem tret_bool {a b : Bool} (h : a = b) : Ending.returned (.bool a) = .returned (.bool b) := by rw [h]

def tfitsB (e t : Int) : Bool := decide (1 ≤ e ∧ e ≤ 1000 ∧ 0 ≤ t ∧ t ≤ 10)
theorem tfitsB_spec {e t : Int} (h : tfitsB e t = true) : 1 ≤ e ∧ e ≤ 1000 ∧ 0 ≤ t ∧ t ≤ 10 := by unfold tfitsB at h; exact of_decide_eq_true h
theorem tfitsB_t {e t : Int} (h : 1 ≤ e ∧ e ≤ 1000 ∧ 0 ≤ t ∧ t ≤ 10) : tfitsB e t = true := by unfold tfitsB; exact decide_eq_true h
theorem tfitsB_f {e t : Int} (h : ¬ (1 ≤ e ∧ e ≤ 1000 ∧ 0 ≤ t ∧ t ≤ 10)) : tfitsB e t = false := by unfold tfitsB; exact decide_eq_false h
def heldZ (n : Int) : Int := min (max n 0) 1152921504606846976
theorem heldZ_le (n : Int) : 0 ≤ heldZ n ∧ heldZ n ≤ 1152921504606846976 := by unfold heldZ; omega
def timesZ (k : Nat) : Int := if k = 0 then 1 else if k = 1 then 2 else if k = 2 then 4 else 8
theorem timesZ_le (k : Nat) : 1 ≤ timesZ k ∧ timesZ k ≤ 8 := by
  unfold timesZ
  split
  · decide
  · split
    · decide
    · split <;> decide
theorem timesZ_succ (k : Nat) : timesZ (k + 1) = min (2 * timesZ k) 8 := by
  unfold timesZ
  rcases Nat.lt_or_ge k 3 with h | h
  · obtain rfl | rfl | rfl : k = 0 ∨ k = 1 ∨ k = 2 := by omega
    all_goals rfl
  · rw [if_neg (by omega), if_neg (by omega), if_neg (by omega), if_neg (by omega), if_neg (by omega), if_neg (by omega)]; rfl

set_option maxHeartbeats 400000 in
theorem tfits_any (e t : Int) (w : World) : Calls Try.prog 74 #[.int .i64 e, .int .i64 t] w fun r w' => r = .returned (.bool (tfitsB e t)) ∧ w = w' := by
  go_enter Try.func74, Try.ntmps74
  go_wp2
  all_goals
    go_ret
    refine ⟨tret_bool ?_, rfl⟩
    first
      | exact (tfitsB_t (by omega)).symm
      | exact (tfitsB_f (by omega)).symm
      | (unfold tfitsB; rw [decide_eq_decide]; omega)

/-- A timer, and the reference's. -/
structure Tm where
  every : Int
  tries : Int
  runs : Bool
  due : Int
  fired : Int
def TimAt (w : World) (B : Nat) (t : Tm) : Prop := Blk w B 109 [.int .i64 t.every, .int .i64 t.tries, .bool t.runs, .int .i64 t.due, .int .i64 t.fired]
structure Tm.Ok (t : Tm) : Prop where
  e1 : 1 ≤ t.every
  e2 : t.every ≤ 1000
  t1 : 0 ≤ t.tries
  t2 : t.tries ≤ 10
  f1 : 0 ≤ t.fired
  f2 : t.fired ≤ t.tries
def Tm.start (t : Tm) (now : Int) : Tm := { t with runs := true, fired := 0, due := heldZ now + t.every }
def Tm.stop (t : Tm) : Tm := { t with runs := false }
theorem Tm.Ok.start {t : Tm} (h : t.Ok) (now : Int) : (t.start now).Ok := ⟨h.e1, h.e2, h.t1, h.t2, Int.le_refl _, h.t1⟩
theorem Tm.Ok.stop {t : Tm} (h : t.Ok) : t.stop.Ok := ⟨h.e1, h.e2, h.t1, h.t2, h.f1, h.f2⟩
def Tm.new (e t : Int) : Tm := ⟨e, t, false, 0, 0⟩
theorem Tm.new_ok {e t : Int} (h : tfitsB e t = true) : (Tm.new e t).Ok := by
  obtain ⟨a, b, c, d⟩ := tfitsB_spec h
  exact ⟨a, b, c, d, Int.le_refl _, c⟩
/-- What a tick answers, and what it leaves. -/
def Tm.says (t : Tm) (now : Int) : Int := if t.runs = false ∨ heldZ now < t.due then 0 else if t.tries ≤ t.fired then 2 else 1
def Tm.next (t : Tm) (now : Int) : Tm := if t.runs = false ∨ heldZ now < t.due then t else if t.tries ≤ t.fired then t.stop else { t with fired := t.fired + 1, due := heldZ now + t.every * timesZ (t.fired + 1).toNat }
theorem Tm.Ok.next {t : Tm} (h : t.Ok) (now : Int) : (t.next now).Ok := by
  unfold Tm.next
  split
  · exact h
  · split
    · exact h.stop
    · exact ⟨h.e1, h.e2, h.t1, h.t2, by have := h.f1; show 0 ≤ t.fired + 1; omega, by show t.fired + 1 ≤ t.tries; omega⟩

set_option maxHeartbeats 400000 in
theorem tnew_any (e t : Int) (w : World) : Calls Try.prog 57 #[.int .i64 e, .int .i64 t] w fun r w' =>
    (tfitsB e t = true ∧ r = .returned (.tuple #[.pointer (some ⟨w.heap.size, 0, none⟩), .int .i64 0]) ∧ w' = w.alloc (.cells #[.int .i64 e, .int .i64 t, .bool false, .int .i64 0, .int .i64 0] 109)) ∨ (tfitsB e t = false ∧ r = .returned (.tuple #[.pointer none, .int .i64 2]) ∧ w' = w) := by
  have CF : Hid (∀ w, Calls Try.prog 74 #[.int .i64 e, .int .i64 t] w fun r w' => r = .returned (.bool (tfitsB e t)) ∧ w = w') := fun w => tfits_any e t w
  cases hf : tfitsB e t with
  | false =>
    rw [hf] at CF
    go_enter Try.func57, Try.ntmps57
    go_wp2_with (go_at_call 74; refine (CF.out _).mono ?_; rintro e w' ⟨rfl, rfl⟩)
    go_ret2
    exact .inr ⟨trivial, rfl, rfl⟩
  | true =>
    rw [hf] at CF
    go_enter Try.func57, Try.ntmps57
    go_wp2_with (go_at_call 74; refine (CF.out _).mono ?_; rintro e w' ⟨rfl, rfl⟩)
    go_ret2
    exact .inl ⟨trivial, rfl, rfl⟩


end Go.Proofs.Ytofjkaemakdmeaa
