/-
  Layer 23: walks of fits, held, New, Start, Stop, Due, Fired, and of the reference's Fits, Held, Wait. Condition: what an int is.
-/
import Derived.WalkKit
import Derived.Test.YtofbehkooklimaaProg
import Derived.Test.YtofbehkooklimaaKp
import Derived.IntWalk
import Derived.BigQuiet
import Derived.Deep.QuietTactic
import Derived.Deep.RegionWith
namespace Go.Proofs.Ytofbehkooklimaa
open Go.RowKit

theorem tret_int {k : IntKind} {a b : Int} (h : a = b) : Ending.returned (.int k a) = .returned (.int k b) := by rw [h]
theorem tret_bool {a b : Bool} (h : a = b) : Ending.returned (.bool a) = .returned (.bool b) := by rw [h]

def tfitsB (e t : Int) : Bool := decide (1 ≤ e ∧ e ≤ 1000 ∧ 0 ≤ t ∧ t ≤ 10)
theorem tfitsB_spec {e t : Int} (h : tfitsB e t = true) : 1 ≤ e ∧ e ≤ 1000 ∧ 0 ≤ t ∧ t ≤ 10 := by unfold tfitsB at h; exact of_decide_eq_true h
theorem tfitsB_t {e t : Int} (h : 1 ≤ e ∧ e ≤ 1000 ∧ 0 ≤ t ∧ t ≤ 10) : tfitsB e t = true := by unfold tfitsB; exact decide_eq_true h
theorem tfitsB_f {e t : Int} (h : ¬ (1 ≤ e ∧ e ≤ 1000 ∧ 0 ≤ t ∧ t ≤ 10)) : tfitsB e t = false := by unfold tfitsB; exact decide_eq_false h
def heldZ (n : Int) : Int := min (max n 0) 1152921504606846976
theorem heldZ_le (n : Int) : 0 ≤ heldZ n ∧ heldZ n ≤ 1152921504606846976 := by unfold heldZ; omega
def timesZ (k : Nat) : Int := if k = 0 then 1 else if k = 1 then 2 else if k = 2 then 4 else 8
theorem timesZ_le (k : Nat) : 1 ≤ timesZ k ∧ timesZ k ≤ 8 := by
  unfold timesZ
  split
  · decide
  · split
    · decide
    · split <;> decide
theorem timesZ_succ (k : Nat) : timesZ (k + 1) = min (2 * timesZ k) 8 := by
  unfold timesZ
  rcases Nat.lt_or_ge k 3 with h | h
  · obtain rfl | rfl | rfl : k = 0 ∨ k = 1 ∨ k = 2 := by omega
    all_goals rfl
  · rw [if_neg (by omega), if_neg (by omega), if_neg (by omega), if_neg (by omega), if_neg (by omega), if_neg (by omega)]; rfl

set_option maxHeartbeats 400000 in
theorem tfits_any (e t : Int) (w : World) : Calls Try.prog 44 #[.int .i64 e, .int .i64 t] w fun r w' => r = .returned (.bool (tfitsB e t)) ∧ w = w' := by
  go_enter Try.func44, Try.ntmps44
  go_wp2
  all_goals
    go_ret
    refine ⟨tret_bool ?_, rfl⟩
    first
      | exact (tfitsB_t (by omega)).symm
      | exact (tfitsB_f (by omega)).symm
      | (unfold tfitsB; rw [decide_eq_decide]; omega)
set_option maxHeartbeats 400000 in
theorem rtfits_any (e t : Int) (w : World) : Calls Try.prog 24 #[.int .i64 e, .int .i64 t] w fun r w' => r = .returned (.bool (tfitsB e t)) ∧ w = w' := by
  go_enter Try.func24, Try.ntmps24
  go_wp2
  all_goals
    go_ret
    refine ⟨tret_bool ?_, rfl⟩
    first
      | exact (tfitsB_t (by omega)).symm
      | exact (tfitsB_f (by omega)).symm
      | (unfold tfitsB; rw [decide_eq_decide]; omega)
set_option maxHeartbeats 400000 in
theorem held_any (n : Int) (w : World) : Calls Try.prog 45 #[.int .i64 n] w fun r w' => r = .returned (.int .i64 (heldZ n)) ∧ w = w' := by
  rcases Int.lt_or_le n 0 with h | h
  · go_enter Try.func45, Try.ntmps45
    go_wp2
    all_goals (go_ret; exact ⟨tret_int (by unfold heldZ; omega), rfl⟩)
  · rcases Int.lt_or_le 1152921504606846976 n with h2 | h2
    all_goals
      go_enter Try.func45, Try.ntmps45
      go_wp2
      all_goals (go_ret; exact ⟨tret_int (by unfold heldZ; omega), rfl⟩)
set_option maxHeartbeats 400000 in
theorem rheld_any (n : Int) (w : World) : Calls Try.prog 30 #[.int .i64 n] w fun r w' => r = .returned (.int .i64 (heldZ n)) ∧ w = w' := by
  go_enter Try.func30, Try.ntmps30
  go_wp2
  all_goals (go_ret; exact ⟨tret_int (by unfold heldZ; omega), rfl⟩)
set_option maxHeartbeats 400000 in
theorem rwait_any (e : Int) (k : Nat) (w : World) (h1 : 1 ≤ e) (h2 : e ≤ 1000) : Calls Try.prog 34 #[.int .i64 e, .int .i64 (k : Int)] w fun r w' => r = .returned (.int .i64 (e * timesZ k)) ∧ w = w' := by
  rcases (show k = 0 ∨ k = 1 ∨ k = 2 ∨ 3 ≤ k by omega) with rfl | rfl | rfl | h
  · go_enter Try.func34, Try.ntmps34
    go_wp2
    go_ret
    exact ⟨tret_int (by show e = e * 1; omega), rfl⟩
  · go_enter Try.func34, Try.ntmps34
    go_wp2
    go_ret
    exact ⟨tret_int (by show 2 * e = e * 2; omega), rfl⟩
  · go_enter Try.func34, Try.ntmps34
    go_wp2
    go_ret
    exact ⟨tret_int (by show 4 * e = e * 4; omega), rfl⟩
  · have e0 : ((k : Int) == 0) = false := by rw [beq_eq_false_iff_ne]; omega
    have e1 : ((k : Int) == 1) = false := by rw [beq_eq_false_iff_ne]; omega
    have e2 : ((k : Int) == 2) = false := by rw [beq_eq_false_iff_ne]; omega
    have e3 : timesZ k = 8 := by unfold timesZ; rw [if_neg (by omega), if_neg (by omega), if_neg (by omega)]
    have HE := hid e3
    clear e3
    go_enter Try.func34, Try.ntmps34
    go_wp2
    go_ret
    exact ⟨tret_int (by rw [HE.out]; omega), rfl⟩

/-- A timer, and the reference's. -/
structure Tm where
  every : Int
  tries : Int
  runs : Bool
  due : Int
  fired : Int
def TimAt (w : World) (B : Nat) (t : Tm) : Prop := Blk w B 64 [.int .i64 t.every, .int .i64 t.tries, .bool t.runs, .int .i64 t.due, .int .i64 t.fired]
def RtmAt (w : World) (B : Nat) (t : Tm) : Prop := Blk w B 44 [.int .i64 t.every, .int .i64 t.tries, .int .i64 t.fired, .int .i64 t.due, .bool t.runs]
structure Tm.Ok (t : Tm) : Prop where
  e1 : 1 ≤ t.every
  e2 : t.every ≤ 1000
  t1 : 0 ≤ t.tries
  t2 : t.tries ≤ 10
  f1 : 0 ≤ t.fired
  f2 : t.fired ≤ t.tries
def Tm.start (t : Tm) (now : Int) : Tm := { t with runs := true, fired := 0, due := heldZ now + t.every }
def Tm.stop (t : Tm) : Tm := { t with runs := false }
theorem Tm.Ok.start {t : Tm} (h : t.Ok) (now : Int) : (t.start now).Ok := ⟨h.e1, h.e2, h.t1, h.t2, Int.le_refl _, h.t1⟩
theorem Tm.Ok.stop {t : Tm} (h : t.Ok) : t.stop.Ok := ⟨h.e1, h.e2, h.t1, h.t2, h.f1, h.f2⟩
def Tm.new (e t : Int) : Tm := ⟨e, t, false, 0, 0⟩
theorem Tm.new_ok {e t : Int} (h : tfitsB e t = true) : (Tm.new e t).Ok := by
  obtain ⟨a, b, c, d⟩ := tfitsB_spec h
  exact ⟨a, b, c, d, Int.le_refl _, c⟩
/-- What a tick answers, and what it leaves. -/
def Tm.says (t : Tm) (now : Int) : Int := if t.runs = false ∨ heldZ now < t.due then 0 else if t.tries ≤ t.fired then 2 else 1
def Tm.next (t : Tm) (now : Int) : Tm := if t.runs = false ∨ heldZ now < t.due then t else if t.tries ≤ t.fired then t.stop else { t with fired := t.fired + 1, due := heldZ now + t.every * timesZ (t.fired + 1).toNat }
theorem Tm.Ok.next {t : Tm} (h : t.Ok) (now : Int) : (t.next now).Ok := by
  unfold Tm.next
  split
  · exact h
  · split
    · exact h.stop
    · exact ⟨h.e1, h.e2, h.t1, h.t2, by have := h.f1; show 0 ≤ t.fired + 1; omega, by show t.fired + 1 ≤ t.tries; omega⟩

set_option maxHeartbeats 400000 in
theorem tnew_any (e t : Int) (w : World) : Calls Try.prog 23 #[.int .i64 e, .int .i64 t] w fun r w' =>
    (tfitsB e t = true ∧ r = .returned (.tuple #[.pointer (some ⟨w.heap.size, 0, none⟩), .int .i64 0]) ∧ w' = w.alloc (.cells #[.int .i64 e, .int .i64 t, .bool false, .int .i64 0, .int .i64 0] 64)) ∨ (tfitsB e t = false ∧ r = .returned (.tuple #[.pointer none, .int .i64 2]) ∧ w' = w) := by
  have CF : Hid (∀ w, Calls Try.prog 44 #[.int .i64 e, .int .i64 t] w fun r w' => r = .returned (.bool (tfitsB e t)) ∧ w = w') := fun w => tfits_any e t w
  cases hf : tfitsB e t with
  | false =>
    rw [hf] at CF
    go_enter Try.func23, Try.ntmps23
    go_wp2_with (go_at_call 44; refine (CF.out _).mono ?_; rintro e w' ⟨rfl, rfl⟩)
    go_ret2
    exact .inr ⟨trivial, rfl, rfl⟩
  | true =>
    rw [hf] at CF
    go_enter Try.func23, Try.ntmps23
    go_wp2_with (go_at_call 44; refine (CF.out _).mono ?_; rintro e w' ⟨rfl, rfl⟩)
    go_ret2
    exact .inl ⟨trivial, rfl, rfl⟩

set_option maxHeartbeats 400000 in
theorem tstart_any (B : Nat) (t : Tm) (now : Int) (w : World) (h : TimAt w B t) (hk : t.Ok) : Calls Try.prog 25 #[.pointer (some ⟨B, 0, none⟩), .int .i64 now] w fun r w' => r = .returned (.tuple #[]) ∧ TimAt w' B (t.start now) ∧ Kp (Jb B) w w' := by
  have c0 := Blk.cell h 0
  have c2 := Blk.cell h 2
  have c3 := Blk.cell h 3
  have c4 := Blk.cell h 4
  have hf := Blk.frozen h
  simp only [List.getElem?_cons_zero, List.getElem?_cons_succ] at c0 c2 c3 c4
  have f2 := hf 2
  have f3 := hf 3
  have f4 := hf 4
  have hl := heldZ_le now
  have hk1 := hk.e1
  have hk2 := hk.e2
  have H := hid h
  obtain ⟨z, hz⟩ : ∃ z, z = heldZ now := ⟨_, rfl⟩
  have CH : Hid (∀ w, Calls Try.prog 45 #[.int .i64 now] w fun r w' => r = .returned (.int .i64 z) ∧ w = w') := fun w => by rw [hz]; exact held_any now w
  rw [← hz] at hl
  have HZ := hid hz
  clear hf h hz hk
  have H1 := hid (show TimAt (((w.setCell ⟨B, 2, none⟩ (.bool true)).setCell ⟨B, 4, none⟩ (.int .i64 0)).setCell ⟨B, 3, none⟩ (.int .i64 (z + t.every))) B (t.start now) from by rw [HZ.out]; exact ((Blk.set H.out 2 (.bool true)).set 4 (.int .i64 0)).set 3 _)
  have K1 := hid (((Kp.refl (Jb B) w).set 2 (.bool true)).set 4 (.int .i64 0) |>.set 3 (.int .i64 (z + t.every)))
  go_enter Try.func25, Try.ntmps25
  have hw : IntKind.i64.wrap (z + t.every) = z + t.every := IntWalk.i64_in _ (by omega)
  go_wp2
  go_region_with (go_at_call 45; refine (CH.out _).mono ?_; rintro e w' ⟨rfl, rfl⟩)
  all_goals
    go_end0
    exact ⟨rfl, H1.out, K1.out.drew⟩
theorem tstart_none (now : Int) (w : World) : Calls Try.prog 25 #[.pointer none, .int .i64 now] w fun r w' => r = .returned (.tuple #[]) ∧ w = w' := by
  go_enter Try.func25, Try.ntmps25
  go_wp2
  exact bodyPost_ret (results_none rfl _ _ _) rfl ⟨rfl, rfl⟩
theorem tstop_any (B : Nat) (t : Tm) (w : World) (h : TimAt w B t) : Calls Try.prog 26 #[.pointer (some ⟨B, 0, none⟩)] w fun r w' => r = .returned (.tuple #[]) ∧ TimAt w' B t.stop ∧ Kp (Jb B) w w' := by
  have c2 := Blk.cell h 2
  have f2 := Blk.frozen h 2
  simp only [List.getElem?_cons_zero, List.getElem?_cons_succ] at c2
  have H := hid h
  clear h
  have H1 := hid (show TimAt (w.setCell ⟨B, 2, none⟩ (.bool false)) B t.stop from Blk.set H.out 2 (.bool false))
  have K1 := hid ((Kp.refl (Jb B) w).set 2 (.bool false))
  go_enter Try.func26, Try.ntmps26
  go_wp2
  go_end0
  exact ⟨rfl, H1.out, K1.out⟩
theorem tstop_none (w : World) : Calls Try.prog 26 #[.pointer none] w fun r w' => r = .returned (.tuple #[]) ∧ w = w' := by
  go_enter Try.func26, Try.ntmps26
  go_wp2
  go_end0
  exact ⟨rfl, rfl⟩
theorem tdue_any (B : Nat) (t : Tm) (w : World) (h : TimAt w B t) : Calls Try.prog 27 #[.pointer (some ⟨B, 0, none⟩)] w fun r w' => r = .returned (.tuple #[.int .i64 (if t.runs = true then t.due else 0), .bool t.runs]) ∧ w = w' := by
  have c2 := Blk.cell h 2
  have c3 := Blk.cell h 3
  simp only [List.getElem?_cons_zero, List.getElem?_cons_succ] at c2 c3
  clear h
  cases hr : t.runs with
  | false =>
    rw [hr] at c2
    clear hr
    go_enter Try.func27, Try.ntmps27
    go_wp2
    go_ret2
    exact ⟨rfl, rfl⟩
  | true =>
    rw [hr] at c2
    clear hr
    go_enter Try.func27, Try.ntmps27
    go_wp2
    go_ret2
    exact ⟨rfl, rfl⟩
theorem tdue_none (w : World) : Calls Try.prog 27 #[.pointer none] w fun r w' => r = .returned (.tuple #[.int .i64 0, .bool false]) ∧ w = w' := by
  go_enter Try.func27, Try.ntmps27
  go_wp2
  go_ret2
  exact ⟨rfl, rfl⟩
theorem tfired_any (B : Nat) (t : Tm) (w : World) (h : TimAt w B t) : Calls Try.prog 29 #[.pointer (some ⟨B, 0, none⟩)] w fun r w' => r = .returned (.int .i64 t.fired) ∧ w = w' := by
  have c4 := Blk.cell h 4
  simp only [List.getElem?_cons_zero, List.getElem?_cons_succ] at c4
  clear h
  go_enter Try.func29, Try.ntmps29
  go_wp2
  go_ret
  exact ⟨rfl, rfl⟩
theorem tfired_none (w : World) : Calls Try.prog 29 #[.pointer none] w fun r w' => r = .returned (.int .i64 0) ∧ w = w' := by
  go_enter Try.func29, Try.ntmps29
  go_wp2
  go_ret
  exact ⟨rfl, rfl⟩

end Go.Proofs.Ytofbehkooklimaa
