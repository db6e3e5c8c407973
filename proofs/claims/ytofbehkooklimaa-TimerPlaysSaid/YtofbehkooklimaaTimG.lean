/-
  Layer 23: the walk of first, what must be answered ahead of everything else. No condition.
-/
import Derived.Test.YtofbehkooklimaaTimF
import Derived.Test.YtofbehkooklimaaTimC
namespace Go.Proofs.Ytofbehkooklimaa
open Go.RowKit

def tmA : Tm := ⟨5, 1, true, 15, 0⟩
def tmB : Tm := ⟨5, 1, true, 25, 1⟩
def tmC : Tm := ⟨5, 1, false, 25, 1⟩
theorem tmA_ok : tmA.Ok := by constructor <;> decide
theorem tmB_ok : tmB.Ok := by constructor <;> decide

theorem IntRow.pos {w : World} {v : Value} {zs : List Int} (h : IntRow w v zs) (hl : 0 < zs.length) : ∃ g c, v = .slice (Option.some ⟨g, 0, Option.none⟩) zs.length c ∧ ∀ i, i < zs.length → w.cell? ⟨g, i, Option.none⟩ = Option.some (.int .i64 (zs[i]?.getD 0)) := by
  rcases h with ⟨rfl, _⟩ | ⟨g, cap, rfl, _, _, hcell⟩
  · simp at hl
  · exact ⟨g, cap, rfl, hcell⟩

theorem ft_new (w : World) : Calls Try.prog 23 #[.int .i64 5, .int .i64 1] w fun r w' => r = .returned (.tuple #[.pointer (some ⟨w.heap.size, 0, none⟩), .int .i64 0]) ∧ TimAt w' w.heap.size (Tm.new 5 1) ∧ Kp Nb w w' :=
  (tnew_any 5 1 w).mono fun _ _ h => by
    rcases h with ⟨_, hr, hw⟩ | ⟨h, _⟩
    · subst hw
      exact ⟨hr, Blk.new w _ _, (Kp.refl Nb w).alloc _⟩
    · exact absurd h (by decide)
theorem ft_no (w : World) : Calls Try.prog 23 #[.int .i64 0, .int .i64 1] w fun r w' => r = .returned (.tuple #[.pointer none, .int .i64 2]) ∧ w = w' :=
  (tnew_any 0 1 w).mono fun _ _ h => by
    rcases h with ⟨h, _⟩ | ⟨_, hr, hw⟩
    · exact absurd h (by decide)
    · exact ⟨hr, hw.symm⟩
theorem ft_start (B : Nat) (w : World) (h : TimAt w B (Tm.new 5 1)) : Calls Try.prog 25 #[.pointer (some ⟨B, 0, none⟩), .int .i64 10] w fun r w' => r = .returned (.tuple #[]) ∧ TimAt w' B tmA ∧ Kp (Jb B) w w' := by
  have := tstart_any B _ 10 w h (Tm.new_ok (by decide))
  rw [show (Tm.new 5 1).start 10 = tmA from by kernel_rfl] at this
  exact this
theorem ft_due (B : Nat) (w : World) (h : TimAt w B tmA) : Calls Try.prog 27 #[.pointer (some ⟨B, 0, none⟩)] w fun r w' => r = .returned (.tuple #[.int .i64 15, .bool true]) ∧ w = w' := tdue_any B tmA w h
theorem ft_due2 (B : Nat) (w : World) (h : TimAt w B tmC) : Calls Try.prog 27 #[.pointer (some ⟨B, 0, none⟩)] w fun r w' => r = .returned (.tuple #[.int .i64 0, .bool false]) ∧ w = w' := tdue_any B tmC w h
theorem ft_tick1 (B : Nat) (w : World) (h : TimAt w B tmA) : Calls Try.prog 28 #[.pointer (some ⟨B, 0, none⟩), .int .i64 14] w fun r w' => r = .returned (.int .i64 0) ∧ TimAt w' B tmA ∧ Kp (Jb B) w w' := by
  have := ttick_any B tmA 14 w h tmA_ok
  rw [show tmA.says 14 = 0 from by kernel_rfl, show tmA.next 14 = tmA from by kernel_rfl] at this
  exact this
theorem ft_tick2 (B : Nat) (w : World) (h : TimAt w B tmA) : Calls Try.prog 28 #[.pointer (some ⟨B, 0, none⟩), .int .i64 15] w fun r w' => r = .returned (.int .i64 1) ∧ TimAt w' B tmB ∧ Kp (Jb B) w w' := by
  have := ttick_any B tmA 15 w h tmA_ok
  rw [show tmA.says 15 = 1 from by kernel_rfl, show tmA.next 15 = tmB from by kernel_rfl] at this
  exact this
theorem ft_tick3 (B : Nat) (w : World) (h : TimAt w B tmB) : Calls Try.prog 28 #[.pointer (some ⟨B, 0, none⟩), .int .i64 25] w fun r w' => r = .returned (.int .i64 2) ∧ TimAt w' B tmC ∧ Kp (Jb B) w w' := by
  have := ttick_any B tmB 25 w h tmB_ok
  rw [show tmB.says 25 = 2 from by kernel_rfl, show tmB.next 25 = tmC from by kernel_rfl] at this
  exact this
theorem ft_waits (w : World) : Calls Try.prog 32 #[.int .i64 5, .int .i64 4, .int .i64 9] w fun e w' => (∃ v1 v2, e = .returned (.tuple #[v1, v2]) ∧ IntRow w' v1 [0, 1, 2, 3, 4] ∧ IntRow w' v2 [5, 10, 20, 40, 40]) ∧ Kp Nb w w' := by
  have := twaits_any 5 4 9 w
  rw [show wIs 5 4 9 = [0, 1, 2, 3, 4] from by kernel_rfl, show wWs 5 4 9 = [5, 10, 20, 40, 40] from by kernel_rfl] at this
  exact this
theorem ft_long (w : World) : Calls Try.prog 33 #[.int .i64 5, .int .i64 4] w fun r w' => r = .returned (.int .i64 115) ∧ Kp Nb w w' := by
  have := long_any 5 4 w
  rw [show longZ 5 4 = 115 from by kernel_rfl] at this
  exact this

set_option maxRecDepth 100000 in
set_option maxHeartbeats 1000000 in
theorem first23_any (w : World) : Calls Try.prog 22 #[] w fun e w' => e = .returned (.bool true) ∧ Kp Nb w w' := by
  go_enter Try.func22, Try.ntmps22
  go_wp2_with fail
  refine (ft_new _).mono ?_
  rintro e w1 ⟨rfl, h1, k1⟩
  obtain ⟨B, hB⟩ : ∃ B, B = w.heap.size := ⟨_, rfl⟩
  rw [← hB] at h1 ⊢
  have HB := hid hB
  have H1 := hid h1
  have K1 := hid k1
  clear h1 k1 hB
  go_wp2_with fail
  refine (ft_no _).mono ?_
  rintro e w' ⟨rfl, rfl⟩
  go_wp2_with fail
  refine (ft_start B _ H1.out).mono ?_
  rintro e w2 ⟨rfl, h2, k2⟩
  have H2 := hid h2
  have K2 := hid (K1.out.trans k2 (fun i hi h => by have := HB.out; unfold Jb at h; omega))
  clear h2 k2
  go_wp2_with fail
  refine (ft_due B _ H2.out).mono ?_
  rintro e w' ⟨rfl, rfl⟩
  go_wp2_with fail
  refine (ft_tick1 B _ H2.out).mono ?_
  rintro e w3 ⟨rfl, h3, k3⟩
  have H3 := hid h3
  have K3 := hid (K2.out.trans k3 (fun i hi h => by have := HB.out; unfold Jb at h; omega))
  clear h3 k3
  go_wp2_with fail
  refine (ft_tick2 B _ H3.out).mono ?_
  rintro e w4 ⟨rfl, h4, k4⟩
  have H4 := hid h4
  have K4 := hid (K3.out.trans k4 (fun i hi h => by have := HB.out; unfold Jb at h; omega))
  clear h4 k4
  go_wp2_with fail
  refine (ft_tick3 B _ H4.out).mono ?_
  rintro e w5 ⟨rfl, h5, k5⟩
  have H5 := hid h5
  have K5 := hid (K4.out.trans k5 (fun i hi h => by have := HB.out; unfold Jb at h; omega))
  clear h5 k5
  go_wp2_with fail
  refine (ft_due2 B _ H5.out).mono ?_
  rintro e w' ⟨rfl, rfl⟩
  go_wp2_with fail
  refine (ft_waits _).mono ?_
  rintro e w6 ⟨⟨v1, v2, rfl, r1, r2⟩, k6⟩
  obtain ⟨g1, d1, rfl, c1⟩ := r1.pos (by decide)
  obtain ⟨g2, d2, rfl, c2⟩ := r2.pos (by decide)
  have e1 : w6.cell? ⟨g2, 3, none⟩ = some (.int .i64 40) := c2 3 (by decide)
  have e2 : w6.cell? ⟨g2, 4, none⟩ = some (.int .i64 40) := c2 4 (by decide)
  have H6 := hid (Blk.kept H5.out k6 (fun h => h))
  have K6 := hid (K5.out.trans k6 (fun _ _ h => h))
  have CF : Hid (Calls Try.prog 29 #[.pointer (some ⟨B, 0, none⟩)] w6 fun r w' => r = .returned (.int .i64 1) ∧ w6 = w') := tfired_any B tmC w6 H6.out
  clear k6 r1 r2 c1 c2
  go_wp2_with (first
    | (go_at_call 29; refine CF.out.mono ?_; rintro e w' ⟨rfl, rfl⟩)
    | (go_at_call 33; refine (ft_long _).mono ?_; rintro e w7 ⟨rfl, k7⟩; have K7 := hid (K6.out.trans k7 (fun _ _ h => h)); clear k7))
  go_ret
  exact ⟨rfl, K7.out⟩

end Go.Proofs.Ytofbehkooklimaa
