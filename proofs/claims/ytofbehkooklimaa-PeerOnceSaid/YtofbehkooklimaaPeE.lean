/-
  Layer 29: the walk of first. No condition.
-/
import Derived.Test.YtofbehkooklimaaPeD
import Derived.Deep.CutBlock
import Derived.Deep.DeepCutAuto
namespace Go.Proofs.Ytofbehkooklimaa
open Go.RowKit

theorem IntRow.pos {w : World} {v : Value} {zs : List Int} (h : IntRow w v zs) (hl : 0 < zs.length) : ∃ g c, v = .slice (Option.some ⟨g, 0, Option.none⟩) zs.length c ∧ ∀ i, i < zs.length → w.cell? ⟨g, i, Option.none⟩ = Option.some (.int .i64 (zs[i]?.getD 0)) := by
  rcases h with ⟨rfl, _⟩ | ⟨g, cap, rfl, _, _, hcell⟩
  · simp at hl
  · exact ⟨g, cap, rfl, hcell⟩
theorem fp_round (w : World) : Calls Try.prog 36 #[.int .i64 3, .int .i64 99] w fun e w' => (∃ v1 v2, e = .returned (.tuple #[v1, v2]) ∧ IntRow w' v1 [0, 1, 2, 0, 1, 2] ∧ IntRow w' v2 [1, 2, 0, 2, 0, 1]) ∧ Kp Nb w w' := by
  have := pround_any 3 99 w
  rw [show pAs 3 99 = [0, 1, 2, 0, 1, 2] from by kernel_rfl, show pBs 3 99 = [1, 2, 0, 2, 0, 1] from by kernel_rfl] at this
  exact this
theorem fp_peer (w : World) : Calls Try.prog 37 #[.int .i64 3, .int .i64 2, .int .i64 0] w fun e w' => e = .returned (.tuple #[.int .i64 0, .bool true]) ∧ w = w' := by
  have := peer_any 3 2 0 w
  rw [show peerV 3 2 0 = 0 from by kernel_rfl, show peerB 3 2 0 = true from by kernel_rfl] at this
  exact this
theorem fp_turn (w : World) : Calls Try.prog 38 #[.int .i64 3, .int .i64 0, .int .i64 2] w fun e w' => e = .returned (.tuple #[.int .i64 1, .bool true]) ∧ w = w' := by
  have := turn_any 3 0 2 w
  rw [show turnV 3 0 2 = 1 from by kernel_rfl, show turnB 3 0 2 = true from by kernel_rfl] at this
  exact this
theorem fp_sess (w : World) : Calls Try.prog 40 #[.int .i64 3, .int .i64 2] w fun e w' => e = .returned (.int .i64 12) ∧ w = w' := by
  have := sessions_any 3 2 w
  rw [show sessZ 3 2 = 12 from by kernel_rfl] at this
  exact this
theorem fp_fits8 (w : World) : Calls Try.prog 39 #[.int .i64 8] w fun e w' => e = .returned (.bool true) ∧ w = w' := by
  have := pfits_any 8 w
  rw [show pfitsB 8 = true from by kernel_rfl] at this
  exact this
theorem fp_fits1 (w : World) : Calls Try.prog 39 #[.int .i64 1] w fun e w' => e = .returned (.bool false) ∧ w = w' := by
  have := pfits_any 1 w
  rw [show pfitsB 1 = false from by kernel_rfl] at this
  exact this

set_option maxRecDepth 100000 in
set_option maxHeartbeats 1000000 in
theorem first29_any (w : World) : Calls Try.prog 35 #[] w fun e w' => e = .returned (.bool true) ∧ Kp Nb w w' := by
  go_enter Try.func35, Try.ntmps35
  go_wp2_with fail
  refine (fp_round _).mono ?_
  rintro e w1 ⟨⟨v1, v2, rfl, r1, r2⟩, k1⟩
  obtain ⟨g1, d1, rfl, c1⟩ := r1.pos (by decide)
  obtain ⟨g2, d2, rfl, c2⟩ := r2.pos (by decide)
  have e1 : w1.cell? ⟨g1, 3, none⟩ = some (.int .i64 0) := c1 3 (by decide)
  have e2 : w1.cell? ⟨g2, 3, none⟩ = some (.int .i64 2) := c2 3 (by decide)
  have K1 := hid k1
  clear k1 r1 r2 c1 c2
  go_wp2_with (first
    | (go_at_call 37; refine (fp_peer _).mono ?_; rintro e w' ⟨rfl, rfl⟩)
    | (go_at_call 38; refine (fp_turn _).mono ?_; rintro e w' ⟨rfl, rfl⟩)
    | (go_at_call 40; refine (fp_sess _).mono ?_; rintro e w' ⟨rfl, rfl⟩)
    | (go_at_call 39; ((with_reducible refine (fp_fits8 _).mono ?_); rintro e w' ⟨rfl, rfl⟩))
    | (go_at_call 39; ((with_reducible refine (fp_fits1 _).mono ?_); rintro e w' ⟨rfl, rfl⟩)))
  go_ret
  exact ⟨rfl, K1.out⟩

end Go.Proofs.Ytofbehkooklimaa
