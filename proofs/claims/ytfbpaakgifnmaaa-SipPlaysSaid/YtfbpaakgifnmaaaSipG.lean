/-
  Layer 1: Clone, and what a nil sum answers. No condition.
-/
import Derived.Test.YtfbpaakgifnmaaaSipF
namespace Go.Proofs.Ytfbpaakgifnmaaa
open Go.RowKit

set_option maxHeartbeats 400000 in
theorem sipclone_any (B : Nat) (s : Sp) (w : World) (hs : SipAt w B s) :
    Calls Try.prog 23 #[.pointer (some ⟨B, 0, none⟩)] w fun e w' => e = .returned (.pointer (some ⟨w.heap.size, 0, none⟩)) ∧ SipAt w' w.heap.size s ∧ Kp Nb w w' := by
  obtain ⟨c0, c1, c2, c3, c4, c5, hf⟩ := hs.facts
  have HE := hid (Blk.new w 95 s.cells)
  have HK := hid ((Kp.refl Nb w).alloc (.cells s.cells.toArray 95))
  go_enter Try.func23, Try.ntmps23
  go_wp2
  go_ret
  exact ⟨rfl, HE.out, HK.out⟩
set_option maxHeartbeats 400000 in
theorem sipclone_nil (w : World) : Calls Try.prog 23 #[.pointer none] w fun e w' => e = .returned (.pointer none) ∧ w = w' := by
  go_enter Try.func23, Try.ntmps23
  go_wp2
  go_ret
  exact ⟨rfl, rfl⟩
set_option maxHeartbeats 400000 in
theorem sipsum_nil (w : World) : Calls Try.prog 24 #[.pointer none] w fun e w' => e = .returned (.int .u64 0) ∧ w = w' := by
  go_enter Try.func24, Try.ntmps24
  go_wp2
  go_ret
  exact ⟨rfl, rfl⟩
set_option maxHeartbeats 400000 in
theorem siplen_nil (w : World) : Calls Try.prog 25 #[.pointer none] w fun e w' => e = .returned (.int .i64 0) ∧ w = w' := by
  go_enter Try.func25, Try.ntmps25
  go_wp2
  go_ret
  exact ⟨rfl, rfl⟩
set_option maxHeartbeats 400000 in
theorem sipwrite_nil (v : Value) (w : World) : Calls Try.prog 22 #[.pointer none, v] w fun e w' => e = .returned (.tuple #[]) ∧ w = w' := by
  go_enter Try.func22, Try.ntmps22
  go_wp2
  all_goals
    refine bodyPost_ret (results_none rfl _ _ _) rfl ?_
    exact ⟨rfl, rfl⟩

end Go.Proofs.Ytfbpaakgifnmaaa
