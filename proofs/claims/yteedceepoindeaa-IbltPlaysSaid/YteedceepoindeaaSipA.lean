/-
  Walks of layer 1's rounds: what the call does to the six cells of a sum. No condition.
-/
import Derived.Test.YteedceepoindeaaSipPlain
import Derived.Test.YteedceepoindeaaChecked
import Derived.WalkSpells
import Derived.WalkLawsBesides
import Derived.Deep.QuietTactic
import Derived.BigQuiet
namespace Go.Proofs.Yteedceepoindeaa
open Go.RowKit

theorem ret_u64 {a b : Int} (h : a = b) : Ending.returned (.int .u64 a) = Ending.returned (.int .u64 b) := by rw [h]

set_option maxHeartbeats 400000 in
theorem rotl_any (x : Int) (k : Int) (w : World) (hk : k = 13 ∨ k = 16 ∨ k = 17 ∨ k = 21 ∨ k = 32) : Calls Try.prog 77 #[.int .u64 x, .int .i64 k] w fun e w' => e = .returned (.int .u64 (rotl x k.toNat)) ∧ w = w' := by
  have h13 : bits BinOp.and IntKind.u64 13 63 = 13 := by decide
  have h16 : bits BinOp.and IntKind.u64 16 63 = 16 := by decide
  have h17 : bits BinOp.and IntKind.u64 17 63 = 17 := by decide
  have h21 : bits BinOp.and IntKind.u64 21 63 = 21 := by decide
  have h32 : bits BinOp.and IntKind.u64 32 63 = 32 := by decide
  rcases hk with rfl | rfl | rfl | rfl | rfl
  all_goals
    go_enter Try.func77, Try.ntmps77
    go_wp2
    go_ret
    exact ⟨rfl, rfl⟩

set_option maxRecDepth 100000 in
set_option maxHeartbeats 400000 in
theorem rounds_any (B : Nat) (s : Sp) (t : Nat) (ht : t < 100) (w : World) (hs : SipAt w B s) :
    Calls Try.prog 74 #[.pointer (some ⟨B, 0, none⟩), .int .i64 t] w fun e w' => e = .returned (.tuple #[]) ∧ SipAt w' B (s.rounds t) ∧ Kp (Jb B) w w' := by
  obtain ⟨c0, c1, c2, c3, -, -, hf⟩ := hs.facts
  have HS := hid hs
  clear hs
  go_enter Try.func74, Try.ntmps74
  go_wp2
  go_quiet (fail)
  go_wp2
  go_loop [4, 5, 6, 7, 25] (fun a b c d i => ∃ k : Nat, k ≤ t ∧ i = .int .i64 k ∧ a = .int .u64 (rnds k s.v).a ∧ b = .int .u64 (rnds k s.v).b ∧ c = .int .u64 (rnds k s.v).c ∧ d = .int .u64 (rnds k s.v).d) (fun _ _ _ _ i => t - (intOf i).toNat)
  case atStart => exact ⟨0, Nat.zero_le _, rfl, rfl, rfl, rfl, rfl⟩
  case round =>
    obtain ⟨k, hk, rfl, rfl, rfl, rfl, rfl⟩ := hrel
    by_cases hlt : k < t
    · go_wp2_with (go_at_call 77; refine (rotl_any _ _ _ (by decide)).mono ?_; rintro e w' ⟨rfl, rfl⟩)
      go_round
      case rel => exact ⟨k + 1, by omega, by go_num, rfl, rfl, rfl, rfl⟩
      case measure => simp [intOf]; omega
    · obtain rfl : k = t := by omega
      go_wp2
      go_end0
      exact ⟨rfl, SipAt.setRounds (Blk.drewN HS.out nq) k, (((((Kp.refl (Jb B) w).drewN nq).set 0 _).set 1 _).set 2 _).set 3 _⟩

set_option maxHeartbeats 400000 in
theorem word_any (B : Nat) (s : Sp) (x : Int) (w : World) (hs : SipAt w B s) :
    Calls Try.prog 72 #[.pointer (some ⟨B, 0, none⟩), .int .u64 x] w fun e w' => e = .returned (.tuple #[]) ∧ SipAt w' B (s.word x) ∧ Kp (Jb B) w w' := by
  obtain ⟨-, -, -, c3, -, -, hf⟩ := hs.facts
  have HS := hid hs
  clear hs
  go_enter Try.func72, Try.ntmps72
  go_wp2_with fail
  refine (rounds_any B (s.xorD x) 2 (by decide) _ (HS.out.setD x)).mono ?_
  rintro e w1 ⟨rfl, h1, k1⟩
  obtain ⟨c0, -, -, -, -, -, hf1⟩ := SipAt.facts h1
  have H1 := hid h1
  have K1 := hid k1
  clear h1 k1 c3 hf
  go_wp2
  go_end0
  exact ⟨rfl, H1.out.setA x, (((Kp.refl (Jb B) w).set 3 _).trans K1.out (fun _ _ h => h)).set 0 _⟩

end Go.Proofs.Yteedceepoindeaa
