/-
  Walks of layer 1: one byte taken in. Conditions: fewer than 2^62 bytes so far.
-/
import Derived.Test.YteedceepoindeaaSipA
import Derived.RegionTactic
import Derived.ChangeAlike
namespace Go.Proofs.Yteedceepoindeaa
open Go.RowKit

set_option maxRecDepth 100000 in
set_option maxHeartbeats 400000 in
theorem single_word (B : Nat) (s : Sp) (x : Int) (w : World) (hs : SipAt w B s) (hn : s.n < 4611686018427387904) (hx : 0 ≤ x) (hx2 : x < 256) (hz : (s.n + 1) % 8 = 0) :
    Calls Try.prog 71 #[.pointer (some ⟨B, 0, none⟩), .int .u8 x] w fun e w' => e = .returned (.tuple #[]) ∧ SipAt w' B (s.single x) ∧ Kp (Jb B) w w' := by
  obtain ⟨-, -, -, -, c4, c5, hf⟩ := hs.facts
  have HS := hid hs
  clear hs
  have h8 : (0 : Int) ≤ 8 * ((s.n : Int) % 8) := by omega
  have hz' : (((s.n : Int) + 1) % 8 == 0) = true := by rw [beq_iff_eq]; omega
  have HZ := hid hz
  clear hz
  go_enter Try.func71, Try.ntmps71
  go_wp2
  go_region
  go_wp2_with fail
  refine (word_any B ((s.left (s.put x)).count 1) _ _ (Blk.drew ((HS.out.setRest (s.put x)).setN 1 _ rfl))).mono ?_
  rintro e w1 ⟨rfl, h1, k1⟩
  obtain ⟨-, -, -, -, d4, -, hf1⟩ := SipAt.facts h1
  have H1 := hid h1
  have K1 := hid k1
  clear h1 k1 c4 c5 hf
  go_wp2
  go_end0
  refine ⟨rfl, ?_, (((((Kp.refl (Jb B) w).set 4 _).set 5 _).drew).trans K1.out (fun _ _ h => h)).set 4 _⟩
  unfold Sp.single
  rw [if_pos HZ.out]
  exact H1.out.setRest 0

set_option maxRecDepth 100000 in
set_option maxHeartbeats 400000 in
theorem single_rest (B : Nat) (s : Sp) (x : Int) (w : World) (hs : SipAt w B s) (hn : s.n < 4611686018427387904) (hx : 0 ≤ x) (hx2 : x < 256) (hz : ¬ (s.n + 1) % 8 = 0) :
    Calls Try.prog 71 #[.pointer (some ⟨B, 0, none⟩), .int .u8 x] w fun e w' => e = .returned (.tuple #[]) ∧ SipAt w' B (s.single x) ∧ Kp (Jb B) w w' := by
  obtain ⟨-, -, -, -, c4, c5, hf⟩ := hs.facts
  have HS := hid hs
  clear hs
  have h8 : (0 : Int) ≤ 8 * ((s.n : Int) % 8) := by omega
  have hz' : (((s.n : Int) + 1) % 8 == 0) = false := by rw [beq_eq_false_iff_ne]; omega
  have HZ := hid hz
  clear hz
  go_enter Try.func71, Try.ntmps71
  go_wp2
  go_region
  go_wp2_with fail
  go_end0
  refine ⟨rfl, ?_, ((((Kp.refl (Jb B) w).set 4 _).set 5 _).drew)⟩
  unfold Sp.single
  rw [if_neg HZ.out]
  exact Blk.drew ((HS.out.setRest (s.put x)).setN 1 _ rfl)

theorem single_any (B : Nat) (s : Sp) (x : Int) (w : World) (hs : SipAt w B s) (hn : s.n < 4611686018427387904) (hx : 0 ≤ x) (hx2 : x < 256) :
    Calls Try.prog 71 #[.pointer (some ⟨B, 0, none⟩), .int .u8 x] w fun e w' => e = .returned (.tuple #[]) ∧ SipAt w' B (s.single x) ∧ Kp (Jb B) w w' := by
  by_cases hz : (s.n + 1) % 8 = 0
  · exact single_word B s x w hs hn hx hx2 hz
  · exact single_rest B s x w hs hn hx hx2 hz

set_option maxHeartbeats 400000 in
theorem load_any (blk off n cap : Nat) (zs : List Int) (w : World) (hl : zs.length = n) (h8 : 8 ≤ n) (hc : n ≤ cap) (hm : cap ≤ maxLen) (hz : IsBytes zs) (hb : ByAt w blk off zs) :
    Calls Try.prog 73 #[.slice (some ⟨blk, off, none⟩) n cap] w fun e w' => e = .returned (.int .u64 (loadTo zs 8)) ∧ w = w' := by
  unfold maxLen at hm
  have HB := hid hb
  have HZ := hid hz
  clear hb hz
  go_enter Try.func73, Try.ntmps73
  go_wp2
  go_loop [3, 9] (fun v i => ∃ k : Nat, k ≤ 8 ∧ i = .int .i64 k ∧ v = .int .u64 (loadTo zs k)) (fun _ i => 8 - (intOf i).toNat)
  case atStart => exact ⟨0, Nat.zero_le _, rfl, rfl⟩
  case round =>
    obtain ⟨k, hk, rfl, rfl⟩ := hrel
    by_cases hlt : k < 8
    · have hcell := HB.out k (by omega)
      have hx := HZ.out k
      have hsh : (0 : Int) ≤ 8 * (k : Int) := by omega
      go_wp2
      go_round
      case rel => exact ⟨k + 1, by omega, by go_num, rfl⟩
      case measure => simp [intOf]; omega
    · obtain rfl : k = 8 := by omega
      go_wp2
      go_ret
      exact ⟨rfl, rfl⟩
end Go.Proofs.Yteedceepoindeaa
