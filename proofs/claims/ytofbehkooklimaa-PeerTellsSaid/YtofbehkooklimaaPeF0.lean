/-
  Layer 29: the walk of PeerTells, one part of its cases. Condition: what an int is.
-/
import Derived.Test.YtofbehkooklimaaPeF
namespace Go.Proofs.Ytofbehkooklimaa
open Go.RowKit

set_option maxRecDepth 100000 in
set_option maxHeartbeats 2000000 in
theorem tells_w0 (n d t r : Int) (hf0 : pfitsB n = false) (w : World) :
    Calls Try.prog 9 #[.agg #[.int .i64 n, .int .i64 d, .int .i64 t, .int .i64 r]] w fun e w' => e = .returned (.bool true) ∧ Kp Nb w w' := by
  obtain ⟨K, hK⟩ : ∃ K, K = pclampZ r := ⟨_, rfl⟩
  have hK0 : 0 ≤ K ∧ K ≤ 100 := by rw [hK]; unfold pclampZ; omega
  have HK := hid hK
  have HK0 := hid hK0
  obtain ⟨L, hL⟩ : ∃ L : Nat, L = min K.toNat (pairsN n) := ⟨_, rfl⟩
  have HL := hid hL
  clear hK hK0 hL
  have HF0 := hid hf0
  clear hf0
  go_enter Try.func9, Try.ntmps9
  go_wp2_with fail
  refine (first29_any _).mono ?_
  rintro e w1 ⟨rfl, k1⟩
  have K1 := hid (((Kp.refl Nb w).alloc (.cells #[.int .i64 n, .int .i64 d, .int .i64 t, .int .i64 r] 54)).trans k1 (fun _ _ h => h))
  have hbk := (Blk.new w 54 [.int .i64 n, .int .i64 d, .int .i64 t, .int .i64 r]).kept k1 (fun h => h)
  have q0 : w1.cell? ⟨w.heap.size, 0, none⟩ = some (.int .i64 n) := hbk.cell 0
  have q1 : w1.cell? ⟨w.heap.size, 1, none⟩ = some (.int .i64 d) := hbk.cell 1
  have q2 : w1.cell? ⟨w.heap.size, 2, none⟩ = some (.int .i64 t) := hbk.cell 2
  have q3 : w1.cell? ⟨w.heap.size, 3, none⟩ = some (.int .i64 r) := hbk.cell 3
  clear k1 hbk
  go_wp2
  go_quiet (fail)
  have K2 : Hid (Kp Nb w (w1.drewN nq)) := by unfold Hid; exact K1.out.drewN nq
  generalize w1.drewN nq = w2 at K2 ⊢
  clear q0 q1 q2 q3 K1
  go_upto_region 4 with fail
  go_cut [7, 8] (fun s7 s8 wx => (∃ x1 c1 x2 c2, s7 = .slice x1 L c1 ∧ s8 = .slice x2 L c2 ∧ Hid (∀ j, j < L → ∃ b1 b2, x1 = Option.some ⟨b1, 0, none⟩ ∧ x2 = Option.some ⟨b2, 0, none⟩ ∧ wx.cell? ⟨b1, j, none⟩ = Option.some (.int .i64 (pairAt n j).1) ∧ wx.cell? ⟨b2, j, none⟩ = Option.some (.int .i64 (pairAt n j).2))) ∧ Hid (Kp Nb w wx))
  case first =>
    have CRo := hid (fun w => pround_len n K L HL.out w)
    have hk := HK.out
    unfold pclampZ at hk
    clear HK HK0 HL
    rcases (show r < 0 ∨ r = 0 ∨ (1 ≤ r ∧ r ≤ 99) ∨ r = 100 ∨ 100 < r by omega) with h | h | h | h | h
    · obtain rfl : K = 0 := by omega
      clear hk
      go_wp2_with (go_at_call 36; refine (CRo.out _).mono ?_; rintro e w3 ⟨⟨x1, c1, x2, c2, rfl, HR⟩, k3⟩; have K3 := hid (K2.out.trans k3 (fun _ _ h => h)); clear k3)
      go_meet
      exact ⟨⟨_, _, _, _, rfl, rfl, HR⟩, K3⟩
    · obtain rfl : K = 0 := by omega
      subst h
      clear hk
      go_wp2_with (go_at_call 36; refine (CRo.out _).mono ?_; rintro e w3 ⟨⟨x1, c1, x2, c2, rfl, HR⟩, k3⟩; have K3 := hid (K2.out.trans k3 (fun _ _ h => h)); clear k3)
      go_meet
      exact ⟨⟨_, _, _, _, rfl, rfl, HR⟩, K3⟩
    · obtain rfl : K = r := by omega
      obtain ⟨ha, hb⟩ := h
      clear hk
      go_wp2_with (go_at_call 36; refine (CRo.out _).mono ?_; rintro e w3 ⟨⟨x1, c1, x2, c2, rfl, HR⟩, k3⟩; have K3 := hid (K2.out.trans k3 (fun _ _ h => h)); clear k3)
      go_meet
      exact ⟨⟨_, _, _, _, rfl, rfl, HR⟩, K3⟩
    · obtain rfl : K = 100 := by omega
      subst h
      clear hk
      go_wp2_with (go_at_call 36; refine (CRo.out _).mono ?_; rintro e w3 ⟨⟨x1, c1, x2, c2, rfl, HR⟩, k3⟩; have K3 := hid (K2.out.trans k3 (fun _ _ h => h)); clear k3)
      go_meet
      exact ⟨⟨_, _, _, _, rfl, rfl, HR⟩, K3⟩
    · obtain rfl : K = 100 := by omega
      clear hk
      go_wp2_with (go_at_call 36; refine (CRo.out _).mono ?_; rintro e w3 ⟨⟨x1, c1, x2, c2, rfl, HR⟩, k3⟩; have K3 := hid (K2.out.trans k3 (fun _ _ h => h)); clear k3)
      go_meet
      exact ⟨⟨_, _, _, _, rfl, rfl, HR⟩, K3⟩
  case rest =>
    obtain ⟨⟨x1, c1, x2, c2, rfl, rfl, HR⟩, K3⟩ := hcut
    clear K2
    rename_i w3
    cases hf : pfitsB n with
    | false =>
      have hL0 : L = 0 := by rw [HL.out, show pairsN n = 0 from by unfold pairsN; rw [hf]; rfl, Nat.min_zero]
      subst hL0
      have hi : isB n d = false := isB_f (fun h => pfitsB_not hf h.1)
      have hb1 := peerB_out (t := t) hi
      have hb2 : turnB n d t = false := by unfold turnB; rw [hi]; rfl
      have CP : Hid (∀ w, Calls Try.prog 37 #[.int .i64 n, .int .i64 d, .int .i64 t] w fun e w' => e = .returned (.tuple #[.int .i64 0, .bool false]) ∧ w = w') := fun w => by
        have := peer_any n d t w
        rw [peerV_no hb1, hb1] at this
        exact this
      have CT : Hid (∀ w, Calls Try.prog 38 #[.int .i64 n, .int .i64 d, .int .i64 t] w fun e w' => e = .returned (.tuple #[.int .i64 0, .bool false]) ∧ w = w') := fun w => by
        have := turn_any n d t w
        rw [turnV_no hb2, hb2] at this
        exact this
      have CS : Hid (∀ w, Calls Try.prog 40 #[.int .i64 n, .int .i64 r] w fun e w' => e = .returned (.int .i64 0) ∧ w = w') := fun w => by
        have := sessions_any n r w
        rw [show sessZ n r = 0 from by unfold sessZ; rw [hf]; rfl] at this
        exact this
      have CF : Hid (∀ w, Calls Try.prog 39 #[.int .i64 n] w fun e w' => e = .returned (.bool false) ∧ w = w') := fun w => by
        have := pfits_any n w
        rw [hf] at this
        exact this
      have hn := pfitsB_not hf
      clear hf hi hb1 hb2 HR HL HK HK0
      rcases (show n < 2 ∨ 8 < n by omega) with h | h
      all_goals
        clear hn
        go_wp2_with (first
          | (go_at_call 37; refine (CP.out _).mono ?_; rintro e w' ⟨rfl, rfl⟩)
          | (go_at_call 38; refine (CT.out _).mono ?_; rintro e w' ⟨rfl, rfl⟩)
          | (go_at_call 40; refine (CS.out _).mono ?_; rintro e w' ⟨rfl, rfl⟩)
          | (go_at_call 39; refine (CF.out _).mono ?_; rintro e w' ⟨rfl, rfl⟩))
        go_ret
        exact ⟨rfl, K3.out⟩
    | true => exact absurd (hf.symm.trans HF0.out) (by decide)

end Go.Proofs.Ytofbehkooklimaa
