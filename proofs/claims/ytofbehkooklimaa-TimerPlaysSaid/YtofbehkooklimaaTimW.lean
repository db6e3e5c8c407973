/-
  Layer 23: the walk of TimerWaits. Condition: what an int is.
-/
import Derived.Test.YtofbehkooklimaaTimG
import Derived.Deep.CutBlock
import Derived.Deep.DeepCutAuto
namespace Go.Proofs.Ytofbehkooklimaa
open Go.RowKit

def clampZ (m : Int) : Int := max 0 (min m 20)
def TwR (w : World) (e : Int) (T : Nat) (s i : Value) (wr : World) : Prop := ∃ j : Nat, j ≤ T + 1 ∧ i = .int .i64 j ∧ s = .int .i64 (sumZ e j) ∧ Hid (Kp Nb w wr)
theorem wIs_length (e t m : Int) : (wIs e t m).length = min m.toNat (waitsN e t) := by unfold wIs waitsL; rw [List.length_map, List.length_take, waitsTo_length]
theorem wWs_length (e t m : Int) : (wWs e t m).length = min m.toNat (waitsN e t) := by unfold wWs waitsL; rw [List.length_map, List.length_take, waitsTo_length]
theorem wIs_get (e t m : Int) (j : Nat) (h : j < min m.toNat (waitsN e t)) : (wIs e t m)[j]?.getD 0 = (j : Int) := by
  unfold wIs waitsL
  rw [List.getElem?_map, List.getElem?_take_of_lt (by omega), waitsTo_get _ _ _ (by omega)]
  rfl
theorem wWs_get (e t m : Int) (j : Nat) (h : j < min m.toNat (waitsN e t)) : (wWs e t m)[j]?.getD 0 = e * timesZ j := by
  unfold wWs waitsL
  rw [List.getElem?_map, List.getElem?_take_of_lt (by omega), waitsTo_get _ _ _ (by omega)]
  rfl
theorem waits_len (e t m : Int) (L : Nat) (hL : L = min m.toNat (waitsN e t)) (w : World) :
    Calls Try.prog 32 #[.int .i64 e, .int .i64 t, .int .i64 m] w fun r w' => (∃ x1 c1 x2 c2, r = .returned (.tuple #[.slice x1 L c1, .slice x2 L c2]) ∧ Hid (∀ j, j < L → ∃ b1 b2, x1 = Option.some ⟨b1, 0, none⟩ ∧ x2 = Option.some ⟨b2, 0, none⟩ ∧ w'.cell? ⟨b1, j, none⟩ = Option.some (.int .i64 (j : Int)) ∧ w'.cell? ⟨b2, j, none⟩ = Option.some (.int .i64 (e * timesZ j)))) ∧ Kp Nb w w' := by
  refine (twaits_any e t m w).mono ?_
  rintro r w' ⟨⟨v1, v2, rfl, r1, r2⟩, k⟩
  obtain ⟨x1, c1, rfl⟩ := r1.shape
  obtain ⟨x2, c2, rfl⟩ := r2.shape
  rw [wIs_length, wWs_length, ← hL]
  refine ⟨⟨x1, c1, x2, c2, rfl, fun j hj => ?_⟩, k⟩
  obtain ⟨b1, d1, e1, q1⟩ := r1.pos (by rw [wIs_length]; omega)
  obtain ⟨b2, d2, e2, q2⟩ := r2.pos (by rw [wWs_length]; omega)
  have h1 := q1 j (by rw [wIs_length]; omega)
  have h2 := q2 j (by rw [wWs_length]; omega)
  rw [wIs_get e t m j (by omega)] at h1
  rw [wWs_get e t m j (by omega)] at h2
  injection e1 with e1
  injection e2 with e2
  exact ⟨b1, b2, e1, e2, h1, h2⟩

set_option maxRecDepth 100000 in
set_option maxHeartbeats 2000000 in
theorem waits_law (e t m : Int) (w : World) :
    Calls Try.prog 6 #[.int .i64 e, .int .i64 t, .int .i64 m] w fun r w' => r = .returned (.bool true) ∧ Kp Nb w w' := by
  have CF : Hid (∀ w, Calls Try.prog 24 #[.int .i64 e, .int .i64 t] w fun r w' => r = .returned (.bool (tfitsB e t)) ∧ w = w') := fun w => rtfits_any e t w
  have CL : Hid (∀ w, Calls Try.prog 33 #[.int .i64 e, .int .i64 t] w fun r w' => r = .returned (.int .i64 (longZ e t)) ∧ Kp Nb w w') := fun w => long_any e t w
  obtain ⟨K, hK⟩ : ∃ K, K = clampZ m := ⟨_, rfl⟩
  have hK0 : 0 ≤ K ∧ K ≤ 20 := by rw [hK]; unfold clampZ; omega
  have HK := hid hK
  have HK0 := hid hK0
  clear hK
  go_enter Try.func6, Try.ntmps6
  go_wp2_with fail
  refine (first23_any _).mono ?_
  rintro r w1 ⟨rfl, k1⟩
  have K1 := hid k1
  clear k1 hK0
  go_upto_region 3 with fail
  go_cut [7] (fun s7 wx => s7 = .int .i64 K ∧ wx = w1)
  case first =>
    rcases (show m < 0 ∨ m = 0 ∨ (1 ≤ m ∧ m ≤ 20) ∨ 20 < m by omega) with h | h | h | h
    · have e1 := hid (show K = 0 from by rw [HK.out]; unfold clampZ; omega)
      go_wp2
      go_meet
      exact ⟨by rw [e1.out], rfl⟩
    · subst h
      have e1 := hid (show K = 0 from by rw [HK.out]; unfold clampZ; omega)
      go_wp2
      go_meet
      exact ⟨by rw [e1.out], rfl⟩
    · obtain ⟨ha, hb⟩ := h
      have e1 := hid (show K = m from by rw [HK.out]; unfold clampZ; omega)
      go_wp2
      go_meet
      exact ⟨by rw [e1.out], rfl⟩
    · have e1 := hid (show K = 20 from by rw [HK.out]; unfold clampZ; omega)
      go_wp2
      go_meet
      exact ⟨by rw [e1.out], rfl⟩
  case rest =>
    obtain ⟨rfl, rfl⟩ := hcut
    obtain ⟨hk0, hk1⟩ := HK0.out
    cases hf : tfitsB e t with
    | false =>
      have hN : waitsN e t = 0 := by unfold waitsN; rw [hf]; rfl
      have HL : Hid ((0 : Nat) = min K.toNat (waitsN e t)) := by rw [hN]; exact (Nat.min_zero _).symm
      rw [hf] at CF
      rw [show longZ e t = 0 from by unfold longZ; rw [hN]; rfl] at CL
      clear hf hN
      go_wp2_with fail
      refine (waits_len e t K 0 HL.out _).mono ?_
      rintro r w2 ⟨⟨x1, d1, x2, d2, rfl, -⟩, k2⟩
      have K2 := hid (K1.out.trans k2 (fun _ _ h => h))
      clear k2
      go_wp2_with (first
        | (go_at_call 24; refine (CF.out _).mono ?_; rintro r w' ⟨rfl, rfl⟩)
        | (go_at_call 33; refine (CL.out _).mono ?_; rintro r w3 ⟨rfl, k3⟩; have K3 := hid (K2.out.trans k3 (fun _ _ h => h)); clear k3))
      go_ret
      exact ⟨rfl, K3.out⟩
    | true =>
      obtain ⟨e1, e2, t1, t2⟩ := tfitsB_spec hf
      obtain ⟨T, rfl⟩ : ∃ T : Nat, t = (T : Int) := ⟨t.toNat, by omega⟩
      have hN : waitsN e T = T + 1 := by unfold waitsN; rw [hf]; rfl
      obtain ⟨L, hL⟩ : ∃ L : Nat, L = min K.toNat (waitsN e T) := ⟨_, rfl⟩
      have HL := hid hL
      have hL1 : (L : Int) ≤ K ∧ L ≤ T + 1 ∧ ((L : Int) = K ∨ L = T + 1) := by rw [hN] at hL; omega
      have HL1 := hid hL1
      rw [hf] at CF
      rw [show longZ e T = sumZ e (T + 1) from by unfold longZ; rw [hN]] at CL
      clear hf hN hL hL1
      go_wp2_with fail
      refine (waits_len e T K L HL.out _).mono ?_
      rintro r w2 ⟨⟨x1, d1, x2, d2, rfl, HR⟩, k2⟩
      have K2 := hid (K1.out.trans k2 (fun _ _ h => h))
      have K2' := hid (Kp.refl Nb w2)
      clear k2
      go_wp2_with (go_at_call 24; refine (CF.out _).mono ?_; rintro r w' ⟨rfl, rfl⟩)
      go_loopw [10, 39] (fun s i wr => TwR w2 e T s i wr) (fun _ i _ => T + 1 - (intOf i).toNat)
      case atStart => exact ⟨0, Nat.zero_le _, rfl, rfl, K2'⟩
      case round =>
        obtain ⟨j, hj, rfl, rfl, HJ⟩ := hrel
        by_cases hlt : j < T + 1
        · have hw := wait_le e1 e2 j
          have hs := sumZ_le e1 e2 j
          have CW : Hid (∀ w, Calls Try.prog 34 #[.int .i64 e, .int .i64 (j : Int)] w fun r w' => r = .returned (.int .i64 (e * timesZ j)) ∧ w = w') := fun w => rwait_any e j w e1 e2
          have HSS := hid (show sumZ e (j + 1) = sumZ e j + e * timesZ j from rfl)
          obtain ⟨v, hv⟩ : ∃ v, v = e * timesZ j := ⟨_, rfl⟩
          obtain ⟨s, hss⟩ : ∃ s, s = sumZ e j := ⟨_, rfl⟩
          rw [← hv] at hw CW HSS
          rw [← hss] at hs HSS ⊢
          have HV := hid hv
          clear hv hss
          by_cases hjk : (j : Int) < K
          · have hjL : j < L := by have := HL1.out; omega
            obtain ⟨b1, b2, rfl, rfl, q1, q2⟩ := HR.out j hjL
            rw [← HV.out] at q2
            have g1 := HJ.out.cell q1 (fun h => h)
            have g2 := HJ.out.cell q2 (fun h => h)
            have d1 : decide ((j : Int) < K) = true := decide_eq_true hjk
            have d2 : decide (L ≤ j) = false := decide_eq_false (by omega)
            clear q1 q2
            go_wp2_with (go_at_call 34; refine (CW.out _).mono ?_; rintro r w' ⟨rfl, rfl⟩)
            go_quiet ((go_at_call 34; exact Calls.quiet_of_same ((CW.out _).mono fun _ _ h => ⟨h.1, h.2.symm⟩)))
            go_wp2
            go_roundw
            case rel => exact ⟨j + 1, by omega, by go_num, by rw [HSS.out], HJ.out.drewN _⟩
            case measure => simp [intOf]; omega
          · have d1 : decide ((j : Int) < K) = false := decide_eq_false hjk
            go_wp2_with (go_at_call 34; refine (CW.out _).mono ?_; rintro r w' ⟨rfl, rfl⟩)
            go_quiet (fail)
            go_wp2
            go_roundw
            case rel => exact ⟨j + 1, by omega, by go_num, by rw [HSS.out], HJ.out.drewN _⟩
            case measure => simp [intOf]; omega
        · obtain rfl : j = T + 1 := by omega
          obtain ⟨s, hss⟩ : ∃ s, s = sumZ e (T + 1) := ⟨_, rfl⟩
          rw [← hss] at CL ⊢
          obtain ⟨l1, l2, l3⟩ := HL1.out
          have HKF := hid (K2.out.trans HJ.out (fun _ _ h => h))
          clear hss
          rcases (show K < (T : Int) + 1 ∨ K = (T : Int) + 1 ∨ (T : Int) + 1 < K by omega) with h | h | h
          · obtain rfl : K = (L : Int) := by omega
            clear l1 l2 l3 HL1 HL HR
            go_wp2_with (go_at_call 33; refine (CL.out _).mono ?_; rintro r w3 ⟨rfl, k3⟩; have K3 := hid (HKF.out.trans k3 (fun _ _ h => h)); clear k3)
            go_ret
            exact ⟨rfl, K3.out⟩
          · obtain rfl : L = T + 1 := by omega
            subst h
            clear l1 l2 l3 HL1 HL HR
            go_wp2_with (go_at_call 33; refine (CL.out _).mono ?_; rintro r w3 ⟨rfl, k3⟩; have K3 := hid (HKF.out.trans k3 (fun _ _ h => h)); clear k3)
            go_ret
            exact ⟨rfl, K3.out⟩
          · obtain rfl : L = T + 1 := by omega
            clear l1 l2 l3 HL1 HL HR
            go_wp2_with (go_at_call 33; refine (CL.out _).mono ?_; rintro r w3 ⟨rfl, k3⟩; have K3 := hid (HKF.out.trans k3 (fun _ _ h => h)); clear k3)
            go_ret
            exact ⟨rfl, K3.out⟩

end Go.Proofs.Ytofbehkooklimaa
