/-
  Layer 29: the walk of PeerTells, one part of its cases. Condition: what an int is.
-/
import Derived.Test.YtofbehkooklimaaPeF
namespace Go.Proofs.Ytofbehkooklimaa
open Go.RowKit

set_option maxRecDepth 100000 in
set_option maxHeartbeats 2000000 in
theorem tells_w5 (n d t r : Int) (hf0 : pfitsB n = true) (hx : 0 ≤ d ∧ d < n ∧ 0 ≤ t ∧ n ≤ t) (w : World) :
    Calls Try.prog 9 #[.agg #[.int .i64 n, .int .i64 d, .int .i64 t, .int .i64 r]] w fun e w' => e = .returned (.bool true) ∧ Kp Nb w w' := by
  obtain ⟨K, hK⟩ : ∃ K, K = pclampZ r := ⟨_, rfl⟩
  have hK0 : 0 ≤ K ∧ K ≤ 100 := by rw [hK]; unfold pclampZ; omega
  have HK := hid hK
  have HK0 := hid hK0
  obtain ⟨L, hL⟩ : ∃ L : Nat, L = min K.toNat (pairsN n) := ⟨_, rfl⟩
  have HL := hid hL
  clear hK hK0 hL
  have HF0 := hid hf0
  have HX0 := hid hx
  clear hx
  clear hf0
  go_enter Try.func9, Try.ntmps9
  go_wp2_with fail
  refine (first29_any _).mono ?_
  rintro e w1 ⟨rfl, k1⟩
  have K1 := hid (((Kp.refl Nb w).alloc (.cells #[.int .i64 n, .int .i64 d, .int .i64 t, .int .i64 r] 54)).trans k1 (fun _ _ h => h))
  have hbk := (Blk.new w 54 [.int .i64 n, .int .i64 d, .int .i64 t, .int .i64 r]).kept k1 (fun h => h)
  have q0 : w1.cell? ⟨w.heap.size, 0, none⟩ = some (.int .i64 n) := hbk.cell 0
  have q1 : w1.cell? ⟨w.heap.size, 1, none⟩ = some (.int .i64 d) := hbk.cell 1
  have q2 : w1.cell? ⟨w.heap.size, 2, none⟩ = some (.int .i64 t) := hbk.cell 2
  have q3 : w1.cell? ⟨w.heap.size, 3, none⟩ = some (.int .i64 r) := hbk.cell 3
  clear k1 hbk
  go_wp2
  go_quiet (fail)
  have K2 : Hid (Kp Nb w (w1.drewN nq)) := by unfold Hid; exact K1.out.drewN nq
  generalize w1.drewN nq = w2 at K2 ⊢
  clear q0 q1 q2 q3 K1
  go_upto_region 4 with fail
  go_cut [7, 8] (fun s7 s8 wx => (∃ x1 c1 x2 c2, s7 = .slice x1 L c1 ∧ s8 = .slice x2 L c2 ∧ Hid (∀ j, j < L → ∃ b1 b2, x1 = Option.some ⟨b1, 0, none⟩ ∧ x2 = Option.some ⟨b2, 0, none⟩ ∧ wx.cell? ⟨b1, j, none⟩ = Option.some (.int .i64 (pairAt n j).1) ∧ wx.cell? ⟨b2, j, none⟩ = Option.some (.int .i64 (pairAt n j).2))) ∧ Hid (Kp Nb w wx))
  case first =>
    have CRo := hid (fun w => pround_len n K L HL.out w)
    have hk := HK.out
    unfold pclampZ at hk
    clear HK HK0 HL
    rcases (show r < 0 ∨ r = 0 ∨ (1 ≤ r ∧ r ≤ 99) ∨ r = 100 ∨ 100 < r by omega) with h | h | h | h | h
    · obtain rfl : K = 0 := by omega
      clear hk
      go_wp2_with (go_at_call 36; refine (CRo.out _).mono ?_; rintro e w3 ⟨⟨x1, c1, x2, c2, rfl, HR⟩, k3⟩; have K3 := hid (K2.out.trans k3 (fun _ _ h => h)); clear k3)
      go_meet
      exact ⟨⟨_, _, _, _, rfl, rfl, HR⟩, K3⟩
    · obtain rfl : K = 0 := by omega
      subst h
      clear hk
      go_wp2_with (go_at_call 36; refine (CRo.out _).mono ?_; rintro e w3 ⟨⟨x1, c1, x2, c2, rfl, HR⟩, k3⟩; have K3 := hid (K2.out.trans k3 (fun _ _ h => h)); clear k3)
      go_meet
      exact ⟨⟨_, _, _, _, rfl, rfl, HR⟩, K3⟩
    · obtain rfl : K = r := by omega
      obtain ⟨ha, hb⟩ := h
      clear hk
      go_wp2_with (go_at_call 36; refine (CRo.out _).mono ?_; rintro e w3 ⟨⟨x1, c1, x2, c2, rfl, HR⟩, k3⟩; have K3 := hid (K2.out.trans k3 (fun _ _ h => h)); clear k3)
      go_meet
      exact ⟨⟨_, _, _, _, rfl, rfl, HR⟩, K3⟩
    · obtain rfl : K = 100 := by omega
      subst h
      clear hk
      go_wp2_with (go_at_call 36; refine (CRo.out _).mono ?_; rintro e w3 ⟨⟨x1, c1, x2, c2, rfl, HR⟩, k3⟩; have K3 := hid (K2.out.trans k3 (fun _ _ h => h)); clear k3)
      go_meet
      exact ⟨⟨_, _, _, _, rfl, rfl, HR⟩, K3⟩
    · obtain rfl : K = 100 := by omega
      clear hk
      go_wp2_with (go_at_call 36; refine (CRo.out _).mono ?_; rintro e w3 ⟨⟨x1, c1, x2, c2, rfl, HR⟩, k3⟩; have K3 := hid (K2.out.trans k3 (fun _ _ h => h)); clear k3)
      go_meet
      exact ⟨⟨_, _, _, _, rfl, rfl, HR⟩, K3⟩
  case rest =>
    obtain ⟨⟨x1, c1, x2, c2, rfl, rfl, HR⟩, K3⟩ := hcut
    clear K2
    rename_i w3
    cases hf : pfitsB n with
    | false => exact absurd (hf.symm.trans HF0.out) (by decide)
    | true =>
      obtain ⟨n1, n2⟩ := pfitsB_spec hf
      obtain ⟨N, rfl⟩ : ∃ N : Nat, n = (N : Int) := ⟨n.toNat, by omega⟩
      have m1 : 2 ≤ N := by omega
      have m2 : N ≤ 8 := by omega
      obtain ⟨P, hP⟩ : ∃ P : Nat, P = (N - 1) * N := ⟨_, rfl⟩
      have hPN : pairsN N = P := by unfold pairsN; rw [hf, hP]; simp
      rw [hPN] at HL
      have hP8 : P ≤ 56 := by rw [← hPN]; exact pairsN_le N
      have hP2 : 2 ≤ P := by
        rw [hP]
        have := Nat.mul_le_mul (show 1 ≤ N - 1 by omega) m1
        omega
      have HP := hid hP
      have CP : Hid (∀ w, Calls Try.prog 37 #[.int .i64 N, .int .i64 d, .int .i64 t] w fun e w' => e = .returned (.tuple #[.int .i64 (peerV N d t), .bool (peerB N d t)]) ∧ w = w') := fun w => peer_any N d t w
      have CT : Hid (∀ w, Calls Try.prog 38 #[.int .i64 N, .int .i64 d, .int .i64 t] w fun e w' => e = .returned (.tuple #[.int .i64 (turnV N d t), .bool (turnB N d t)]) ∧ w = w') := fun w => turn_any N d t w
      have CRf := hid (fun w => rpairs_len N P m1 m2 hP w)
      obtain ⟨pz, hpz⟩ : ∃ z, z = peerV N d t := ⟨_, rfl⟩
      obtain ⟨tz, htz⟩ : ∃ z, z = turnV N d t := ⟨_, rfl⟩
      obtain ⟨pb, hpb⟩ : ∃ z, z = peerB N d t := ⟨_, rfl⟩
      obtain ⟨tb, htb⟩ : ∃ z, z = turnB N d t := ⟨_, rfl⟩
      rw [← hpz, ← hpb] at CP
      rw [← htz, ← htb] at CT
      have HPZ := hid hpz
      have HTZ := hid htz
      have HPB := hid hpb
      have HTB := hid htb
      have HF := hid hf
      clear hf hP hPN hpz hpb htz htb m1 m2
      have hd1 : decide ((N : Int) < 2) = false := decide_eq_false (by omega)
      have hd2 : decide ((N : Int) > 8) = false := decide_eq_false (by omega)
      go_upto_region 10 with (first
          | (go_at_call 37; refine (CP.out _).mono ?_; rintro e w' ⟨rfl, rfl⟩)
          | (go_at_call 38; refine (CT.out _).mono ?_; rintro e w' ⟨rfl, rfl⟩)
          | (go_at_call 41; refine (CRf.out _).mono ?_; rintro e w4 ⟨⟨b3, c3, b4, c4, rfl, HX⟩, k4⟩; have K4 := hid (K3.out.trans k4 (fun _ _ h => h)); have K34 := hid k4; clear k4))
      go_cut [99] (fun s99 wx => s99 = .bool false ∧ wx = w4)
      case first =>
        obtain ⟨hl1, hl2, hl3⟩ : (L : Int) ≤ K ∧ L ≤ P ∧ ((L : Int) = K ∨ L = P) := by have := HL.out; have := HK0.out; omega
        have hk := HK.out
        unfold pclampZ at hk
        clear HK HK0 HL
        rcases (show (r < 0) ∨ (r = 0) ∨ (1 ≤ r ∧ r < P) ∨ (r = P ∧ r ≤ 99) ∨ (P < r ∧ r ≤ 99) ∨ (r = 100) ∨ (100 < r) by omega) with h | h | h | h | h | h | h
        · obtain rfl : L = 0 := by omega
          clear hk hl1 hl2 hl3
          go_wp2
          go_meet
          exact ⟨rfl, rfl⟩
        · obtain rfl : L = 0 := by omega
          subst h
          clear hk hl1 hl2 hl3
          go_wp2
          go_meet
          exact ⟨rfl, rfl⟩
        · obtain rfl : r = (L : Int) := by omega
          obtain ⟨ha, hb⟩ := h
          clear hk hl1 hl2 hl3
          go_wp2
          go_meet
          exact ⟨rfl, rfl⟩
        · obtain rfl : L = P := by omega
          obtain ⟨rfl, -⟩ := h
          clear hk hl1 hl2 hl3
          go_wp2
          go_meet
          exact ⟨rfl, rfl⟩
        · obtain rfl : L = P := by omega
          obtain ⟨ha, hb⟩ := h
          clear hk hl1 hl2 hl3
          go_wp2
          go_meet
          exact ⟨rfl, rfl⟩
        · obtain rfl : L = P := by omega
          subst h
          clear hk hl1 hl2 hl3
          go_wp2
          go_meet
          exact ⟨rfl, rfl⟩
        · obtain rfl : L = P := by omega
          clear hk hl1 hl2 hl3
          go_wp2
          go_meet
          exact ⟨rfl, rfl⟩
      case rest =>
        obtain ⟨rfl, rfl⟩ := hcut
        have K44 := hid (Kp.refl Nb wc)
        have HL1 : Hid (L ≤ P) := by have := HL.out; unfold Hid; omega
        clear HL HK HK0 K
        go_wp2
        go_loopw [102] (fun i wr => ∃ j : Nat, j ≤ L ∧ i = .int .i64 j ∧ Hid (Kp Nb wc wr)) (fun i _ => L - (intOf i).toNat)
        case atStart => exact ⟨0, Nat.zero_le _, rfl, K44⟩
        case round =>
          obtain ⟨j, hj, rfl, HJ⟩ := hrel
          clear K44
          by_cases hlt : j < L
          · obtain ⟨b1, b2, rfl, rfl, q1, q2⟩ := HR.out j hlt
            obtain ⟨q3, q4⟩ := HX.out j (by have := HL1.out; omega)
            obtain ⟨u, hu⟩ : ∃ u, u = (pairAt N j).1 := ⟨_, rfl⟩
            obtain ⟨v, hv⟩ : ∃ v, v = (pairAt N j).2 := ⟨_, rfl⟩
            rw [← hu] at q1 q3
            rw [← hv] at q2 q4
            have g1 := HJ.out.cell (K34.out.cell q1 (fun h => h)) (fun h => h)
            have g2 := HJ.out.cell (K34.out.cell q2 (fun h => h)) (fun h => h)
            have g3 := HJ.out.cell q3 (fun h => h)
            have g4 := HJ.out.cell q4 (fun h => h)
            have hjP : j < P := by have := HL1.out; omega
            clear q1 q2 q3 q4 hu hv
            go_wp2
            go_quiet (fail)
            go_wp2
            go_roundw
            case rel => exact ⟨j + 1, by omega, by go_num, HJ.out.drewN _⟩
            case measure => simp [intOf]; omega
          · obtain rfl : j = L := by omega
            have K5 := hid (K4.out.trans HJ.out (fun _ _ h => h))
            have HY : Hid (∀ i, i < P → wr.cell? ⟨b4, i, none⟩ = Option.some (.int .i64 (pairAt N i).2)) := fun i hi => HJ.out.cell (HX.out i hi).2 (fun h => h)
            clear HJ HX HR K34 K4 HL1 hj hlt
            have hs0 : sessZ N r = (P : Int) * min (max r 0) 1048576 := by
              unfold sessZ
              rw [if_pos HF.out, HP.out]
              congr 1
              rw [Int.mul_comm, Int.natCast_mul]
              congr 1
              omega
            obtain ⟨sz, hz⟩ : ∃ sz, sz = sessZ N r := ⟨_, rfl⟩
            rw [← hz] at hs0
            have HSZ := hid hs0
            have CS : Hid (∀ w, Calls Try.prog 40 #[.int .i64 N, .int .i64 r] w fun e w' => e = .returned (.int .i64 sz) ∧ w = w') := fun w => by rw [hz]; exact sessions_any N r w
            clear hz hs0 HF
            by_cases hd0 : d < 0
            · exact absurd HX0.out (by omega)
            · obtain ⟨D, rfl⟩ : ∃ D : Nat, d = (D : Int) := ⟨d.toNat, by omega⟩
              clear hd0
              by_cases hdn : N ≤ D
              · exact absurd HX0.out (by omega)
              · have hi : isB N D = true := isB_t (by omega)
                have hb1 : decide ((D : Int) ≥ 0) = true := decide_eq_true (by omega)
                have hb2 : decide ((D : Int) < (N : Int)) = true := decide_eq_true (by omega)
                by_cases ht0 : t < 0
                · exact absurd HX0.out (by omega)
                · have hpb : peerB N D t = true := peerB_in hi (by omega)
                  obtain rfl : pb = true := by rw [HPB.out]; exact hpb
                  have hb3 : decide (t ≥ 0) = true := decide_eq_true (by omega)
                  have e1 : t.tmod ((N : Int) - 1) = t % ((N : Int) - 1) := Int.tmod_eq_emod_of_nonneg (by omega)
                  have m1 := Int.emod_nonneg t (show (N : Int) - 1 ≠ 0 by omega)
                  have m2 := Int.emod_lt_of_pos t (show 0 < (N : Int) - 1 by omega)
                  have hpv : pz = peerV N D (t % ((N : Int) - 1)) := by rw [HPZ.out]; exact peerV_mod N D t (by omega) (by omega) (by omega) (by omega)
                  obtain ⟨Q, hQ⟩ : ∃ Q : Nat, t % ((N : Int) - 1) = (Q : Int) := ⟨(t % ((N : Int) - 1)).toNat, by omega⟩
                  rw [hQ] at e1 m2 hpv
                  obtain ⟨M, hM⟩ : ∃ M : Nat, M = Q * N := ⟨_, rfl⟩
                  have hMN : M + N ≤ P := by
                    rw [hM, HP.out]
                    have := Nat.mul_le_mul_right N (show Q + 1 ≤ N - 1 by omega)
                    rw [Nat.add_mul, Nat.one_mul] at this
                    exact this
                  obtain ⟨S, hS⟩ : ∃ S : Nat, S = M + D := ⟨_, rfl⟩
                  have hSP : S < P := by omega
                  have hw1 : IntKind.i64.wrap ((Q : Int) * (N : Int)) = (M : Int) := by rw [← Int.natCast_mul, ← hM]; exact IntWalk.i64_in _ (by omega)
                  have hw2 : IntKind.i64.wrap ((M : Int) + (D : Int)) = (S : Int) := (IntWalk.i64_in _ (by omega)).trans (by omega)
                  have cS := HY.out S hSP
                  rw [hS, hM, pairAt_at N Q D (by omega), ← hpv, ← hM, ← hS] at cS
                  dsimp only at cS
                  have hn1 : (((N : Int) - 1 == 0) : Bool) = false := by rw [beq_eq_false_iff_ne]; omega
                  clear hQ hM hS hi hpb HPB HPZ m1 hpv
                  by_cases htn : t < N
                  · obtain ⟨T, rfl⟩ : ∃ T : Nat, t = (T : Int) := ⟨t.toNat, by omega⟩
                    have hb4 : decide ((T : Int) < (N : Int)) = true := decide_eq_true htn
                    by_cases hTD : T = D
                    · exact absurd HX0.out (by omega)
                    · exact absurd HX0.out (by omega)
                  · have htb : turnB N D t = false := by unfold turnB; rw [isB_f (n := N) (k := t) (by omega), Bool.and_false, Bool.false_and]
                    obtain rfl : tb = false := by rw [HTB.out]; exact htb
                    obtain rfl : tz = 0 := by rw [HTZ.out]; exact turnV_no htb
                    have hb4 : decide (t < (N : Int)) = false := decide_eq_false htn
                    clear HX0 htb HTB HTZ
                    go_upto_region 25 with fail
                    rcases (show (r < 0) ∨ (r = 0) ∨ (1 ≤ r ∧ r < 1048576) ∨ (r = 1048576) ∨ (1048576 < r) by omega) with h | h | h | h | h
                    · have hsz := HSZ.out
                      clear HSZ
                      have e0 : min (max r 0) 1048576 = 0 := by omega
                      rw [e0, Int.mul_zero] at hsz
                      subst hsz
                      go_wp2_with (go_at_call 40; refine (CS.out _).mono ?_; rintro e w' ⟨rfl, rfl⟩)
                      go_ret
                      exact ⟨rfl, K5.out⟩
                    · have hsz := HSZ.out
                      clear HSZ
                      subst h
                      have e0 : min (max (0:Int) 0) 1048576 = 0 := by decide
                      rw [e0, Int.mul_zero] at hsz
                      subst hsz
                      go_wp2_with (go_at_call 40; refine (CS.out _).mono ?_; rintro e w' ⟨rfl, rfl⟩)
                      go_ret
                      exact ⟨rfl, K5.out⟩
                    · have hsz := HSZ.out
                      clear HSZ
                      have e0 : min (max r 0) 1048576 = r := by omega
                      rw [e0] at hsz
                      have l1 : 0 ≤ (P : Int) * r := Int.mul_nonneg (by omega) (by omega)
                      have l2 : (P : Int) * r ≤ 56 * 1048576 := Int.mul_le_mul (by omega) (by omega) (by omega) (by omega)
                      have hw : IntKind.i64.wrap ((P : Int) * r) = sz := (IntWalk.i64_in _ (by omega)).trans hsz.symm
                      obtain ⟨ha, hb⟩ := h
                      clear hsz l1 l2 e0
                      go_wp2_with (go_at_call 40; refine (CS.out _).mono ?_; rintro e w' ⟨rfl, rfl⟩)
                      go_ret
                      exact ⟨rfl, K5.out⟩
                    · have hsz := HSZ.out
                      clear HSZ
                      subst h
                      have e0 : min (max (1048576:Int) 0) 1048576 = 1048576 := by decide
                      rw [e0] at hsz
                      subst hsz
                      go_wp2_with (go_at_call 40; refine (CS.out _).mono ?_; rintro e w' ⟨rfl, rfl⟩)
                      go_ret
                      exact ⟨rfl, K5.out⟩
                    · have hsz := HSZ.out
                      clear HSZ
                      have e0 : min (max r 0) 1048576 = 1048576 := by omega
                      rw [e0] at hsz
                      subst hsz
                      clear e0
                      go_wp2_with (go_at_call 40; refine (CS.out _).mono ?_; rintro e w' ⟨rfl, rfl⟩)
                      go_ret
                      exact ⟨rfl, K5.out⟩

end Go.Proofs.Ytofbehkooklimaa
