/-
  Layer 29: the walk of PeerOnce. Condition: what an int is.
-/
import Derived.Test.YtofbehkooklimaaPeF
import Derived.StillTailTactics
namespace Go.Proofs.Ytofbehkooklimaa
open Go.RowKit

/-- How often a cell has been met after so many pairs. -/
def metN (n : Int) (j c : Nat) : Int := (((pairsTo n j).filter fun x => decide (x.1 * 8 + x.2 = (c : Int))).length : Int)
def metL (n : Int) (j : Nat) : List Value := (List.range 64).map fun c => .int .i64 (metN n j c)
theorem metL_length (n : Int) (j : Nat) : (metL n j).length = 64 := by simp [metL]
theorem metL_get (n : Int) (j c : Nat) (h : c < 64) : (metL n j)[c]? = some (.int .i64 (metN n j c)) := by
  unfold metL
  rw [List.getElem?_map, List.getElem?_range h]
  rfl
theorem metN_le (n : Int) (j c : Nat) : 0 ≤ metN n j c ∧ metN n j c ≤ j := by
  unfold metN
  have := List.length_filter_le (fun x : Int × Int => decide (x.1 * 8 + x.2 = (c : Int))) (pairsTo n j)
  rw [pairsTo_length] at this
  omega
theorem metL_zero (n : Int) : metL n 0 = List.replicate 64 (.int .i64 0) := by
  unfold metL metN pairsTo
  simp only [List.range_zero, List.map_nil, List.filter_nil, List.length_nil]
  rfl
theorem metL_succ (n : Int) (j U V : Nat) (h : pairAt n j = ((U : Int), (V : Int))) (hu : U * 8 + V < 64) : metL n (j + 1) = (metL n j).set (U * 8 + V) (.int .i64 (metN n j (U * 8 + V) + 1)) := by
  refine List.ext_getElem? fun c => ?_
  by_cases hc : c < 64
  · rw [metL_get n (j + 1) c hc, List.getElem?_set]
    have hs : metN n (j + 1) c = metN n j c + (if U * 8 + V = c then 1 else 0) := by
      unfold metN
      rw [pairsTo_succ, List.filter_append, List.length_append, h]
      by_cases he : U * 8 + V = c
      · rw [if_pos he, List.filter_cons_of_pos (by simp; omega)]
        simp
      · rw [if_neg he, List.filter_cons_of_neg (by simp; omega)]
        simp
    by_cases he : U * 8 + V = c
    · rw [if_pos he, if_pos (by rw [metL_length]; omega), hs, if_pos he, he]
    · rw [if_neg he, metL_get n j c hc, hs, if_neg he]
      simp
  · rw [List.getElem?_eq_none (by rw [metL_length]; omega), List.getElem?_eq_none (by rw [List.length_set, metL_length]; omega)]
/-- What each cell must be at the end. -/
theorem metN_end (N i k : Nat) (h2 : 2 ≤ N) (h8 : N ≤ 8) (hi : i < 8) (hk : k < 8) : metN N (pairsN N) (i * 8 + k) = if i ≠ k ∧ i < N ∧ k < N then 1 else 0 := by
  have key : ∀ N : Fin 9, 2 ≤ N.val → ∀ i : Fin 8, ∀ k : Fin 8, metN (N.val : Int) (pairsN (N.val : Int)) (i.val * 8 + k.val) = if i.val ≠ k.val ∧ i.val < N.val ∧ k.val < N.val then 1 else 0 := by decide +kernel
  exact key ⟨N, by omega⟩ h2 ⟨i, hi⟩ ⟨k, hk⟩
theorem pair_range (N j : Nat) (h2 : 2 ≤ N) (h8 : N ≤ 8) (hj : j < pairsN N) : ∃ U V : Nat, pairAt N j = ((U : Int), (V : Int)) ∧ U < 8 ∧ V < 8 ∧ U ≠ V := by
  have hb : pfitsB (N : Int) = true := pfitsB_t (by omega)
  have hP : pairsN (N : Int) = (N - 1) * N := by unfold pairsN; rw [hb]; simp
  rw [hP] at hj
  have hN : 0 < N := by omega
  have e1 := Nat.div_add_mod j N
  have e2 := Nat.mod_lt j hN
  have e3 : j / N < N - 1 := (Nat.div_lt_iff_lt_mul hN).2 hj
  have h := pairAt_at N (j / N) (j % N) e2
  rw [Nat.mul_comm (j / N) N, e1] at h
  rw [peerV_at N _ _ h2 h8 e2 e3] at h
  generalize j / N = q at h e3
  generalize j % N = r at h e2
  clear e1 hj
  split at h
  · exact ⟨_, _, h, by omega, by omega, by omega⟩
  · exact ⟨_, _, h, by omega, by omega, by omega⟩

theorem turn_of_peer (N D : Nat) (t : Int) (h2 : 2 ≤ N) (h8 : N ≤ 8) (hd : D < N) (ht : 0 ≤ t) : turnB N D (peerV N D t) = true ∧ turnV N D (peerV N D t) = t % ((N : Int) - 1) := by
  have m1 := Int.emod_nonneg t (show (N : Int) - 1 ≠ 0 by omega)
  have m2 := Int.emod_lt_of_pos t (show 0 < (N : Int) - 1 by omega)
  rw [peerV_mod N D t h2 h8 hd ht]
  obtain ⟨Q, hQ⟩ : ∃ Q : Nat, t % ((N : Int) - 1) = (Q : Int) := ⟨(t % ((N : Int) - 1)).toNat, by omega⟩
  rw [hQ] at m2 ⊢
  have hv := peerV_at N D Q h2 h8 hd (by omega)
  obtain ⟨T, hT, hT2, hne, hc⟩ : ∃ T : Nat, peerV N D Q = (T : Int) ∧ T < N ∧ D ≠ T ∧ ((D < T ∧ T - D - 1 = Q) ∨ (¬ D < T ∧ T + N - D - 1 = Q)) := by
    split at hv
    · exact ⟨_, hv, by omega, by omega, by omega⟩
    · exact ⟨_, hv, by omega, by omega, by omega⟩
  rw [hT]
  refine ⟨by unfold turnB; rw [isB_t (by omega), isB_t (by omega), decide_eq_false (by omega)]; rfl, ?_⟩
  rw [turnV_lt N D T h2 h8 hd hT2 hne]
  split <;> omega

set_option maxRecDepth 100000 in
set_option maxHeartbeats 2000000 in
theorem once_walk (n d t : Int) (w : World) :
    Calls Try.prog 10 #[.int .i64 n, .int .i64 d, .int .i64 t] w fun e w' => e = .returned (.bool true) ∧ Kp Nb w w' := by
  obtain ⟨P, hP⟩ : ∃ P : Nat, P = pairsN n := ⟨_, rfl⟩
  have hP8 : P ≤ 56 := by rw [hP]; exact pairsN_le n
  have HP := hid hP
  have CRo := hid (fun w => pround_len n 1000 P (by rw [hP]; have := pairsN_le n; omega) w)
  clear hP
  go_enter Try.func10, Try.ntmps10
  go_wp2_with fail
  refine (first29_any _).mono ?_
  rintro e w1 ⟨rfl, k1⟩
  have K1 := hid k1
  clear k1
  go_wp2_with fail
  refine (CRo.out _).mono ?_
  rintro e w2 ⟨⟨x1, c1, x2, c2, rfl, HR⟩, k2⟩
  have K2 := hid (K1.out.trans k2 (fun _ _ h => h))
  clear k2
  go_upto_region 5 with fail
  change Code.wp _ _ _ _ (w2.alloc (.cells (List.replicate 64 (.int .i64 0)).toArray 59))
  obtain ⟨w3, hw3⟩ : ∃ w3, w3 = w2.alloc (.cells (List.replicate 64 (.int .i64 0)).toArray 59) := ⟨_, rfl⟩
  have HM : Hid (Blk w3 w2.heap.size 59 (metL n 0)) := by rw [hw3, metL_zero]; exact Blk.new w2 _ _
  obtain ⟨B, hB⟩ : ∃ B, B = w2.heap.size := ⟨_, rfl⟩
  have K3 : Hid (Kp (Jb B) w2 w3) := by rw [hw3]; exact (Kp.refl _ w2).alloc _
  rw [← hw3]
  rw [← hB] at HM ⊢
  have HB := hid hB
  clear hw3 hB
  go_wp2
  go_loopw [27] (fun i wr => ∃ j : Nat, j ≤ P ∧ i = .int .i64 j ∧ Hid (Blk wr B 59 (metL n j)) ∧ Hid (Kp (Jb B) w2 wr)) (fun i _ => P - (intOf i).toNat)
  case atStart => exact ⟨0, Nat.zero_le _, rfl, HM, K3⟩
  case round =>
    clear HM K3
    obtain ⟨j, hj, rfl, HM, HK⟩ := hrel
    by_cases hlt : j < P
    · have hfit : pfitsB n = true := by
        cases hf : pfitsB n with
        | true => rfl
        | false =>
          have := HP.out
          unfold pairsN at this
          rw [hf] at this
          simp at this
          omega
      obtain ⟨n1, n2⟩ := pfitsB_spec hfit
      obtain ⟨N, rfl⟩ : ∃ N : Nat, n = (N : Int) := ⟨n.toNat, by omega⟩
      obtain ⟨U, V, hUV, hU, hV, hne⟩ := pair_range N j (by omega) (by omega) (by rw [← HP.out]; exact hlt)
      obtain ⟨b1, b2, rfl, rfl, q1, q2⟩ := HR.out j hlt
      rw [hUV] at q1 q2
      dsimp only at q1 q2
      have l1 := World.block_lt_of_cell? w2 _ q1
      have l2 := World.block_lt_of_cell? w2 _ q2
      have g1 := HK.out.cell q1 (fun h => by have := HB.out; unfold Jb at h; omega)
      have g2 := HK.out.cell q2 (fun h => by have := HB.out; unfold Jb at h; omega)
      have hm := metN_le N j (U * 8 + V)
      have cM := (HM.out.cell (U * 8 + V)).trans (metL_get N j (U * 8 + V) (by omega))
      have fM := HM.out.frozen (U * 8 + V)
      have HS := hid (metL_succ N j U V hUV (by omega))
      obtain ⟨m, hmm⟩ : ∃ m, m = metN N j (U * 8 + V) := ⟨_, rfl⟩
      rw [← hmm] at hm cM HS
      have hb1 : decide ((U : Int) < 0) = false := decide_eq_false (by omega)
      have hb2 : decide ((U : Int) > 7) = false := decide_eq_false (by omega)
      have hb3 : decide ((V : Int) < 0) = false := decide_eq_false (by omega)
      have hb4 : decide ((V : Int) > 7) = false := decide_eq_false (by omega)
      have hb5 : (((U : Int) == (V : Int)) : Bool) = false := by rw [beq_eq_false_iff_ne]; omega
      clear q1 q2 l1 l2 hUV hmm hfit
      go_wp2
      go_quiet (fail)
      go_upto_region 10 with fail
      have g1' : (wr.drewN nq).cell? ⟨b1, j, none⟩ = some (.int .i64 U) := g1
      have g2' : (wr.drewN nq).cell? ⟨b2, j, none⟩ = some (.int .i64 V) := g2
      have cM' : (wr.drewN nq).cell? ⟨B, U * 8 + V, none⟩ = some (.int .i64 m) := cM
      have fM' : (wr.drewN nq).frozen? ⟨B, U * 8 + V, none⟩ = false := fM
      have HM' : Hid (Blk (wr.drewN nq) B 59 (metL N j)) := HM.out.drewN nq
      have HK' : Hid (Kp (Jb B) w2 (wr.drewN nq)) := HK.out.drewN nq
      clear g1 g2 cM fM HM HK
      generalize wr.drewN nq = w4 at g1' g2' cM' fM' HM' HK' ⊢
      have HM2 := hid (HM'.out.set (U * 8 + V) (.int .i64 (m + 1)))
      have HK2 := hid (HK'.out.set (U * 8 + V) (.int .i64 (m + 1)))
      rw [← HS.out] at HM2
      have hU' : (U : Int) < 8 := by omega
      have hV' : (V : Int) < 8 := by omega
      go_still_tail 14, (by kernel_rfl)
      go_wp2
      go_roundw
      case rel => exact ⟨j + 1, by omega, by go_num, HM2.out.drew, HK2.out.drew⟩
      case measure => simp [intOf]; omega
    · obtain rfl : j = P := by omega
      clear hlt hj HR CRo
      go_upto_region 12 with fail
      go_wp2_with fail
      go_loopw [82] (fun i wx => ∃ a : Nat, a ≤ 8 ∧ i = .int .i64 a ∧ Hid (wx = wr)) (fun i _ => 8 - (intOf i).toNat)
      case atStart => exact ⟨0, by omega, rfl, rfl⟩
      case round =>
        obtain ⟨a, ha, rfl, HE⟩ := hrel
        obtain rfl := HE.out
        clear HE
        by_cases hlta : a < 8
        · have hda : decide ((a : Int) < 8) = true := decide_eq_true (by omega)
          have HA := hid hlta
          go_wp2_with fail
          go_loopw [85] (fun i wx => ∃ b : Nat, b ≤ 8 ∧ i = .int .i64 b ∧ Hid (wx = wr)) (fun i _ => 8 - (intOf i).toNat)
          case atStart => exact ⟨0, by omega, rfl, rfl⟩
          case round =>
            obtain ⟨b, hb, rfl, HE⟩ := hrel
            obtain rfl := HE.out
            clear HE
            by_cases hltb : b < 8
            · have hdb : decide ((b : Int) < 8) = true := decide_eq_true (by omega)
              have HBB := hid hltb
              have ha' : (a : Int) < 8 := by omega
              have hb' : (b : Int) < 8 := by omega
              have cM := (HM.out.cell (a * 8 + b)).trans (metL_get n j (a * 8 + b) (by omega))
              cases hf : pfitsB n with
              | false =>
                have CF : Hid (∀ w, Calls Try.prog 39 #[.int .i64 n] w fun e w' => e = .returned (.bool false) ∧ w = w') := fun w => by
                  have := pfits_any n w
                  rw [hf] at this
                  exact this
                have hj0 : j = 0 := by rw [HP.out]; unfold pairsN; rw [hf]; rfl
                rw [show metN n j (a * 8 + b) = 0 from by have := metN_le n j (a * 8 + b); omega] at cM
                clear hf hj0
                go_wp2_with (go_at_call 39; refine (CF.out _).mono ?_; rintro e w' ⟨rfl, rfl⟩)
                go_roundw
                case rel => exact ⟨b + 1, by have := HBB.out; omega, by go_num, trivial⟩
                case measure => have := HBB.out; simp [intOf]; omega
              | true =>
                obtain ⟨n1, n2⟩ := pfitsB_spec hf
                obtain ⟨N, rfl⟩ : ∃ N : Nat, n = (N : Int) := ⟨n.toNat, by omega⟩
                have CF : Hid (∀ w, Calls Try.prog 39 #[.int .i64 N] w fun e w' => e = .returned (.bool true) ∧ w = w') := fun w => by
                  have := pfits_any N w
                  rw [hf] at this
                  exact this
                rw [HP.out, metN_end N a b (by omega) (by omega) hlta hltb] at cM
                clear hf
                by_cases hab : a = b
                · subst hab
                  rw [if_neg (by omega)] at cM
                  have he : (((a : Int) != (a : Int)) : Bool) = false := by simp
                  go_wp2_with (go_at_call 39; refine (CF.out _).mono ?_; rintro e w' ⟨rfl, rfl⟩)
                  go_roundw
                  case rel => exact ⟨a + 1, by have := HBB.out; omega, by go_num, trivial⟩
                  case measure => have := HBB.out; simp [intOf]; omega
                · have he : (((a : Int) != (b : Int)) : Bool) = true := by rw [bne_iff_ne]; omega
                  by_cases haN : a < N
                  · have hd1 : decide ((a : Int) < (N : Int)) = true := decide_eq_true (by omega)
                    by_cases hbN : b < N
                    · have hd2 : decide ((b : Int) < (N : Int)) = true := decide_eq_true (by omega)
                      rw [if_pos ⟨hab, haN, hbN⟩] at cM
                      go_wp2_with (go_at_call 39; refine (CF.out _).mono ?_; rintro e w' ⟨rfl, rfl⟩)
                      go_roundw
                      case rel => exact ⟨b + 1, by have := HBB.out; omega, by go_num, trivial⟩
                      case measure => have := HBB.out; simp [intOf]; omega
                    · have hd2 : decide ((b : Int) < (N : Int)) = false := decide_eq_false (by omega)
                      rw [if_neg (by omega)] at cM
                      go_wp2_with (go_at_call 39; refine (CF.out _).mono ?_; rintro e w' ⟨rfl, rfl⟩)
                      go_roundw
                      case rel => exact ⟨b + 1, by have := HBB.out; omega, by go_num, trivial⟩
                      case measure => have := HBB.out; simp [intOf]; omega
                  · have hd1 : decide ((a : Int) < (N : Int)) = false := decide_eq_false (by omega)
                    rw [if_neg (by omega)] at cM
                    go_wp2_with (go_at_call 39; refine (CF.out _).mono ?_; rintro e w' ⟨rfl, rfl⟩)
                    go_roundw
                    case rel => exact ⟨b + 1, by have := HBB.out; omega, by go_num, trivial⟩
                    case measure => have := HBB.out; simp [intOf]; omega
            · obtain rfl : b = 8 := by omega
              go_wp2
              go_roundw
              case rel => exact ⟨a + 1, by have := HA.out; omega, by go_num, trivial⟩
              case measure => have := HA.out; simp [intOf]; omega
        · obtain rfl : a = 8 := by omega
          have HKF := hid (K2.out.trans HK.out (fun i hi h => by have := HB.out; have := K2.out.size; unfold Jb at h; omega))
          clear HM HK
          cases hpb : peerB n d t with
          | false =>
            have CP : Hid (∀ w, Calls Try.prog 37 #[.int .i64 n, .int .i64 d, .int .i64 t] w fun e w' => e = .returned (.tuple #[.int .i64 0, .bool false]) ∧ w = w') := fun w => by
              have := peer_any n d t w
              rw [peerV_no hpb, hpb] at this
              exact this
            clear hpb
            go_wp2_with (go_at_call 37; refine (CP.out _).mono ?_; rintro e w' ⟨rfl, rfl⟩)
            go_ret
            exact ⟨rfl, HKF.out⟩
          | true =>
            have hi : isB n d = true := by
              cases h : isB n d with
              | true => rfl
              | false => rw [peerB_out h] at hpb; cases hpb
            have ht : 0 ≤ t := by
              by_cases h : 0 ≤ t
              · exact h
              · rw [peerB_neg h] at hpb; cases hpb
            obtain ⟨⟨n1, n2⟩, d1, d2⟩ := isB_spec hi
            obtain ⟨N, rfl⟩ : ∃ N : Nat, n = (N : Int) := ⟨n.toNat, by omega⟩
            obtain ⟨D, rfl⟩ : ∃ D : Nat, d = (D : Int) := ⟨d.toNat, by omega⟩
            obtain ⟨ta, tb⟩ := turn_of_peer N D t (by omega) (by omega) (by omega) ht
            obtain ⟨pz, hpz⟩ : ∃ z, z = peerV N D t := ⟨_, rfl⟩
            rw [← hpz] at ta tb
            have e1 : t.tmod ((N : Int) - 1) = t % ((N : Int) - 1) := Int.tmod_eq_emod_of_nonneg ht
            obtain ⟨q, hq⟩ : ∃ q, q = t % ((N : Int) - 1) := ⟨_, rfl⟩
            rw [← hq] at e1 tb
            have hn1 : (((N : Int) - 1 == 0) : Bool) = false := by rw [beq_eq_false_iff_ne]; omega
            have CP : Hid (∀ w, Calls Try.prog 37 #[.int .i64 N, .int .i64 D, .int .i64 t] w fun e w' => e = .returned (.tuple #[.int .i64 pz, .bool true]) ∧ w = w') := fun w => by
              have := peer_any N D t w
              rw [← hpz, hpb] at this
              exact this
            have CT : Hid (∀ w, Calls Try.prog 38 #[.int .i64 N, .int .i64 D, .int .i64 pz] w fun e w' => e = .returned (.tuple #[.int .i64 q, .bool true]) ∧ w = w') := fun w => by
              have := turn_any N D pz w
              rw [ta, tb] at this
              exact this
            clear hpb hi ta tb hpz hq HP
            go_wp2_with (first
              | (go_at_call 37; refine (CP.out _).mono ?_; rintro e w' ⟨rfl, rfl⟩)
              | (go_at_call 38; refine (CT.out _).mono ?_; rintro e w' ⟨rfl, rfl⟩))
            go_ret
            exact ⟨rfl, HKF.out⟩

end Go.Proofs.Ytofbehkooklimaa
