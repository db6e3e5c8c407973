/-
  Layer 23: the walk of TimerEnds. Conditions: what numbers of these types are.
-/
import Derived.Test.YtofbehkooklimaaTimW
namespace Go.Proofs.Ytofbehkooklimaa
open Go.RowKit

/-- A timer that is asked all the time: it waits for its (f+1)-th end. -/
def tmE (n k : Int) (from' : Int) (f : Nat) : Tm := ⟨n, k, true, from' + sumZ n (f + 1), f⟩
def EnR (w : World) (n : Int) (k : Nat) (fr : Int) (B : Nat) (a b : Value) (wr : World) : Prop :=
  ∃ (i f : Nat), a = .int .i64 f ∧ b = .int .i64 i ∧ f ≤ k ∧ (i : Int) ≤ sumZ n (f + 1) ∧ Hid (TimAt wr B (tmE n k fr f)) ∧ Hid (Kp Nb w wr)
theorem sumZ_mono {e : Int} (h1 : 1 ≤ e) (h2 : e ≤ 1000) : ∀ a b : Nat, a ≤ b → sumZ e a ≤ sumZ e b := by
  intro a b h
  induction h with
  | refl => exact Int.le_refl _
  | step h ih =>
    rename_i m
    have := wait_le h1 h2 m
    show _ ≤ sumZ e m + e * timesZ m
    omega
theorem Tm.two {t : Tm} {now : Int} (h : ¬ (t.runs = false ∨ heldZ now < t.due)) (h2 : t.tries ≤ t.fired) : t.says now = 2 ∧ t.next now = t.stop := by
  unfold Tm.says Tm.next
  rw [if_neg h, if_pos h2, if_neg h, if_pos h2]
  exact ⟨rfl, rfl⟩
theorem Tm.one {t : Tm} {now : Int} (h : ¬ (t.runs = false ∨ heldZ now < t.due)) (h2 : ¬ t.tries ≤ t.fired) : t.says now = 1 ∧ t.next now = { t with fired := t.fired + 1, due := heldZ now + t.every * timesZ (t.fired + 1).toNat } := by
  unfold Tm.says Tm.next
  rw [if_neg h, if_neg h2, if_neg h, if_neg h2]
  exact ⟨rfl, rfl⟩
theorem Tm.idle {t : Tm} (now : Int) (h : t.runs = false) : t.says now = 0 ∧ t.next now = t := ⟨if_pos (.inl h), if_pos (.inl h)⟩
theorem tmE_step {n k F : Int} {f : Nat} {now : Int} (hh : heldZ now = F + sumZ n (f + 1)) : ({ tmE n k F f with fired := (tmE n k F f).fired + 1, due := heldZ now + (tmE n k F f).every * timesZ ((tmE n k F f).fired + 1).toNat } : Tm) = tmE n k F (f + 1) := by
  have e : ((f : Int) + 1).toNat = f + 1 := by omega
  unfold tmE
  dsimp only
  rw [hh, e]
  congr 1
  show F + sumZ n (f + 1) + n * timesZ (f + 1) = F + (sumZ n (f + 1) + n * timesZ (f + 1))
  omega
theorem sumZ_one (e : Int) : sumZ e 1 = e := by show 0 + e * 1 = e; omega

set_option maxRecDepth 100000 in
set_option maxHeartbeats 2000000 in
theorem ends_law (a b s : Int) (w : World) (ha : 0 ≤ a ∧ a < 256) (hb : 0 ≤ b ∧ b < 256) :
    Calls Try.prog 7 #[.int .u8 a, .int .u8 b, .int .i64 s] w fun r w' => r = .returned (.bool true) ∧ Kp Nb w w' := by
  obtain ⟨n, hn⟩ : ∃ n, n = 1 + a % 30 := ⟨_, rfl⟩
  obtain ⟨k, hk⟩ : ∃ k : Nat, (k : Int) = b % 11 := ⟨(b % 11).toNat, by omega⟩
  have hn1 : 1 ≤ n := by omega
  have hn2 : n ≤ 1000 := by omega
  have hk2 : k ≤ 10 := by omega
  have HOK : Hid (tfitsB n k = true) := tfitsB_t (by omega)
  have CN : Hid (∀ w, Calls Try.prog 23 #[.int .i64 n, .int .i64 (k : Int)] w fun r w' => r = .returned (.tuple #[.pointer (some ⟨w.heap.size, 0, none⟩), .int .i64 0]) ∧ TimAt w' w.heap.size (Tm.new n k) ∧ Kp Nb w w') := fun w => (tnew_any n k w).mono fun _ _ h => by
    rcases h with ⟨_, hr, hw⟩ | ⟨h, _⟩
    · subst hw
      exact ⟨hr, Blk.new w _ _, (Kp.refl Nb w).alloc _⟩
    · rw [HOK.out] at h; cases h
  have CL : Hid (∀ w, Calls Try.prog 33 #[.int .i64 n, .int .i64 (k : Int)] w fun r w' => r = .returned (.int .i64 (sumZ n (k + 1))) ∧ Kp Nb w w') := fun w => by
    have := long_any n k w
    rw [show longZ n k = sumZ n (k + 1) from by unfold longZ waitsN; rw [HOK.out]; rfl] at this
    exact this
  have e1 : (a.tmod 30) = a % 30 := Int.tmod_eq_emod_of_nonneg ha.1
  have e2 : (b.tmod 11) = b % 11 := Int.tmod_eq_emod_of_nonneg hb.1
  obtain ⟨F, hF⟩ : ∃ F, F = max 0 (min s 1125899906842624) := ⟨_, rfl⟩
  have hF0 : 0 ≤ F ∧ F ≤ 1125899906842624 := by omega
  have HF := hid hF
  have HF0 := hid hF0
  have HNN := hid hn
  have HKK := hid hk
  clear hF hF0 e1 e2 hn hk
  go_enter Try.func7, Try.ntmps7
  go_wp2_with fail
  refine (first23_any _).mono ?_
  rintro r w1 ⟨rfl, k1⟩
  have K1 := hid k1
  clear k1
  obtain ⟨ha0, ha1⟩ := ha
  obtain ⟨hb0, hb1⟩ := hb
  go_wp2_with fail
  rw [← HNN.out, ← HKK.out]
  refine (CN.out _).mono ?_
  rintro r w2 ⟨rfl, h2, k2⟩
  obtain ⟨B, hB⟩ : ∃ B, B = w1.heap.size := ⟨_, rfl⟩
  rw [← hB] at h2 ⊢
  have HBB : Hid (w.heap.size ≤ B) := by have := K1.out.size; unfold Hid; omega
  have H2 := hid h2
  have K2 := hid (K1.out.trans k2 (fun _ _ h => h))
  clear h2 k2 hB
  go_upto_region 7 with fail
  go_cut [11] (fun s11 wx => s11 = .int .i64 F ∧ wx = w2)
  case first =>
    rcases (show s < 0 ∨ s = 0 ∨ (1 ≤ s ∧ s ≤ 1125899906842624) ∨ 1125899906842624 < s by omega) with h | h | h | h
    · have e1 := hid (show F = 0 from by rw [HF.out]; omega)
      go_wp2
      go_meet
      exact ⟨by rw [e1.out], rfl⟩
    · subst h
      have e1 := hid (show F = 0 from by rw [HF.out]; omega)
      go_wp2
      go_meet
      exact ⟨by rw [e1.out], rfl⟩
    · obtain ⟨ha, hb⟩ := h
      have e1 := hid (show F = s from by rw [HF.out]; omega)
      go_wp2
      go_meet
      exact ⟨by rw [e1.out], rfl⟩
    · have e1 := hid (show F = 1125899906842624 from by rw [HF.out]; omega)
      go_wp2
      go_meet
      exact ⟨by rw [e1.out], rfl⟩
  case rest =>
    obtain ⟨rfl, rfl⟩ := hcut
    obtain ⟨hf0, hf1⟩ := HF0.out
    clear HF HF0 ha0 ha1 hb0 hb1 HNN HKK
    have hheld : heldZ F = F := by unfold heldZ; omega
    have HH := hid hheld
    clear hheld
    go_wp2_with fail
    refine (tstart_any B _ F _ H2.out (Tm.new_ok HOK.out)).mono ?_
    rintro r w3 ⟨rfl, h3, k3⟩
    have H3 := hid (show TimAt w3 B (tmE n k F 0) from by
      have e : (Tm.new n k).start F = tmE n k F 0 := by unfold Tm.new Tm.start tmE; rw [HH.out, sumZ_one]; rfl
      rw [← e]; exact h3)
    have K3 := hid (K2.out.trans k3 (fun i hi h => by have := HBB.out; unfold Jb at h; omega))
    have HS1 : Hid (0 ≤ sumZ n (0 + 1)) := by rw [sumZ_one]; unfold Hid; omega
    clear h3 k3
    go_wp2_with fail
    go_loopw [12, 13] (fun a b wr => EnR w n k F B a b wr) (fun _ b _ => 100000 - (intOf b).toNat)
    case atStart => exact ⟨0, 0, rfl, rfl, Nat.zero_le _, HS1.out, H3, K3⟩
    case round =>
      obtain ⟨i, f, rfl, rfl, hf, hi, HT, HK⟩ := hrel
      clear H3 K3 HS1 K2 H2
      have hm1 := sumZ_mono hn1 hn2 (f + 1) (k + 1) (by omega)
      have hm2 := sumZ_le hn1 hn2 (k + 1)
      obtain ⟨S, hS⟩ : ∃ S, S = sumZ n (k + 1) := ⟨_, rfl⟩
      have CLS : Hid (∀ w, Calls Try.prog 33 #[.int .i64 n, .int .i64 (k : Int)] w fun r w' => r = .returned (.int .i64 S) ∧ Kp Nb w w') := fun w => by rw [hS]; exact CL.out w
      obtain ⟨R, hR⟩ : ∃ R, R = sumZ n (f + 1) := ⟨_, rfl⟩
      rw [← hS] at hm1 hm2
      rw [← hR] at hi hm1
      have HSS := hid hS
      have HRR := hid hR
      clear hS hR
      go_wp2_with fail
      refine (CLS.out _).mono ?_
      rintro r w4 ⟨rfl, k4⟩
      have HT4 := hid (Blk.kept HT.out k4 (fun h => h))
      have HK4 := hid (HK.out.trans k4 (fun _ _ h => h))
      have HOKf : Hid ((tmE n k F f).Ok) := ⟨by exact hn1, by exact hn2, by show (0 : Int) ≤ (k : Int); omega, by show (k : Int) ≤ 10; omega, by show (0 : Int) ≤ (f : Int); omega, by show (f : Int) ≤ (k : Int); omega⟩
      clear k4
      have hhi : heldZ (F + (i : Int)) = F + (i : Int) := by unfold heldZ; omega
      have HHI := hid hhi
      clear hhi
      by_cases hend : (i : Int) < R
      · have HSY : Hid ((tmE n k F f).says (F + (i : Int)) = 0) := if_pos (.inr (by rw [HHI.out]; show F + (i : Int) < F + sumZ n (f + 1); rw [← HRR.out]; omega))
        have HNX : Hid ((tmE n k F f).next (F + (i : Int)) = tmE n k F f) := if_pos (.inr (by rw [HHI.out]; show F + (i : Int) < F + sumZ n (f + 1); rw [← HRR.out]; omega))
        have CT : Hid (Calls Try.prog 28 #[.pointer (some ⟨B, 0, none⟩), .int .i64 (F + (i : Int))] w4 fun r w' => r = .returned (.int .i64 0) ∧ TimAt w' B (tmE n k F f) ∧ Kp (Jb B) w4 w') := by
          have := ttick_any B _ (F + (i : Int)) w4 HT4.out HOKf.out
          rw [HSY.out, HNX.out] at this
          exact this
        go_wp2_with fail
        refine CT.out.mono ?_
        rintro r w5 ⟨rfl, h5, k5⟩
        have H5 := hid h5
        have K5 := hid (HK4.out.trans k5 (fun i hi h => by have := HBB.out; unfold Jb at h; omega))
        clear h5 k5
        go_wp2
        go_roundw
        case rel => exact ⟨i + 1, f, rfl, by go_num, hf, by rw [← HRR.out]; omega, H5, K5⟩
        case measure => simp [intOf]; omega
      · have hiR : (i : Int) = R := by omega
        have hor : ¬ ((tmE n k F f).runs = false ∨ heldZ (F + (i : Int)) < (tmE n k F f).due) := by
          rw [HHI.out]
          intro h
          rcases h with h | h
          · cases h
          · have h' : F + (i : Int) < F + sumZ n (f + 1) := h
            rw [← HRR.out] at h'
            omega
        by_cases hfk : f = k
        · obtain ⟨y1, y2⟩ := Tm.two hor (show (k : Int) ≤ (f : Int) by omega)
          have hSR : S = (i : Int) := by rw [HSS.out, hiR, HRR.out, hfk]
          have CT : Hid (Calls Try.prog 28 #[.pointer (some ⟨B, 0, none⟩), .int .i64 (F + (i : Int))] w4 fun r w' => r = .returned (.int .i64 2) ∧ TimAt w' B (tmE n k F f).stop ∧ Kp (Jb B) w4 w') := by
            have := ttick_any B _ (F + (i : Int)) w4 HT4.out HOKf.out
            rw [y1, y2] at this
            exact this
          obtain ⟨z1, z2⟩ := Tm.idle (t := (tmE n k F f).stop) (F + (i : Int)) rfl
          have CI : Hid (∀ w, TimAt w B (tmE n k F f).stop → Calls Try.prog 28 #[.pointer (some ⟨B, 0, none⟩), .int .i64 (F + (i : Int))] w fun r w' => r = .returned (.int .i64 0) ∧ TimAt w' B (tmE n k F f).stop ∧ Kp (Jb B) w w') := fun w h => by
            have := ttick_any B _ (F + (i : Int)) w h HOKf.out.stop
            rw [z1, z2] at this
            exact this
          have CFI : Hid (∀ w, TimAt w B (tmE n k F f).stop → Calls Try.prog 29 #[.pointer (some ⟨B, 0, none⟩)] w fun r w' => r = .returned (.int .i64 (f : Int)) ∧ w = w') := fun w h => tfired_any B _ w h
          clear y1 y2 z1 z2 hor hend HSS HRR
          have b1 : ((i : Int) == S) = true := by rw [beq_iff_eq]; exact hSR.symm
          have b2 : ((f : Int) == (k : Int)) = true := by rw [beq_iff_eq, hfk]
          have b3 : (f == k) = true := by rw [beq_iff_eq]; exact hfk
          have b4 : (i : Int) ≤ S := Int.le_of_eq hSR.symm
          have hi9 : (i : Int) ≤ 88000 := by omega
          clear hiR hm1 hm2 hSR hfk
          go_wp2_with fail
          refine CT.out.mono ?_
          rintro r w5 ⟨rfl, h5, k5⟩
          have H5 := hid h5
          have K5 := hid (HK4.out.trans k5 (fun i hi h => by have := HBB.out; unfold Jb at h; omega))
          clear h5 k5
          go_wp2_with fail
          refine (CLS.out _).mono ?_
          rintro r w6 ⟨rfl, k6⟩
          have H6 := hid (Blk.kept H5.out k6 (fun h => h))
          have K6 := hid (K5.out.trans k6 (fun _ _ h => h))
          clear k6
          go_wp2_with fail
          refine (CFI.out _ H6.out).mono ?_
          rintro r w' ⟨rfl, rfl⟩
          go_wp2_with fail
          refine (CI.out _ H6.out).mono ?_
          rintro r w7 ⟨rfl, h7, k7⟩
          have K7 := hid (K6.out.trans k7 (fun i hi h => by have := HBB.out; unfold Jb at h; omega))
          clear h7 k7
          go_wp2
          go_ret
          exact ⟨rfl, K7.out⟩
        · obtain ⟨y1, y2⟩ := Tm.one hor (show ¬ (k : Int) ≤ (f : Int) by omega)
          rw [tmE_step (by rw [HHI.out, hiR, HRR.out])] at y2
          have CT : Hid (Calls Try.prog 28 #[.pointer (some ⟨B, 0, none⟩), .int .i64 (F + (i : Int))] w4 fun r w' => r = .returned (.int .i64 1) ∧ TimAt w' B (tmE n k F (f + 1)) ∧ Kp (Jb B) w4 w') := by
            have := ttick_any B _ (F + (i : Int)) w4 HT4.out HOKf.out
            rw [y1, y2] at this
            exact this
          have hfin : Hid (((i + 1 : Nat) : Int) ≤ sumZ n (f + 1 + 1)) := by
            have := wait_le hn1 hn2 (f + 1)
            have e : sumZ n (f + 1 + 1) = sumZ n (f + 1) + n * timesZ (f + 1) := rfl
            rw [e, ← HRR.out]
            unfold Hid
            omega
          clear y1 y2 hor hend hiR
          go_wp2_with fail
          refine CT.out.mono ?_
          rintro r w5 ⟨rfl, h5, k5⟩
          have H5 := hid h5
          have K5 := hid (HK4.out.trans k5 (fun i hi h => by have := HBB.out; unfold Jb at h; omega))
          clear h5 k5
          go_wp2
          go_roundw
          case rel => exact ⟨i + 1, f + 1, by go_num, by go_num, by omega, hfin.out, H5, K5⟩
          case measure => simp [intOf]; omega

end Go.Proofs.Ytofbehkooklimaa
