/-
  Layer 34: the walks of first and of BoundGrows. Condition: what an int is.
-/
import Derived.Test.YtofjkaemakdmeaaBndB
import Derived.Test.YtofjkaemakdmeaaVals
namespace Go.Proofs.Ytofjkaemakdmeaa
open Go.RowKit

theorem right_p : rightB 5 1 0 9 = true := by kernel_rfl
theorem right_q : rightB 5 1 1 9 = true := by kernel_rfl
set_option maxRecDepth 100000 in
set_option maxHeartbeats 2000000 in
theorem bfirst_any (w : World) : Calls Try.prog 29 #[] w fun x w' => x = .returned (.bool true) ∧ Kp Nb w w' := by
  have sz : sizesOk 0 0 := by unfold sizesOk; omega
  have sy : sizesOk 3 2 := by unfold sizesOk; omega
  have C1 : Hid (∀ w, Calls Try.prog 31 #[plan 5 1 0 9, .int .i64 0, .int .i64 0] w fun x w' => x = .returned (.int .i64 2) ∧ Kp Nb w w') := hid (fun w => by have h := req_yes 5 1 0 9 0 0 w right_p sz; rw [show reqZ 0 0 0 = 2 by decide] at h; exact h)
  have C2 : Hid (∀ w, Calls Try.prog 31 #[plan 5 1 1 9, .int .i64 3, .int .i64 2] w fun x w' => x = .returned (.int .i64 49) ∧ Kp Nb w w') := hid (fun w => by have h := req_yes 5 1 1 9 3 2 w right_q sy; rw [show reqZ 1 3 2 = 49 by decide] at h; exact h)
  have C3 : Hid (∀ w, Calls Try.prog 32 #[plan 5 1 0 9, .int .i64 0, .int .i64 0] w fun x w' => x = .returned (.int .i64 5) ∧ Kp Nb w w') := hid (fun w => by have h := frm_yes 5 1 0 9 0 0 w right_p sz; rw [show frmZ 1 0 0 0 = 5 by decide] at h; exact h)
  have C4 : Hid (∀ w, Calls Try.prog 33 #[plan 5 1 0 9, .int .i64 0, .int .i64 0] w fun x w' => x = .returned (.int .i64 30) ∧ Kp Nb w w') := hid (fun w => by have h := tck_yes 5 1 0 9 0 0 w right_p sz; rw [show tckZ 5 1 0 0 0 = 30 by kernel_rfl] at h; exact h)
  have C5 : Hid (∀ w, Calls Try.prog 34 #[plan 5 1 0 9, .int .i64 0, .int .i64 0] w fun x w' => x = .returned (.int .i64 284) ∧ Kp Nb w w') := hid (fun w => by have h := ovh_yes 5 1 0 9 0 0 w right_p sz; rw [show ovhZ 0 0 0 = 284 by decide] at h; exact h)
  have C8 : Hid (∀ w, Calls Try.prog 31 #[plan 5 1 0 9, .int .i64 (-1), .int .i64 0] w fun x w' => x = .returned (.int .i64 0) ∧ Kp Nb w w') := hid (fun w => req_no 5 1 0 9 (-1) 0 w right_p (by decide))
  have HA : Hid (PlanAt (w.alloc (.cells #[.int .i64 5, .int .i64 1, .int .i64 0, .int .i64 9] 60)) w.heap.size 5 1 0 9) := hid (Blk.new w 60 [.int .i64 5, .int .i64 1, .int .i64 0, .int .i64 9])
  have HA1 := hid (HA.out.kept ((Kp.refl Nb _).alloc (.cells #[.int .i64 5, .int .i64 1, .int .i64 1, .int .i64 9] 60)))
  have HB1 : Hid (PlanAt ((w.alloc (.cells #[.int .i64 5, .int .i64 1, .int .i64 0, .int .i64 9] 60)).alloc (.cells #[.int .i64 5, .int .i64 1, .int .i64 1, .int .i64 9] 60)) (w.heap.size + 1) 5 1 1 9) := hid (by
    have h := Blk.new (w.alloc (.cells #[.int .i64 5, .int .i64 1, .int .i64 0, .int .i64 9] 60)) 60 [.int .i64 5, .int .i64 1, .int .i64 1, .int .i64 9]
    rw [World.size_alloc] at h
    exact h)
  have K1 := hid (((Kp.refl Nb w).alloc (.cells #[.int .i64 5, .int .i64 1, .int .i64 0, .int .i64 9] 60)).alloc (.cells #[.int .i64 5, .int .i64 1, .int .i64 1, .int .i64 9] 60))
  clear sz sy HA
  go_enter Try.func29, Try.ntmps29
  go_wp2_with fail
  refine (C1.out _).mono ?_
  rintro y v1 ⟨rfl, kk⟩
  have HA2 := hid (HA1.out.kept kk)
  have HB2 := hid (HB1.out.kept kk)
  have K2 := hid (K1.out.trans kk (fun _ _ h => h))
  obtain ⟨a0, a1, a2, a3⟩ := HA2.out.cells
  obtain ⟨b0, b1, b2, b3⟩ := HB2.out.cells
  clear kk HA1 HB1 K1
  go_wp2_with fail
  clear a0 a1 a2 a3 b0 b1 b2 b3
  refine (C2.out _).mono ?_
  rintro y v2 ⟨rfl, kk⟩
  have HA3 := hid (HA2.out.kept kk)
  have HB3 := hid (HB2.out.kept kk)
  have K3 := hid (K2.out.trans kk (fun _ _ h => h))
  obtain ⟨a0, a1, a2, a3⟩ := HA3.out.cells
  obtain ⟨b0, b1, b2, b3⟩ := HB3.out.cells
  clear kk HA2 HB2 K2
  go_wp2_with fail
  clear a0 a1 a2 a3 b0 b1 b2 b3
  refine (C3.out _).mono ?_
  rintro y v3 ⟨rfl, kk⟩
  have HA4 := hid (HA3.out.kept kk)
  have HB4 := hid (HB3.out.kept kk)
  have K4 := hid (K3.out.trans kk (fun _ _ h => h))
  obtain ⟨a0, a1, a2, a3⟩ := HA4.out.cells
  obtain ⟨b0, b1, b2, b3⟩ := HB4.out.cells
  clear kk HA3 HB3 K3
  go_wp2_with fail
  clear a0 a1 a2 a3 b0 b1 b2 b3
  refine (C4.out _).mono ?_
  rintro y v4 ⟨rfl, kk⟩
  have HA5 := hid (HA4.out.kept kk)
  have HB5 := hid (HB4.out.kept kk)
  have K5 := hid (K4.out.trans kk (fun _ _ h => h))
  obtain ⟨a0, a1, a2, a3⟩ := HA5.out.cells
  obtain ⟨b0, b1, b2, b3⟩ := HB5.out.cells
  clear kk HA4 HB4 K4
  go_wp2_with fail
  clear a0 a1 a2 a3 b0 b1 b2 b3
  refine (C5.out _).mono ?_
  rintro y v5 ⟨rfl, kk⟩
  have HA6 := hid (HA5.out.kept kk)
  have HB6 := hid (HB5.out.kept kk)
  have K6 := hid (K5.out.trans kk (fun _ _ h => h))
  obtain ⟨a0, a1, a2, a3⟩ := HA6.out.cells
  obtain ⟨b0, b1, b2, b3⟩ := HB6.out.cells
  clear kk HA5 HB5 K5
  go_wp2_with fail
  clear a0 a1 a2 a3 b0 b1 b2 b3
  refine (payload_none _).mono ?_
  rintro y v ⟨rfl, rfl⟩
  go_wp2_with fail
  refine (steps_six _).mono ?_
  rintro y v ⟨rfl, rfl⟩
  obtain ⟨a0, a1, a2, a3⟩ := HA6.out.cells
  go_wp2_with fail
  clear a0 a1 a2 a3
  refine (C8.out _).mono ?_
  rintro y v9 ⟨rfl, kk⟩
  have K9 := hid (K6.out.trans kk (fun _ _ h => h))
  clear kk
  go_wp2
  go_ret
  exact ⟨rfl, K9.out⟩

theorem reqZ_n (r n k : Int) : reqZ r n k < reqZ r (n + 1) k := by unfold reqZ; omega
theorem reqZ_k (r n k : Int) : reqZ r n k < reqZ r n (k + 1) := by unfold reqZ; omega
theorem ovhZ_n (r n k : Int) : ovhZ r n k < ovhZ r (n + 1) k := by unfold ovhZ; omega
theorem ovhZ_k (r n k : Int) : ovhZ r n k < ovhZ r n (k + 1) := by unfold ovhZ; omega
theorem frmZ_k {t : Int} (r n k : Int) (t0 : 0 ≤ t) : frmZ t r n k < frmZ t r n (k + 1) := by
  have h := Int.mul_lt_mul_of_pos_right (reqZ_k r n k) (show 0 < t + 1 by omega)
  unfold frmZ
  omega
theorem req_frm {t r n k : Int} (t0 : 0 ≤ t) (h : 0 ≤ reqZ r n k) : reqZ r n k ≤ frmZ t r n k := by
  have h := Int.mul_le_mul_of_nonneg_left (show 1 ≤ t + 1 by omega) h
  unfold frmZ
  omega
theorem tckZ_n {e t : Int} (r n k : Int) (h : 1 ≤ longZ e t) : tckZ e t r n k < tckZ e t r (n + 1) k := by
  have h := Int.mul_lt_mul_of_pos_right (reqZ_n r n k) (show 0 < longZ e t by omega)
  exact h
theorem req_tck {e t r n k : Int} (h1 : 1 ≤ longZ e t) (h : 0 ≤ reqZ r n k) : reqZ r n k ≤ tckZ e t r n k := by
  have h := Int.mul_le_mul_of_nonneg_left h1 h
  unfold tckZ
  omega

set_option maxRecDepth 100000 in
set_option maxHeartbeats 4000000 in
theorem grows_walk (e t r i n k : Int) (l : Value) (w : World) :
    Calls Try.prog 7 #[.agg #[.int .i64 e, .int .i64 t, .int .i64 r, .int .i64 i, .int .i64 n, .int .i64 k, l]] w fun x w' => x = .returned (.bool true) ∧ Kp Nb w w' := by
  have K0 := hid ((Kp.refl Nb w).alloc (.cells #[.int .i64 e, .int .i64 t, .int .i64 r, .int .i64 i, .int .i64 n, .int .i64 k, l] 63))
  have HC := hid (Blk.new w 63 [.int .i64 e, .int .i64 t, .int .i64 r, .int .i64 i, .int .i64 n, .int .i64 k, l])
  go_enter Try.func7, Try.ntmps7
  go_wp2_with fail
  refine (bfirst_any _).mono ?_
  rintro y w1 ⟨rfl, kk⟩
  have hb := HC.out.kept kk (fun h => h)
  have c0 : w1.cell? ⟨w.heap.size, 0, none⟩ = some (.int .i64 e) := hb.cell 0
  have c1 : w1.cell? ⟨w.heap.size, 1, none⟩ = some (.int .i64 t) := hb.cell 1
  have c2 : w1.cell? ⟨w.heap.size, 2, none⟩ = some (.int .i64 r) := hb.cell 2
  have c3 : w1.cell? ⟨w.heap.size, 3, none⟩ = some (.int .i64 i) := hb.cell 3
  have c4 : w1.cell? ⟨w.heap.size, 4, none⟩ = some (.int .i64 n) := hb.cell 4
  have c5 : w1.cell? ⟨w.heap.size, 5, none⟩ = some (.int .i64 k) := hb.cell 5
  have K1 := hid (K0.out.trans kk (fun _ _ h => h))
  clear kk hb
  go_wp2
  go_region_held3 (fun w' => w'.cell? ⟨w.heap.size, 0, none⟩ = some (.int .i64 e) ∧ w'.cell? ⟨w.heap.size, 1, none⟩ = some (.int .i64 t) ∧ w'.cell? ⟨w.heap.size, 2, none⟩ = some (.int .i64 r) ∧ w'.cell? ⟨w.heap.size, 3, none⟩ = some (.int .i64 i) ∧ w'.cell? ⟨w.heap.size, 4, none⟩ = some (.int .i64 n) ∧ w'.cell? ⟨w.heap.size, 5, none⟩ = some (.int .i64 k))
    (go_keep)
    (fail)
  have HP1 : Hid (PlanAt (w1.alloc (.cells #[.int .i64 e, .int .i64 t, .int .i64 r, .int .i64 i] 60)).drew w1.heap.size e t r i) := hid (Blk.new w1 60 [.int .i64 e, .int .i64 t, .int .i64 r, .int .i64 i])
  have K2 := hid ((K1.out.alloc (.cells #[.int .i64 e, .int .i64 t, .int .i64 r, .int .i64 i] 60)).drew)
  obtain ⟨W, hW⟩ : ∃ W, W = (w1.alloc (.cells #[.int .i64 e, .int .i64 t, .int .i64 r, .int .i64 i] 60)).drew := ⟨_, rfl⟩
  obtain ⟨B, hB⟩ : ∃ B, B = w1.heap.size := ⟨_, rfl⟩
  rw [← hW] at HP1 K2 ⊢
  rw [← hB] at HP1 ⊢
  clear hW hB c0 c1 c2 c3 c4 c5 K0 K1 HC
  obtain ⟨c0, c1, c2, c3⟩ := HP1.out.cells
  cases hr : rightB e t r i with
  | false =>
    have CR : Hid (∀ w, Calls Try.prog 30 #[plan e t r i] w fun x w' => x = .returned (.bool false) ∧ Kp Nb w w') := hid (fun w => by rw [← hr]; exact lright_any e t r i w)
    clear hr
    go_wp2_with fail
    refine (CR.out _).mono ?_
    rintro y w3 ⟨rfl, kk⟩
    have K3 := hid (K2.out.trans kk (fun _ _ h => h))
    clear kk
    go_wp2
    go_ret
    exact ⟨rfl, K3.out⟩
  | true =>
    have CR : Hid (∀ w, Calls Try.prog 30 #[plan e t r i] w fun x w' => x = .returned (.bool true) ∧ Kp Nb w w') := hid (fun w => by rw [← hr]; exact lright_any e t r i w)
    have HR := hid hr
    clear hr
    by_cases hs : 0 ≤ n ∧ n ≤ 4095 ∧ 0 ≤ k ∧ k ≤ 4095
    · have hsp := rightB_spec HR.out
      have hlo := longZ_le (rightB_tf HR.out)
      have s0 : sizesOk n k := by unfold sizesOk; omega
      have s1 : sizesOk (n + 1) k := by unfold sizesOk; omega
      have s2 : sizesOk n (k + 1) := by unfold sizesOk; omega
      have q0 := (reqZ_le hsp.2.1 hsp.2.2 s0).1
      have l1 := reqZ_n r n k
      have l2 := reqZ_k r n k
      have l3 := frmZ_k (t := t) r n k hsp.1.2.2.1
      have l4 := tckZ_n (e := e) (t := t) r n k hlo.1
      have l5 := ovhZ_n r n k
      have l6 := ovhZ_k r n k
      have l7 := req_frm (t := t) (r := r) (n := n) (k := k) hsp.1.2.2.1 (by omega)
      have l8 := req_tck (e := e) (t := t) (r := r) (n := n) (k := k) hlo.1 (by omega)
      have CQ : Hid (∀ w, Calls Try.prog 31 #[plan e t r i, .int .i64 n, .int .i64 k] w fun x w' => x = .returned (.int .i64 (reqZ r n k)) ∧ Kp Nb w w') := hid (fun w => req_yes e t r i n k w HR.out s0)
      have CQ1 : Hid (∀ w, Calls Try.prog 31 #[plan e t r i, .int .i64 (n + 1), .int .i64 k] w fun x w' => x = .returned (.int .i64 (reqZ r (n + 1) k)) ∧ Kp Nb w w') := hid (fun w => req_yes e t r i (n + 1) k w HR.out s1)
      have CQ2 : Hid (∀ w, Calls Try.prog 31 #[plan e t r i, .int .i64 n, .int .i64 (k + 1)] w fun x w' => x = .returned (.int .i64 (reqZ r n (k + 1))) ∧ Kp Nb w w') := hid (fun w => req_yes e t r i n (k + 1) w HR.out s2)
      have CF : Hid (∀ w, Calls Try.prog 32 #[plan e t r i, .int .i64 n, .int .i64 k] w fun x w' => x = .returned (.int .i64 (frmZ t r n k)) ∧ Kp Nb w w') := hid (fun w => frm_yes e t r i n k w HR.out s0)
      have CF2 : Hid (∀ w, Calls Try.prog 32 #[plan e t r i, .int .i64 n, .int .i64 (k + 1)] w fun x w' => x = .returned (.int .i64 (frmZ t r n (k + 1))) ∧ Kp Nb w w') := hid (fun w => frm_yes e t r i n (k + 1) w HR.out s2)
      have CT : Hid (∀ w, Calls Try.prog 33 #[plan e t r i, .int .i64 n, .int .i64 k] w fun x w' => x = .returned (.int .i64 (tckZ e t r n k)) ∧ Kp Nb w w') := hid (fun w => tck_yes e t r i n k w HR.out s0)
      have CT1 : Hid (∀ w, Calls Try.prog 33 #[plan e t r i, .int .i64 (n + 1), .int .i64 k] w fun x w' => x = .returned (.int .i64 (tckZ e t r (n + 1) k)) ∧ Kp Nb w w') := hid (fun w => tck_yes e t r i (n + 1) k w HR.out s1)
      have CO : Hid (∀ w, Calls Try.prog 34 #[plan e t r i, .int .i64 n, .int .i64 k] w fun x w' => x = .returned (.int .i64 (ovhZ r n k)) ∧ Kp Nb w w') := hid (fun w => ovh_yes e t r i n k w HR.out s0)
      have CO1 : Hid (∀ w, Calls Try.prog 34 #[plan e t r i, .int .i64 (n + 1), .int .i64 k] w fun x w' => x = .returned (.int .i64 (ovhZ r (n + 1) k)) ∧ Kp Nb w w') := hid (fun w => ovh_yes e t r i (n + 1) k w HR.out s1)
      have CO2 : Hid (∀ w, Calls Try.prog 34 #[plan e t r i, .int .i64 n, .int .i64 (k + 1)] w fun x w' => x = .returned (.int .i64 (ovhZ r n (k + 1))) ∧ Kp Nb w w') := hid (fun w => ovh_yes e t r i n (k + 1) w HR.out s2)
      obtain ⟨q, hq⟩ : ∃ q, reqZ r n k = q := ⟨_, rfl⟩
      obtain ⟨q1, hq1⟩ : ∃ q, reqZ r (n + 1) k = q := ⟨_, rfl⟩
      obtain ⟨q2, hq2⟩ : ∃ q, reqZ r n (k + 1) = q := ⟨_, rfl⟩
      obtain ⟨f, hf⟩ : ∃ q, frmZ t r n k = q := ⟨_, rfl⟩
      obtain ⟨f2, hf2⟩ : ∃ q, frmZ t r n (k + 1) = q := ⟨_, rfl⟩
      obtain ⟨c, hc⟩ : ∃ q, tckZ e t r n k = q := ⟨_, rfl⟩
      obtain ⟨d, hd⟩ : ∃ q, tckZ e t r (n + 1) k = q := ⟨_, rfl⟩
      obtain ⟨o, ho⟩ : ∃ q, ovhZ r n k = q := ⟨_, rfl⟩
      obtain ⟨o1, ho1⟩ : ∃ q, ovhZ r (n + 1) k = q := ⟨_, rfl⟩
      obtain ⟨o2, ho2⟩ : ∃ q, ovhZ r n (k + 1) = q := ⟨_, rfl⟩
      rw [hq] at CQ l1 l2 l7 l8
      rw [hq1] at CQ1 l1
      rw [hq2] at CQ2 l2
      rw [hf] at CF l3 l7
      rw [hf2] at CF2 l3
      rw [hc] at CT l4 l8
      rw [hd] at CT1 l4
      rw [ho] at CO l5 l6
      rw [ho1] at CO1 l5
      rw [ho2] at CO2 l6
      obtain ⟨n0, n1, k0, k1⟩ := hs
      clear hq hq1 hq2 hf hf2 hc hd ho ho1 ho2 hsp hlo s0 s1 s2 q0 HR
      have d1 : decide (n < 0) = false := decide_eq_false (by omega)
      have d2 : decide (4095 < n) = false := decide_eq_false (by omega)
      have d3 : decide (k < 0) = false := decide_eq_false (by omega)
      have d4 : decide (4095 < k) = false := decide_eq_false (by omega)
      have e1 : decide (q < q1) = true := decide_eq_true l1
      have e2 : decide (q < q2) = true := decide_eq_true l2
      have e3 : decide (f < f2) = true := decide_eq_true l3
      have e4 : decide (c < d) = true := decide_eq_true l4
      have e5 : decide (o < o1) = true := decide_eq_true l5
      have e6 : decide (o < o2) = true := decide_eq_true l6
      have e7 : decide (q ≤ f) = true := decide_eq_true l7
      have e8 : decide (q ≤ c) = true := decide_eq_true l8
      have x1 : IntKind.i64.wrap (n + 1) = n + 1 := IntWalk.i64_in _ (by omega)
      have x2 : IntKind.i64.wrap (k + 1) = k + 1 := IntWalk.i64_in _ (by omega)
      clear l1 l2 l3 l4 l5 l6 l7 l8
      go_wp2_with fail
      refine (CR.out _).mono ?_
      rintro y v0 ⟨rfl, kk⟩
      have HP2 := hid (HP1.out.kept kk)
      have K3 := hid (K2.out.trans kk (fun _ _ h => h))
      have hkp0 : Hid (Kp Nb v0 v0.drew) := hid ((Kp.refl Nb v0).drew)
      clear c0 c1 c2 c3 kk HP1
      obtain ⟨c0, c1, c2, c3⟩ := HP2.out.cells
      go_wp2_with fail
      simp only [List.append_eq, List.cons_append, List.nil_append]
      refine region_vals2 [none, none, some 92, none, none, none, none, none, none, none, none, none, none, none, none, none, none, none, none, none, none, none, none, none, none, none, none, none, none, none, none, none, none, some 0, some 1, some 2, some 3, some 4, some 5, some 6, some 7, some 8, some 9, some 10, some 11, some 12, some 13, some 14, some 15, some 16, some 17, some 18, some 19, some 20, some 21, some 22, some 23, some 24, some 25, some 26, some 27, some 28, some 29, some 30, some 31, some 32, some 33, some 34, some 35, some 36, some 37, some 38, some 39, some 40, some 41, some 42, some 43, some 44, some 45, some 46, some 47, some 48, some 49, some 50, some 51, some 52, some 53, some 54, some 55, some 56, some 57, some 58, some 59, some 60, some 61, some 62, some 63, some 64, some 65, some 66, some 67, some 68, some 69, some 70, some 71, some 72, some 73, some 74, some 75, some 76, some 77, some 78, some 79, some 80, some 81, some 82, some 83, some 84, some 85, some 86, some 87, some 88, some 89, some 90, some 91] [[(3, none)], [(4, none)], [(5, none)], [(33, some 0), (34, some 1), (35, some 2)], [(3, none)], [(4, none)], [(38, some 5)], [(5, none)], [(37, some 4), (39, some 6), (40, some 7)], [(36, some 3), (41, some 8)], [(42, some 9)], [(3, none)], [(4, none)], [(5, none)], [(44, some 11), (45, some 12), (46, some 13)], [(3, none)], [(4, none)], [(5, none)], [(50, some 17)], [(48, some 15), (49, some 16), (51, some 18)], [(47, some 14), (52, some 19)], [(43, some 10), (53, some 20)], [(54, some 21)], [(3, none)], [(4, none)], [(5, none)], [(56, some 23), (57, some 24), (58, some 25)], [(3, none)], [(4, none)], [(5, none)], [(62, some 29)], [(60, some 27), (61, some 28), (63, some 30)], [(59, some 26), (64, some 31)], [(55, some 22), (65, some 32)], [(66, some 33)], [(3, none)], [(4, none)], [(5, none)], [(68, some 35), (69, some 36), (70, some 37)], [(3, none)], [(4, none)], [(73, some 40)], [(5, none)], [(72, some 39), (74, some 41), (75, some 42)], [(71, some 38), (76, some 43)], [(67, some 34), (77, some 44)], [(78, some 45)], [(3, none)], [(4, none)], [(5, none)], [(80, some 47), (81, some 48), (82, some 49)], [(3, none)], [(4, none)], [(85, some 52)], [(5, none)], [(84, some 51), (86, some 53), (87, some 54)], [(83, some 50), (88, some 55)], [(79, some 46), (89, some 56)], [(90, some 57)], [(3, none)], [(4, none)], [(5, none)], [(92, some 59), (93, some 60), (94, some 61)], [(3, none)], [(4, none)], [(5, none)], [(98, some 65)], [(96, some 63), (97, some 64), (99, some 66)], [(95, some 62), (100, some 67)], [(91, some 58), (101, some 68)], [(102, some 69)], [(3, none)], [(4, none)], [(5, none)], [(104, some 71), (105, some 72), (106, some 73)], [(3, none)], [(4, none)], [(5, none)], [(108, some 75), (109, some 76), (110, some 77)], [(107, some 74), (111, some 78)], [(103, some 70), (112, some 79)], [(113, some 80)], [(3, none)], [(4, none)], [(5, none)], [(115, some 82), (116, some 83), (117, some 84)], [(3, none)], [(4, none)], [(5, none)], [(119, some 86), (120, some 87), (121, some 88)], [(118, some 85), (122, some 89)], [(114, some 81), (123, some 90)], [(124, some 91)]] [some 33, some 34, some 35, some 36, some 37, some 38, some 39, some 40, some 41, some 42, some 43, some 44, some 45, some 46, some 47, some 48, some 49, some 50, some 51, some 52, some 53, some 54, some 55, some 56, some 57, some 58, some 59, some 60, some 61, some 62, some 63, some 64, some 65, some 66, some 67, some 68, some 69, some 70, some 71, some 72, some 73, some 74, some 75, some 76, some 77, some 78, some 79, some 80, some 81, some 82, some 83, some 84, some 85, some 86, some 87, some 88, some 89, some 90, some 91, some 92, some 93, some 94, some 95, some 96, some 97, some 98, some 99, some 100, some 101, some 102, some 103, some 104, some 105, some 106, some 107, some 108, some 109, some 110, some 111, some 112, some 113, some 114, some 115, some 116, some 117, some 118, some 119, some 120, some 121, some 122, some 123, some 124, some 2] [plan e t r i, .int .i64 n, .int .i64 k, .int .i64 q, plan e t r i, .int .i64 n, .int .i64 (n + 1), .int .i64 k, .int .i64 q1, .bool true, .bool true, plan e t r i, .int .i64 n, .int .i64 k, .int .i64 q, plan e t r i, .int .i64 n, .int .i64 k, .int .i64 (k + 1), .int .i64 q2, .bool true, .bool true, .bool true, plan e t r i, .int .i64 n, .int .i64 k, .int .i64 f, plan e t r i, .int .i64 n, .int .i64 k, .int .i64 (k + 1), .int .i64 f2, .bool true, .bool true, .bool true, plan e t r i, .int .i64 n, .int .i64 k, .int .i64 c, plan e t r i, .int .i64 n, .int .i64 (n + 1), .int .i64 k, .int .i64 d, .bool true, .bool true, .bool true, plan e t r i, .int .i64 n, .int .i64 k, .int .i64 o, plan e t r i, .int .i64 n, .int .i64 (n + 1), .int .i64 k, .int .i64 o1, .bool true, .bool true, .bool true, plan e t r i, .int .i64 n, .int .i64 k, .int .i64 o, plan e t r i, .int .i64 n, .int .i64 k, .int .i64 (k + 1), .int .i64 o2, .bool true, .bool true, .bool true, plan e t r i, .int .i64 n, .int .i64 k, .int .i64 q, plan e t r i, .int .i64 n, .int .i64 k, .int .i64 f, .bool true, .bool true, .bool true, plan e t r i, .int .i64 n, .int .i64 k, .int .i64 q, plan e t r i, .int .i64 n, .int .i64 k, .int .i64 c, .bool true, .bool true, .bool true] (fun w' => Hid (Kp Nb v0 w')) (by kernel_rfl) (by kernel_rfl) (by kernel_rfl) ?hS (VFrom.all (n := 93) (by kernel_rfl) ?hstep) ?hend
      case hstep =>
        refine VFrom.cons (VStep.val _ rfl _ rfl (plan e t r i) rfl trivial (fun ev w hS he hr => ?_)) ?_
        · have r0 : ev (.tmp 3) = .pointer (some ⟨B, 0, none⟩) := hr (3, none) (by simp); have hk := he.1; clear hr he
          obtain ⟨c0, c1, c2, c3⟩ := (HP2.out.kept hS.out).cells
          go_simp
        refine VFrom.cons (VStep.val _ rfl _ rfl (.int .i64 n) rfl trivial (fun ev w hS he hr => ?_)) ?_
        · have r0 : ev (.tmp 4) = .int .i64 n := hr (4, none) (by simp); have hk := he.1; clear hr he
          go_simp
        refine VFrom.cons (VStep.val _ rfl _ rfl (.int .i64 k) rfl trivial (fun ev w hS he hr => ?_)) ?_
        · have r0 : ev (.tmp 5) = .int .i64 k := hr (5, none) (by simp); have hk := he.1; clear hr he
          go_simp
        refine VFrom.cons (VStep.call _ rfl _ rfl (.int .i64 q) rfl trivial 31 #[plan e t r i, .int .i64 n, .int .i64 k] (fun ev w hS he hr => ?_) (fun w hS => ?_)) ?_
        · have r0 : ev (.tmp 33) = plan e t r i := hr (33, some 0) (by simp); have r1 : ev (.tmp 34) = .int .i64 n := hr (34, some 1) (by simp); have r2 : ev (.tmp 35) = .int .i64 k := hr (35, some 2) (by simp); have hk := he.1; have hf := he.2; clear hr he
          go_simp
        · exact (CQ.out w).mono fun e w' ⟨h1, h2⟩ => ⟨h1, bkp_trans hS h2⟩
        refine VFrom.cons (VStep.val _ rfl _ rfl (plan e t r i) rfl trivial (fun ev w hS he hr => ?_)) ?_
        · have r0 : ev (.tmp 3) = .pointer (some ⟨B, 0, none⟩) := hr (3, none) (by simp); have hk := he.1; clear hr he
          obtain ⟨c0, c1, c2, c3⟩ := (HP2.out.kept hS.out).cells
          go_simp
        refine VFrom.cons (VStep.val _ rfl _ rfl (.int .i64 n) rfl trivial (fun ev w hS he hr => ?_)) ?_
        · have r0 : ev (.tmp 4) = .int .i64 n := hr (4, none) (by simp); have hk := he.1; clear hr he
          go_simp
        refine VFrom.cons (VStep.val _ rfl _ rfl (.int .i64 (n + 1)) rfl trivial (fun ev w hS he hr => ?_)) ?_
        · have r0 : ev (.tmp 38) = .int .i64 n := hr (38, some 5) (by simp); have hk := he.1; clear hr he
          go_simp
        refine VFrom.cons (VStep.val _ rfl _ rfl (.int .i64 k) rfl trivial (fun ev w hS he hr => ?_)) ?_
        · have r0 : ev (.tmp 5) = .int .i64 k := hr (5, none) (by simp); have hk := he.1; clear hr he
          go_simp
        refine VFrom.cons (VStep.call _ rfl _ rfl (.int .i64 q1) rfl trivial 31 #[plan e t r i, .int .i64 (n + 1), .int .i64 k] (fun ev w hS he hr => ?_) (fun w hS => ?_)) ?_
        · have r0 : ev (.tmp 37) = plan e t r i := hr (37, some 4) (by simp); have r1 : ev (.tmp 39) = .int .i64 (n + 1) := hr (39, some 6) (by simp); have r2 : ev (.tmp 40) = .int .i64 k := hr (40, some 7) (by simp); have hk := he.1; have hf := he.2; clear hr he
          go_simp
        · exact (CQ1.out w).mono fun e w' ⟨h1, h2⟩ => ⟨h1, bkp_trans hS h2⟩
        refine VFrom.cons (VStep.val _ rfl _ rfl (.bool true) rfl trivial (fun ev w hS he hr => ?_)) ?_
        · have r0 : ev (.tmp 36) = .int .i64 q := hr (36, some 3) (by simp); have r1 : ev (.tmp 41) = .int .i64 q1 := hr (41, some 8) (by simp); have hk := he.1; clear hr he
          go_simp
        refine VFrom.cons (VStep.val _ rfl _ rfl (.bool true) rfl trivial (fun ev w hS he hr => ?_)) ?_
        · have r0 : ev (.tmp 42) = .bool true := hr (42, some 9) (by simp); have hk := he.1; clear hr he
          go_simp
        refine VFrom.cons (VStep.val _ rfl _ rfl (plan e t r i) rfl rfl (fun ev w hS he hr => ?_)) ?_
        · have r0 : ev (.tmp 3) = .pointer (some ⟨B, 0, none⟩) := hr (3, none) (by simp); have hk := he.1; clear hr he
          obtain ⟨c0, c1, c2, c3⟩ := (HP2.out.kept hS.out).cells
          go_simp
        refine VFrom.cons (VStep.val _ rfl _ rfl (.int .i64 n) rfl rfl (fun ev w hS he hr => ?_)) ?_
        · have r0 : ev (.tmp 4) = .int .i64 n := hr (4, none) (by simp); have hk := he.1; clear hr he
          go_simp
        refine VFrom.cons (VStep.val _ rfl _ rfl (.int .i64 k) rfl rfl (fun ev w hS he hr => ?_)) ?_
        · have r0 : ev (.tmp 5) = .int .i64 k := hr (5, none) (by simp); have hk := he.1; clear hr he
          go_simp
        refine VFrom.cons (VStep.call _ rfl _ rfl (.int .i64 q) rfl rfl 31 #[plan e t r i, .int .i64 n, .int .i64 k] (fun ev w hS he hr => ?_) (fun w hS => ?_)) ?_
        · have r0 : ev (.tmp 44) = plan e t r i := hr (44, some 11) (by simp); have r1 : ev (.tmp 45) = .int .i64 n := hr (45, some 12) (by simp); have r2 : ev (.tmp 46) = .int .i64 k := hr (46, some 13) (by simp); have hk := he.1; have hf := he.2; clear hr he
          go_simp
        · exact (CQ.out w).mono fun e w' ⟨h1, h2⟩ => ⟨h1, bkp_trans hS h2⟩
        refine VFrom.cons (VStep.val _ rfl _ rfl (plan e t r i) rfl rfl (fun ev w hS he hr => ?_)) ?_
        · have r0 : ev (.tmp 3) = .pointer (some ⟨B, 0, none⟩) := hr (3, none) (by simp); have hk := he.1; clear hr he
          obtain ⟨c0, c1, c2, c3⟩ := (HP2.out.kept hS.out).cells
          go_simp
        refine VFrom.cons (VStep.val _ rfl _ rfl (.int .i64 n) rfl rfl (fun ev w hS he hr => ?_)) ?_
        · have r0 : ev (.tmp 4) = .int .i64 n := hr (4, none) (by simp); have hk := he.1; clear hr he
          go_simp
        refine VFrom.cons (VStep.val _ rfl _ rfl (.int .i64 k) rfl rfl (fun ev w hS he hr => ?_)) ?_
        · have r0 : ev (.tmp 5) = .int .i64 k := hr (5, none) (by simp); have hk := he.1; clear hr he
          go_simp
        refine VFrom.cons (VStep.val _ rfl _ rfl (.int .i64 (k + 1)) rfl rfl (fun ev w hS he hr => ?_)) ?_
        · have r0 : ev (.tmp 50) = .int .i64 k := hr (50, some 17) (by simp); have hk := he.1; clear hr he
          go_simp
        refine VFrom.cons (VStep.call _ rfl _ rfl (.int .i64 q2) rfl rfl 31 #[plan e t r i, .int .i64 n, .int .i64 (k + 1)] (fun ev w hS he hr => ?_) (fun w hS => ?_)) ?_
        · have r0 : ev (.tmp 48) = plan e t r i := hr (48, some 15) (by simp); have r1 : ev (.tmp 49) = .int .i64 n := hr (49, some 16) (by simp); have r2 : ev (.tmp 51) = .int .i64 (k + 1) := hr (51, some 18) (by simp); have hk := he.1; have hf := he.2; clear hr he
          go_simp
        · exact (CQ2.out w).mono fun e w' ⟨h1, h2⟩ => ⟨h1, bkp_trans hS h2⟩
        refine VFrom.cons (VStep.val _ rfl _ rfl (.bool true) rfl rfl (fun ev w hS he hr => ?_)) ?_
        · have r0 : ev (.tmp 47) = .int .i64 q := hr (47, some 14) (by simp); have r1 : ev (.tmp 52) = .int .i64 q2 := hr (52, some 19) (by simp); have hk := he.1; clear hr he
          go_simp
        refine VFrom.cons (VStep.val _ rfl _ rfl (.bool true) rfl trivial (fun ev w hS he hr => ?_)) ?_
        · have r0 : ev (.tmp 43) = .bool true := hr (43, some 10) (by simp); have r1 : ev (.tmp 53) = .bool true := hr (53, some 20) (by simp); have hk := he.1; clear hr he
          go_simp
        refine VFrom.cons (VStep.val _ rfl _ rfl (.bool true) rfl trivial (fun ev w hS he hr => ?_)) ?_
        · have r0 : ev (.tmp 54) = .bool true := hr (54, some 21) (by simp); have hk := he.1; clear hr he
          go_simp
        refine VFrom.cons (VStep.val _ rfl _ rfl (plan e t r i) rfl rfl (fun ev w hS he hr => ?_)) ?_
        · have r0 : ev (.tmp 3) = .pointer (some ⟨B, 0, none⟩) := hr (3, none) (by simp); have hk := he.1; clear hr he
          obtain ⟨c0, c1, c2, c3⟩ := (HP2.out.kept hS.out).cells
          go_simp
        refine VFrom.cons (VStep.val _ rfl _ rfl (.int .i64 n) rfl rfl (fun ev w hS he hr => ?_)) ?_
        · have r0 : ev (.tmp 4) = .int .i64 n := hr (4, none) (by simp); have hk := he.1; clear hr he
          go_simp
        refine VFrom.cons (VStep.val _ rfl _ rfl (.int .i64 k) rfl rfl (fun ev w hS he hr => ?_)) ?_
        · have r0 : ev (.tmp 5) = .int .i64 k := hr (5, none) (by simp); have hk := he.1; clear hr he
          go_simp
        refine VFrom.cons (VStep.call _ rfl _ rfl (.int .i64 f) rfl rfl 32 #[plan e t r i, .int .i64 n, .int .i64 k] (fun ev w hS he hr => ?_) (fun w hS => ?_)) ?_
        · have r0 : ev (.tmp 56) = plan e t r i := hr (56, some 23) (by simp); have r1 : ev (.tmp 57) = .int .i64 n := hr (57, some 24) (by simp); have r2 : ev (.tmp 58) = .int .i64 k := hr (58, some 25) (by simp); have hk := he.1; have hf := he.2; clear hr he
          go_simp
        · exact (CF.out w).mono fun e w' ⟨h1, h2⟩ => ⟨h1, bkp_trans hS h2⟩
        refine VFrom.cons (VStep.val _ rfl _ rfl (plan e t r i) rfl rfl (fun ev w hS he hr => ?_)) ?_
        · have r0 : ev (.tmp 3) = .pointer (some ⟨B, 0, none⟩) := hr (3, none) (by simp); have hk := he.1; clear hr he
          obtain ⟨c0, c1, c2, c3⟩ := (HP2.out.kept hS.out).cells
          go_simp
        refine VFrom.cons (VStep.val _ rfl _ rfl (.int .i64 n) rfl rfl (fun ev w hS he hr => ?_)) ?_
        · have r0 : ev (.tmp 4) = .int .i64 n := hr (4, none) (by simp); have hk := he.1; clear hr he
          go_simp
        refine VFrom.cons (VStep.val _ rfl _ rfl (.int .i64 k) rfl rfl (fun ev w hS he hr => ?_)) ?_
        · have r0 : ev (.tmp 5) = .int .i64 k := hr (5, none) (by simp); have hk := he.1; clear hr he
          go_simp
        refine VFrom.cons (VStep.val _ rfl _ rfl (.int .i64 (k + 1)) rfl rfl (fun ev w hS he hr => ?_)) ?_
        · have r0 : ev (.tmp 62) = .int .i64 k := hr (62, some 29) (by simp); have hk := he.1; clear hr he
          go_simp
        refine VFrom.cons (VStep.call _ rfl _ rfl (.int .i64 f2) rfl rfl 32 #[plan e t r i, .int .i64 n, .int .i64 (k + 1)] (fun ev w hS he hr => ?_) (fun w hS => ?_)) ?_
        · have r0 : ev (.tmp 60) = plan e t r i := hr (60, some 27) (by simp); have r1 : ev (.tmp 61) = .int .i64 n := hr (61, some 28) (by simp); have r2 : ev (.tmp 63) = .int .i64 (k + 1) := hr (63, some 30) (by simp); have hk := he.1; have hf := he.2; clear hr he
          go_simp
        · exact (CF2.out w).mono fun e w' ⟨h1, h2⟩ => ⟨h1, bkp_trans hS h2⟩
        refine VFrom.cons (VStep.val _ rfl _ rfl (.bool true) rfl rfl (fun ev w hS he hr => ?_)) ?_
        · have r0 : ev (.tmp 59) = .int .i64 f := hr (59, some 26) (by simp); have r1 : ev (.tmp 64) = .int .i64 f2 := hr (64, some 31) (by simp); have hk := he.1; clear hr he
          go_simp
        refine VFrom.cons (VStep.val _ rfl _ rfl (.bool true) rfl trivial (fun ev w hS he hr => ?_)) ?_
        · have r0 : ev (.tmp 55) = .bool true := hr (55, some 22) (by simp); have r1 : ev (.tmp 65) = .bool true := hr (65, some 32) (by simp); have hk := he.1; clear hr he
          go_simp
        refine VFrom.cons (VStep.val _ rfl _ rfl (.bool true) rfl trivial (fun ev w hS he hr => ?_)) ?_
        · have r0 : ev (.tmp 66) = .bool true := hr (66, some 33) (by simp); have hk := he.1; clear hr he
          go_simp
        refine VFrom.cons (VStep.val _ rfl _ rfl (plan e t r i) rfl rfl (fun ev w hS he hr => ?_)) ?_
        · have r0 : ev (.tmp 3) = .pointer (some ⟨B, 0, none⟩) := hr (3, none) (by simp); have hk := he.1; clear hr he
          obtain ⟨c0, c1, c2, c3⟩ := (HP2.out.kept hS.out).cells
          go_simp
        refine VFrom.cons (VStep.val _ rfl _ rfl (.int .i64 n) rfl rfl (fun ev w hS he hr => ?_)) ?_
        · have r0 : ev (.tmp 4) = .int .i64 n := hr (4, none) (by simp); have hk := he.1; clear hr he
          go_simp
        refine VFrom.cons (VStep.val _ rfl _ rfl (.int .i64 k) rfl rfl (fun ev w hS he hr => ?_)) ?_
        · have r0 : ev (.tmp 5) = .int .i64 k := hr (5, none) (by simp); have hk := he.1; clear hr he
          go_simp
        refine VFrom.cons (VStep.call _ rfl _ rfl (.int .i64 c) rfl rfl 33 #[plan e t r i, .int .i64 n, .int .i64 k] (fun ev w hS he hr => ?_) (fun w hS => ?_)) ?_
        · have r0 : ev (.tmp 68) = plan e t r i := hr (68, some 35) (by simp); have r1 : ev (.tmp 69) = .int .i64 n := hr (69, some 36) (by simp); have r2 : ev (.tmp 70) = .int .i64 k := hr (70, some 37) (by simp); have hk := he.1; have hf := he.2; clear hr he
          go_simp
        · exact (CT.out w).mono fun e w' ⟨h1, h2⟩ => ⟨h1, bkp_trans hS h2⟩
        refine VFrom.cons (VStep.val _ rfl _ rfl (plan e t r i) rfl rfl (fun ev w hS he hr => ?_)) ?_
        · have r0 : ev (.tmp 3) = .pointer (some ⟨B, 0, none⟩) := hr (3, none) (by simp); have hk := he.1; clear hr he
          obtain ⟨c0, c1, c2, c3⟩ := (HP2.out.kept hS.out).cells
          go_simp
        refine VFrom.cons (VStep.val _ rfl _ rfl (.int .i64 n) rfl rfl (fun ev w hS he hr => ?_)) ?_
        · have r0 : ev (.tmp 4) = .int .i64 n := hr (4, none) (by simp); have hk := he.1; clear hr he
          go_simp
        refine VFrom.cons (VStep.val _ rfl _ rfl (.int .i64 (n + 1)) rfl rfl (fun ev w hS he hr => ?_)) ?_
        · have r0 : ev (.tmp 73) = .int .i64 n := hr (73, some 40) (by simp); have hk := he.1; clear hr he
          go_simp
        refine VFrom.cons (VStep.val _ rfl _ rfl (.int .i64 k) rfl rfl (fun ev w hS he hr => ?_)) ?_
        · have r0 : ev (.tmp 5) = .int .i64 k := hr (5, none) (by simp); have hk := he.1; clear hr he
          go_simp
        refine VFrom.cons (VStep.call _ rfl _ rfl (.int .i64 d) rfl rfl 33 #[plan e t r i, .int .i64 (n + 1), .int .i64 k] (fun ev w hS he hr => ?_) (fun w hS => ?_)) ?_
        · have r0 : ev (.tmp 72) = plan e t r i := hr (72, some 39) (by simp); have r1 : ev (.tmp 74) = .int .i64 (n + 1) := hr (74, some 41) (by simp); have r2 : ev (.tmp 75) = .int .i64 k := hr (75, some 42) (by simp); have hk := he.1; have hf := he.2; clear hr he
          go_simp
        · exact (CT1.out w).mono fun e w' ⟨h1, h2⟩ => ⟨h1, bkp_trans hS h2⟩
        refine VFrom.cons (VStep.val _ rfl _ rfl (.bool true) rfl rfl (fun ev w hS he hr => ?_)) ?_
        · have r0 : ev (.tmp 71) = .int .i64 c := hr (71, some 38) (by simp); have r1 : ev (.tmp 76) = .int .i64 d := hr (76, some 43) (by simp); have hk := he.1; clear hr he
          go_simp
        refine VFrom.cons (VStep.val _ rfl _ rfl (.bool true) rfl trivial (fun ev w hS he hr => ?_)) ?_
        · have r0 : ev (.tmp 67) = .bool true := hr (67, some 34) (by simp); have r1 : ev (.tmp 77) = .bool true := hr (77, some 44) (by simp); have hk := he.1; clear hr he
          go_simp
        refine VFrom.cons (VStep.val _ rfl _ rfl (.bool true) rfl trivial (fun ev w hS he hr => ?_)) ?_
        · have r0 : ev (.tmp 78) = .bool true := hr (78, some 45) (by simp); have hk := he.1; clear hr he
          go_simp
        refine VFrom.cons (VStep.val _ rfl _ rfl (plan e t r i) rfl rfl (fun ev w hS he hr => ?_)) ?_
        · have r0 : ev (.tmp 3) = .pointer (some ⟨B, 0, none⟩) := hr (3, none) (by simp); have hk := he.1; clear hr he
          obtain ⟨c0, c1, c2, c3⟩ := (HP2.out.kept hS.out).cells
          go_simp
        refine VFrom.cons (VStep.val _ rfl _ rfl (.int .i64 n) rfl rfl (fun ev w hS he hr => ?_)) ?_
        · have r0 : ev (.tmp 4) = .int .i64 n := hr (4, none) (by simp); have hk := he.1; clear hr he
          go_simp
        refine VFrom.cons (VStep.val _ rfl _ rfl (.int .i64 k) rfl rfl (fun ev w hS he hr => ?_)) ?_
        · have r0 : ev (.tmp 5) = .int .i64 k := hr (5, none) (by simp); have hk := he.1; clear hr he
          go_simp
        refine VFrom.cons (VStep.call _ rfl _ rfl (.int .i64 o) rfl rfl 34 #[plan e t r i, .int .i64 n, .int .i64 k] (fun ev w hS he hr => ?_) (fun w hS => ?_)) ?_
        · have r0 : ev (.tmp 80) = plan e t r i := hr (80, some 47) (by simp); have r1 : ev (.tmp 81) = .int .i64 n := hr (81, some 48) (by simp); have r2 : ev (.tmp 82) = .int .i64 k := hr (82, some 49) (by simp); have hk := he.1; have hf := he.2; clear hr he
          go_simp
        · exact (CO.out w).mono fun e w' ⟨h1, h2⟩ => ⟨h1, bkp_trans hS h2⟩
        refine VFrom.cons (VStep.val _ rfl _ rfl (plan e t r i) rfl rfl (fun ev w hS he hr => ?_)) ?_
        · have r0 : ev (.tmp 3) = .pointer (some ⟨B, 0, none⟩) := hr (3, none) (by simp); have hk := he.1; clear hr he
          obtain ⟨c0, c1, c2, c3⟩ := (HP2.out.kept hS.out).cells
          go_simp
        refine VFrom.cons (VStep.val _ rfl _ rfl (.int .i64 n) rfl rfl (fun ev w hS he hr => ?_)) ?_
        · have r0 : ev (.tmp 4) = .int .i64 n := hr (4, none) (by simp); have hk := he.1; clear hr he
          go_simp
        refine VFrom.cons (VStep.val _ rfl _ rfl (.int .i64 (n + 1)) rfl rfl (fun ev w hS he hr => ?_)) ?_
        · have r0 : ev (.tmp 85) = .int .i64 n := hr (85, some 52) (by simp); have hk := he.1; clear hr he
          go_simp
        refine VFrom.cons (VStep.val _ rfl _ rfl (.int .i64 k) rfl rfl (fun ev w hS he hr => ?_)) ?_
        · have r0 : ev (.tmp 5) = .int .i64 k := hr (5, none) (by simp); have hk := he.1; clear hr he
          go_simp
        refine VFrom.cons (VStep.call _ rfl _ rfl (.int .i64 o1) rfl rfl 34 #[plan e t r i, .int .i64 (n + 1), .int .i64 k] (fun ev w hS he hr => ?_) (fun w hS => ?_)) ?_
        · have r0 : ev (.tmp 84) = plan e t r i := hr (84, some 51) (by simp); have r1 : ev (.tmp 86) = .int .i64 (n + 1) := hr (86, some 53) (by simp); have r2 : ev (.tmp 87) = .int .i64 k := hr (87, some 54) (by simp); have hk := he.1; have hf := he.2; clear hr he
          go_simp
        · exact (CO1.out w).mono fun e w' ⟨h1, h2⟩ => ⟨h1, bkp_trans hS h2⟩
        refine VFrom.cons (VStep.val _ rfl _ rfl (.bool true) rfl rfl (fun ev w hS he hr => ?_)) ?_
        · have r0 : ev (.tmp 83) = .int .i64 o := hr (83, some 50) (by simp); have r1 : ev (.tmp 88) = .int .i64 o1 := hr (88, some 55) (by simp); have hk := he.1; clear hr he
          go_simp
        refine VFrom.cons (VStep.val _ rfl _ rfl (.bool true) rfl trivial (fun ev w hS he hr => ?_)) ?_
        · have r0 : ev (.tmp 79) = .bool true := hr (79, some 46) (by simp); have r1 : ev (.tmp 89) = .bool true := hr (89, some 56) (by simp); have hk := he.1; clear hr he
          go_simp
        refine VFrom.cons (VStep.val _ rfl _ rfl (.bool true) rfl trivial (fun ev w hS he hr => ?_)) ?_
        · have r0 : ev (.tmp 90) = .bool true := hr (90, some 57) (by simp); have hk := he.1; clear hr he
          go_simp
        refine VFrom.cons (VStep.val _ rfl _ rfl (plan e t r i) rfl rfl (fun ev w hS he hr => ?_)) ?_
        · have r0 : ev (.tmp 3) = .pointer (some ⟨B, 0, none⟩) := hr (3, none) (by simp); have hk := he.1; clear hr he
          obtain ⟨c0, c1, c2, c3⟩ := (HP2.out.kept hS.out).cells
          go_simp
        refine VFrom.cons (VStep.val _ rfl _ rfl (.int .i64 n) rfl rfl (fun ev w hS he hr => ?_)) ?_
        · have r0 : ev (.tmp 4) = .int .i64 n := hr (4, none) (by simp); have hk := he.1; clear hr he
          go_simp
        refine VFrom.cons (VStep.val _ rfl _ rfl (.int .i64 k) rfl rfl (fun ev w hS he hr => ?_)) ?_
        · have r0 : ev (.tmp 5) = .int .i64 k := hr (5, none) (by simp); have hk := he.1; clear hr he
          go_simp
        refine VFrom.cons (VStep.call _ rfl _ rfl (.int .i64 o) rfl rfl 34 #[plan e t r i, .int .i64 n, .int .i64 k] (fun ev w hS he hr => ?_) (fun w hS => ?_)) ?_
        · have r0 : ev (.tmp 92) = plan e t r i := hr (92, some 59) (by simp); have r1 : ev (.tmp 93) = .int .i64 n := hr (93, some 60) (by simp); have r2 : ev (.tmp 94) = .int .i64 k := hr (94, some 61) (by simp); have hk := he.1; have hf := he.2; clear hr he
          go_simp
        · exact (CO.out w).mono fun e w' ⟨h1, h2⟩ => ⟨h1, bkp_trans hS h2⟩
        refine VFrom.cons (VStep.val _ rfl _ rfl (plan e t r i) rfl rfl (fun ev w hS he hr => ?_)) ?_
        · have r0 : ev (.tmp 3) = .pointer (some ⟨B, 0, none⟩) := hr (3, none) (by simp); have hk := he.1; clear hr he
          obtain ⟨c0, c1, c2, c3⟩ := (HP2.out.kept hS.out).cells
          go_simp
        refine VFrom.cons (VStep.val _ rfl _ rfl (.int .i64 n) rfl rfl (fun ev w hS he hr => ?_)) ?_
        · have r0 : ev (.tmp 4) = .int .i64 n := hr (4, none) (by simp); have hk := he.1; clear hr he
          go_simp
        refine VFrom.cons (VStep.val _ rfl _ rfl (.int .i64 k) rfl rfl (fun ev w hS he hr => ?_)) ?_
        · have r0 : ev (.tmp 5) = .int .i64 k := hr (5, none) (by simp); have hk := he.1; clear hr he
          go_simp
        refine VFrom.cons (VStep.val _ rfl _ rfl (.int .i64 (k + 1)) rfl rfl (fun ev w hS he hr => ?_)) ?_
        · have r0 : ev (.tmp 98) = .int .i64 k := hr (98, some 65) (by simp); have hk := he.1; clear hr he
          go_simp
        refine VFrom.cons (VStep.call _ rfl _ rfl (.int .i64 o2) rfl rfl 34 #[plan e t r i, .int .i64 n, .int .i64 (k + 1)] (fun ev w hS he hr => ?_) (fun w hS => ?_)) ?_
        · have r0 : ev (.tmp 96) = plan e t r i := hr (96, some 63) (by simp); have r1 : ev (.tmp 97) = .int .i64 n := hr (97, some 64) (by simp); have r2 : ev (.tmp 99) = .int .i64 (k + 1) := hr (99, some 66) (by simp); have hk := he.1; have hf := he.2; clear hr he
          go_simp
        · exact (CO2.out w).mono fun e w' ⟨h1, h2⟩ => ⟨h1, bkp_trans hS h2⟩
        refine VFrom.cons (VStep.val _ rfl _ rfl (.bool true) rfl rfl (fun ev w hS he hr => ?_)) ?_
        · have r0 : ev (.tmp 95) = .int .i64 o := hr (95, some 62) (by simp); have r1 : ev (.tmp 100) = .int .i64 o2 := hr (100, some 67) (by simp); have hk := he.1; clear hr he
          go_simp
        refine VFrom.cons (VStep.val _ rfl _ rfl (.bool true) rfl trivial (fun ev w hS he hr => ?_)) ?_
        · have r0 : ev (.tmp 91) = .bool true := hr (91, some 58) (by simp); have r1 : ev (.tmp 101) = .bool true := hr (101, some 68) (by simp); have hk := he.1; clear hr he
          go_simp
        refine VFrom.cons (VStep.val _ rfl _ rfl (.bool true) rfl trivial (fun ev w hS he hr => ?_)) ?_
        · have r0 : ev (.tmp 102) = .bool true := hr (102, some 69) (by simp); have hk := he.1; clear hr he
          go_simp
        refine VFrom.cons (VStep.val _ rfl _ rfl (plan e t r i) rfl rfl (fun ev w hS he hr => ?_)) ?_
        · have r0 : ev (.tmp 3) = .pointer (some ⟨B, 0, none⟩) := hr (3, none) (by simp); have hk := he.1; clear hr he
          obtain ⟨c0, c1, c2, c3⟩ := (HP2.out.kept hS.out).cells
          go_simp
        refine VFrom.cons (VStep.val _ rfl _ rfl (.int .i64 n) rfl rfl (fun ev w hS he hr => ?_)) ?_
        · have r0 : ev (.tmp 4) = .int .i64 n := hr (4, none) (by simp); have hk := he.1; clear hr he
          go_simp
        refine VFrom.cons (VStep.val _ rfl _ rfl (.int .i64 k) rfl rfl (fun ev w hS he hr => ?_)) ?_
        · have r0 : ev (.tmp 5) = .int .i64 k := hr (5, none) (by simp); have hk := he.1; clear hr he
          go_simp
        refine VFrom.cons (VStep.call _ rfl _ rfl (.int .i64 q) rfl rfl 31 #[plan e t r i, .int .i64 n, .int .i64 k] (fun ev w hS he hr => ?_) (fun w hS => ?_)) ?_
        · have r0 : ev (.tmp 104) = plan e t r i := hr (104, some 71) (by simp); have r1 : ev (.tmp 105) = .int .i64 n := hr (105, some 72) (by simp); have r2 : ev (.tmp 106) = .int .i64 k := hr (106, some 73) (by simp); have hk := he.1; have hf := he.2; clear hr he
          go_simp
        · exact (CQ.out w).mono fun e w' ⟨h1, h2⟩ => ⟨h1, bkp_trans hS h2⟩
        refine VFrom.cons (VStep.val _ rfl _ rfl (plan e t r i) rfl rfl (fun ev w hS he hr => ?_)) ?_
        · have r0 : ev (.tmp 3) = .pointer (some ⟨B, 0, none⟩) := hr (3, none) (by simp); have hk := he.1; clear hr he
          obtain ⟨c0, c1, c2, c3⟩ := (HP2.out.kept hS.out).cells
          go_simp
        refine VFrom.cons (VStep.val _ rfl _ rfl (.int .i64 n) rfl rfl (fun ev w hS he hr => ?_)) ?_
        · have r0 : ev (.tmp 4) = .int .i64 n := hr (4, none) (by simp); have hk := he.1; clear hr he
          go_simp
        refine VFrom.cons (VStep.val _ rfl _ rfl (.int .i64 k) rfl rfl (fun ev w hS he hr => ?_)) ?_
        · have r0 : ev (.tmp 5) = .int .i64 k := hr (5, none) (by simp); have hk := he.1; clear hr he
          go_simp
        refine VFrom.cons (VStep.call _ rfl _ rfl (.int .i64 f) rfl rfl 32 #[plan e t r i, .int .i64 n, .int .i64 k] (fun ev w hS he hr => ?_) (fun w hS => ?_)) ?_
        · have r0 : ev (.tmp 108) = plan e t r i := hr (108, some 75) (by simp); have r1 : ev (.tmp 109) = .int .i64 n := hr (109, some 76) (by simp); have r2 : ev (.tmp 110) = .int .i64 k := hr (110, some 77) (by simp); have hk := he.1; have hf := he.2; clear hr he
          go_simp
        · exact (CF.out w).mono fun e w' ⟨h1, h2⟩ => ⟨h1, bkp_trans hS h2⟩
        refine VFrom.cons (VStep.val _ rfl _ rfl (.bool true) rfl rfl (fun ev w hS he hr => ?_)) ?_
        · have r0 : ev (.tmp 107) = .int .i64 q := hr (107, some 74) (by simp); have r1 : ev (.tmp 111) = .int .i64 f := hr (111, some 78) (by simp); have hk := he.1; clear hr he
          go_simp
        refine VFrom.cons (VStep.val _ rfl _ rfl (.bool true) rfl trivial (fun ev w hS he hr => ?_)) ?_
        · have r0 : ev (.tmp 103) = .bool true := hr (103, some 70) (by simp); have r1 : ev (.tmp 112) = .bool true := hr (112, some 79) (by simp); have hk := he.1; clear hr he
          go_simp
        refine VFrom.cons (VStep.val _ rfl _ rfl (.bool true) rfl trivial (fun ev w hS he hr => ?_)) ?_
        · have r0 : ev (.tmp 113) = .bool true := hr (113, some 80) (by simp); have hk := he.1; clear hr he
          go_simp
        refine VFrom.cons (VStep.val _ rfl _ rfl (plan e t r i) rfl rfl (fun ev w hS he hr => ?_)) ?_
        · have r0 : ev (.tmp 3) = .pointer (some ⟨B, 0, none⟩) := hr (3, none) (by simp); have hk := he.1; clear hr he
          obtain ⟨c0, c1, c2, c3⟩ := (HP2.out.kept hS.out).cells
          go_simp
        refine VFrom.cons (VStep.val _ rfl _ rfl (.int .i64 n) rfl rfl (fun ev w hS he hr => ?_)) ?_
        · have r0 : ev (.tmp 4) = .int .i64 n := hr (4, none) (by simp); have hk := he.1; clear hr he
          go_simp
        refine VFrom.cons (VStep.val _ rfl _ rfl (.int .i64 k) rfl rfl (fun ev w hS he hr => ?_)) ?_
        · have r0 : ev (.tmp 5) = .int .i64 k := hr (5, none) (by simp); have hk := he.1; clear hr he
          go_simp
        refine VFrom.cons (VStep.call _ rfl _ rfl (.int .i64 q) rfl rfl 31 #[plan e t r i, .int .i64 n, .int .i64 k] (fun ev w hS he hr => ?_) (fun w hS => ?_)) ?_
        · have r0 : ev (.tmp 115) = plan e t r i := hr (115, some 82) (by simp); have r1 : ev (.tmp 116) = .int .i64 n := hr (116, some 83) (by simp); have r2 : ev (.tmp 117) = .int .i64 k := hr (117, some 84) (by simp); have hk := he.1; have hf := he.2; clear hr he
          go_simp
        · exact (CQ.out w).mono fun e w' ⟨h1, h2⟩ => ⟨h1, bkp_trans hS h2⟩
        refine VFrom.cons (VStep.val _ rfl _ rfl (plan e t r i) rfl rfl (fun ev w hS he hr => ?_)) ?_
        · have r0 : ev (.tmp 3) = .pointer (some ⟨B, 0, none⟩) := hr (3, none) (by simp); have hk := he.1; clear hr he
          obtain ⟨c0, c1, c2, c3⟩ := (HP2.out.kept hS.out).cells
          go_simp
        refine VFrom.cons (VStep.val _ rfl _ rfl (.int .i64 n) rfl rfl (fun ev w hS he hr => ?_)) ?_
        · have r0 : ev (.tmp 4) = .int .i64 n := hr (4, none) (by simp); have hk := he.1; clear hr he
          go_simp
        refine VFrom.cons (VStep.val _ rfl _ rfl (.int .i64 k) rfl rfl (fun ev w hS he hr => ?_)) ?_
        · have r0 : ev (.tmp 5) = .int .i64 k := hr (5, none) (by simp); have hk := he.1; clear hr he
          go_simp
        refine VFrom.cons (VStep.call _ rfl _ rfl (.int .i64 c) rfl rfl 33 #[plan e t r i, .int .i64 n, .int .i64 k] (fun ev w hS he hr => ?_) (fun w hS => ?_)) ?_
        · have r0 : ev (.tmp 119) = plan e t r i := hr (119, some 86) (by simp); have r1 : ev (.tmp 120) = .int .i64 n := hr (120, some 87) (by simp); have r2 : ev (.tmp 121) = .int .i64 k := hr (121, some 88) (by simp); have hk := he.1; have hf := he.2; clear hr he
          go_simp
        · exact (CT.out w).mono fun e w' ⟨h1, h2⟩ => ⟨h1, bkp_trans hS h2⟩
        refine VFrom.cons (VStep.val _ rfl _ rfl (.bool true) rfl rfl (fun ev w hS he hr => ?_)) ?_
        · have r0 : ev (.tmp 118) = .int .i64 q := hr (118, some 85) (by simp); have r1 : ev (.tmp 122) = .int .i64 c := hr (122, some 89) (by simp); have hk := he.1; clear hr he
          go_simp
        refine VFrom.cons (VStep.val _ rfl _ rfl (.bool true) rfl trivial (fun ev w hS he hr => ?_)) ?_
        · have r0 : ev (.tmp 114) = .bool true := hr (114, some 81) (by simp); have r1 : ev (.tmp 123) = .bool true := hr (123, some 90) (by simp); have hk := he.1; clear hr he
          go_simp
        refine VFrom.cons (VStep.val _ rfl _ rfl (.bool true) rfl trivial (fun ev w hS he hr => ?_)) ?_
        · have r0 : ev (.tmp 124) = .bool true := hr (124, some 91) (by simp); have hk := he.1; clear hr he
          go_simp
        exact VFrom.nil
      case hS => exact hkp0
      case hend =>
        intro wy kh
        simp only [putAll, List.zip_cons_cons, List.zip_nil_right, List.foldl_cons, List.foldl_nil, Act.put, List.setIfInBounds_toArray, List.set_cons_zero, List.set_cons_succ]
        have K9 := hid (K3.out.trans kh.out (fun _ _ h => h))
        go_wp2
        go_ret
        exact ⟨rfl, K9.out⟩
    · go_wp2_with fail
      refine (CR.out _).mono ?_
      rintro y w3 ⟨rfl, kk⟩
      have K3 := hid (K2.out.trans kk (fun _ _ h => h))
      clear kk
      rcases (show n < 0 ∨ (0 ≤ n ∧ 4095 < n) ∨ (0 ≤ n ∧ n ≤ 4095 ∧ k < 0) ∨ (0 ≤ n ∧ n ≤ 4095 ∧ 0 ≤ k ∧ 4095 < k) by omega) with h | ⟨h1, h⟩ | ⟨h1, h2, h⟩ | ⟨h1, h2, h3, h⟩
      · have d1 : decide (n < 0) = true := decide_eq_true h
        clear hs h
        go_wp2
        go_ret
        exact ⟨rfl, K3.out⟩
      · have d1 : decide (n < 0) = false := decide_eq_false (by omega)
        have d2 : decide (4095 < n) = true := decide_eq_true h
        clear hs h h1
        go_wp2
        go_ret
        exact ⟨rfl, K3.out⟩
      · have d1 : decide (n < 0) = false := decide_eq_false (by omega)
        have d2 : decide (4095 < n) = false := decide_eq_false (by omega)
        have d3 : decide (k < 0) = true := decide_eq_true h
        clear hs h h1 h2
        go_wp2
        go_ret
        exact ⟨rfl, K3.out⟩
      · have d1 : decide (n < 0) = false := decide_eq_false (by omega)
        have d2 : decide (4095 < n) = false := decide_eq_false (by omega)
        have d3 : decide (k < 0) = false := decide_eq_false (by omega)
        have d4 : decide (4095 < k) = true := decide_eq_true h
        clear hs h h1 h2 h3
        go_wp2
        go_ret
        exact ⟨rfl, K3.out⟩

end Go.Proofs.Ytofjkaemakdmeaa
