/-
  Layer 34: walks of frame.Cost, pair, lead.within, lead.Right, fits, guesses, Requests, Frames, Ticks, Overhead, Payload of none, Steps. Condition: what an int is.
-/
import Derived.Test.YtofjkaemakdmeaaTimD
import Derived.Test.YtofjkaemakdmeaaPenA
namespace Go.Proofs.Ytofjkaemakdmeaa
open Go.RowKit

def costZ (n : Int) : Int := if 0 ≤ n ∧ n ≤ 2048 then 2 + (sizeN n : Int) + n + 8 else 0
theorem costZ_in {n : Int} (h0 : 0 ≤ n) (h1 : n ≤ 2048) : costZ n = 2 + (sizeN n : Int) + n + 8 := by unfold costZ; rw [if_pos ⟨h0, h1⟩]
theorem sizeN_le (n : Int) (h0 : 0 ≤ n) (h1 : n ≤ 2048) : (sizeN n : Int) ≤ 9 := by
  unfold sizeN
  split
  · omega
  · have := kOf_le n (by omega); omega

set_option maxHeartbeats 400000 in
theorem cost_any (n : Int) (w : World) (h0 : 0 ≤ n) (h1 : n ≤ 2048) : Calls Try.prog 76 #[.int .i64 n] w fun r w' => r = .returned (.int .i64 (costZ n)) ∧ w = w' := by
  have hs := sizeN_le n h0 h1
  have hc := costZ_in h0 h1
  have HC := hid hc
  have hw : IntKind.u64.wrap n = n := Int.emod_eq_of_lt h0 (by show n < 18446744073709551616; omega)
  clear hc
  obtain ⟨m, hm⟩ : ∃ m, sizeN n = m := ⟨_, rfl⟩
  rw [hm] at hs HC
  have CS : Hid (∀ w, Calls Try.prog 82 #[.int .u64 n] w fun e w' => e = .returned (.int .i64 (m : Int)) ∧ w = w') := hid (fun w => by rw [← hm]; exact size_any n w h0 (by omega))
  clear hm
  go_enter Try.func76, Try.ntmps76
  go_wp2_with (go_at_call 82; refine (CS.out _).mono ?_; rintro e w' ⟨rfl, rfl⟩)
  go_ret
  exact ⟨tret_int (by rw [HC.out]), rfl⟩

theorem cost_60 : costZ 60 = 71 := by kernel_rfl
theorem cost_352 : costZ 352 = 365 := by kernel_rfl
theorem cost_1360 : costZ 1360 = 1373 := by kernel_rfl
theorem cost_1960 : costZ 1960 = 1973 := by kernel_rfl
theorem cost_1620 : costZ 1620 = 1633 := by kernel_rfl
theorem cost_16 : costZ 16 = 27 := by kernel_rfl

set_option maxHeartbeats 400000 in
theorem pair_any (a b A B C : Int) (w : World) (a0 : 0 ≤ a) (a1 : a ≤ 2048) (b0 : 0 ≤ b) (b1 : b ≤ 2048) (hA : costZ a = A) (hB : costZ b = B) (hA0 : 0 ≤ A ∧ A ≤ 3000) (hB0 : 0 ≤ B ∧ B ≤ 3000) (hC : A + B = C) :
    Calls Try.prog 62 #[.int .i64 a, .int .i64 b] w fun r w' => r = .returned (.int .i64 C) ∧ w = w' := by
  have CA : Hid (∀ w, Calls Try.prog 76 #[.int .i64 a] w fun e w' => e = .returned (.int .i64 A) ∧ w = w') := hid (fun w => by rw [← hA]; exact cost_any a w a0 a1)
  have CB : Hid (∀ w, Calls Try.prog 76 #[.int .i64 b] w fun e w' => e = .returned (.int .i64 B) ∧ w = w') := hid (fun w => by rw [← hB]; exact cost_any b w b0 b1)
  have HC := hid hC
  clear hC hA hB
  obtain ⟨p, q⟩ := hA0
  obtain ⟨r, s⟩ := hB0
  go_enter Try.func62, Try.ntmps62
  go_wp2_with fail
  refine (CA.out _).mono ?_
  rintro e w' ⟨rfl, rfl⟩
  go_wp2_with fail
  refine (CB.out _).mono ?_
  rintro e w' ⟨rfl, rfl⟩
  go_wp2
  go_ret
  exact ⟨tret_int HC.out, rfl⟩

def inB (n a b : Int) : Bool := decide (a ≤ n ∧ n ≤ b)
set_option maxHeartbeats 400000 in
theorem within_any (n a b : Int) (w : World) : Calls Try.prog 58 #[.int .i64 n, .int .i64 a, .int .i64 b] w fun r w' => r = .returned (.bool (inB n a b)) ∧ w = w' := by
  go_enter Try.func58, Try.ntmps58
  go_wp2
  all_goals
    go_ret
    refine ⟨tret_bool ?_, rfl⟩
    unfold inB
    first
      | (rw [decide_eq_decide]; omega)
      | (symm; rw [decide_eq_true_iff]; omega)
      | (symm; rw [decide_eq_false_iff_not]; omega)

/-- A plan, as it lies in a box. -/
def PlanAt (w : World) (B : Nat) (e t r i : Int) : Prop := Blk w B 60 [.int .i64 e, .int .i64 t, .int .i64 r, .int .i64 i]
theorem PlanAt.cells {w : World} {B : Nat} {e t r i : Int} (h : PlanAt w B e t r i) : w.cell? ⟨B, 0, none⟩ = some (.int .i64 e) ∧ w.cell? ⟨B, 1, none⟩ = some (.int .i64 t) ∧ w.cell? ⟨B, 2, none⟩ = some (.int .i64 r) ∧ w.cell? ⟨B, 3, none⟩ = some (.int .i64 i) :=
  ⟨Blk.cell h 0, Blk.cell h 1, Blk.cell h 2, Blk.cell h 3⟩
theorem PlanAt.kept {w w' : World} {B : Nat} {e t r i : Int} (h : PlanAt w B e t r i) (k : Kp Nb w w') : PlanAt w' B e t r i := Blk.kept h k (fun h => h)
abbrev plan (e t r i : Int) : Value := .agg #[.int .i64 e, .int .i64 t, .int .i64 r, .int .i64 i]
def rightB (e t r i : Int) : Bool := tfitsB e t && (inB r 0 4 && inB i 1 1048576)
theorem rightB_spec {e t r i : Int} (h : rightB e t r i = true) : (1 ≤ e ∧ e ≤ 1000 ∧ 0 ≤ t ∧ t ≤ 10) ∧ (0 ≤ r ∧ r ≤ 4) := by
  unfold rightB at h
  simp only [Bool.and_eq_true] at h
  exact ⟨tfitsB_spec h.1, of_decide_eq_true h.2.1⟩
theorem rightB_tf {e t r i : Int} (h : rightB e t r i = true) : tfitsB e t = true := by
  unfold rightB at h
  simp only [Bool.and_eq_true] at h
  exact h.1

set_option maxHeartbeats 400000 in
theorem lright_any (e t r i : Int) (w : World) : Calls Try.prog 30 #[plan e t r i] w fun x w' => x = .returned (.bool (rightB e t r i)) ∧ Kp Nb w w' := by
  have HK := hid ((Kp.refl Nb w).alloc (.cells #[.int .i64 e, .int .i64 t, .int .i64 r, .int .i64 i] 60))
  have HP : Hid (PlanAt (w.alloc (.cells #[.int .i64 e, .int .i64 t, .int .i64 r, .int .i64 i] 60)) w.heap.size e t r i) := hid (Blk.new w 60 [.int .i64 e, .int .i64 t, .int .i64 r, .int .i64 i])
  go_enter Try.func30, Try.ntmps30
  go_wp2_with fail
  refine (tnew_any e t _).mono ?_
  rintro y w1 (⟨hf, rfl, rfl⟩ | ⟨hf, rfl, rfl⟩)
  · have HF := hid hf
    have HK2 := hid (HK.out.alloc (.cells #[.int .i64 e, .int .i64 t, .bool false, .int .i64 0, .int .i64 0] 109))
    have hp := (HP.out.kept ((Kp.refl Nb _).alloc (.cells #[.int .i64 e, .int .i64 t, .bool false, .int .i64 0, .int .i64 0] 109))).cells
    obtain ⟨-, -, c2, c3⟩ := hp
    clear hf
    cases h1 : inB r 0 4 with
    | false =>
      have HE : Hid (rightB e t r i = false) := hid (by unfold rightB; rw [h1, HF.out]; rfl)
      have CW : Hid (∀ w, Calls Try.prog 58 #[.int .i64 r, .int .i64 0, .int .i64 4] w fun r w' => r = .returned (.bool false) ∧ w = w') := hid (fun w => by rw [← h1]; exact within_any r 0 4 w)
      clear h1
      go_wp2_with (go_at_call 58; refine (CW.out _).mono ?_; rintro y w' ⟨rfl, rfl⟩)
      go_ret
      exact ⟨tret_bool HE.out.symm, HK2.out⟩
    | true =>
      cases h2 : inB i 1 1048576 with
      | false =>
        have HE : Hid (rightB e t r i = false) := hid (by unfold rightB; rw [h1, h2, HF.out]; rfl)
        have CW : Hid (∀ w, Calls Try.prog 58 #[.int .i64 r, .int .i64 0, .int .i64 4] w fun r w' => r = .returned (.bool true) ∧ w = w') := hid (fun w => by rw [← h1]; exact within_any r 0 4 w)
        have CX : Hid (∀ w, Calls Try.prog 58 #[.int .i64 i, .int .i64 1, .int .i64 1048576] w fun r w' => r = .returned (.bool false) ∧ w = w') := hid (fun w => by rw [← h2]; exact within_any i 1 1048576 w)
        clear h1 h2
        go_wp2_with fail
        refine (CW.out _).mono ?_
        rintro y w' ⟨rfl, rfl⟩
        go_wp2_with fail
        refine (CX.out _).mono ?_
        rintro y w' ⟨rfl, rfl⟩
        go_wp2
        go_ret
        exact ⟨tret_bool HE.out.symm, HK2.out⟩
      | true =>
        have HE : Hid (rightB e t r i = true) := hid (by unfold rightB; rw [h1, h2, HF.out]; rfl)
        have CW : Hid (∀ w, Calls Try.prog 58 #[.int .i64 r, .int .i64 0, .int .i64 4] w fun r w' => r = .returned (.bool true) ∧ w = w') := hid (fun w => by rw [← h1]; exact within_any r 0 4 w)
        have CX : Hid (∀ w, Calls Try.prog 58 #[.int .i64 i, .int .i64 1, .int .i64 1048576] w fun r w' => r = .returned (.bool true) ∧ w = w') := hid (fun w => by rw [← h2]; exact within_any i 1 1048576 w)
        clear h1 h2
        go_wp2_with fail
        refine (CW.out _).mono ?_
        rintro y w' ⟨rfl, rfl⟩
        go_wp2_with fail
        refine (CX.out _).mono ?_
        rintro y w' ⟨rfl, rfl⟩
        go_wp2
        go_ret
        exact ⟨tret_bool HE.out.symm, HK2.out⟩
  · have HE : Hid (rightB e t r i = false) := hid (by unfold rightB; rw [hf]; rfl)
    clear hf
    go_wp2
    go_ret
    exact ⟨tret_bool HE.out.symm, HK.out⟩

def sizesOk (n k : Int) : Prop := 0 ≤ n ∧ n ≤ 4096 ∧ 0 ≤ k ∧ k ≤ 4096
set_option maxHeartbeats 400000 in
/-- fits: where all is right; and where it isn't, with own below 0. -/
theorem bfits_yes (e t r i n k : Int) (w : World) (hr : rightB e t r i = true) (hs : sizesOk n k) : Calls Try.prog 59 #[plan e t r i, .int .i64 n, .int .i64 k] w fun x w' => x = .returned (.bool true) ∧ Kp Nb w w' := by
  obtain ⟨n0, n1, k0, k1⟩ := hs
  have HK := hid ((Kp.refl Nb w).alloc (.cells #[.int .i64 e, .int .i64 t, .int .i64 r, .int .i64 i] 60))
  have CR : Hid (∀ w, Calls Try.prog 30 #[plan e t r i] w fun x w' => x = .returned (.bool true) ∧ Kp Nb w w') := hid (fun w => by rw [← hr]; exact lright_any e t r i w)
  clear hr
  go_enter Try.func59, Try.ntmps59
  go_wp2_with fail
  refine (CR.out _).mono ?_
  rintro y w1 ⟨rfl, k1⟩
  have K1 := hid (HK.out.trans k1 (fun _ _ h => h))
  clear k1
  go_wp2
  go_ret
  exact ⟨rfl, K1.out⟩
set_option maxHeartbeats 400000 in
theorem bfits_no (e t r i n k : Int) (w : World) (hr : rightB e t r i = true) (hn : n < 0) : Calls Try.prog 59 #[plan e t r i, .int .i64 n, .int .i64 k] w fun x w' => x = .returned (.bool false) ∧ Kp Nb w w' := by
  have HK := hid ((Kp.refl Nb w).alloc (.cells #[.int .i64 e, .int .i64 t, .int .i64 r, .int .i64 i] 60))
  have CR : Hid (∀ w, Calls Try.prog 30 #[plan e t r i] w fun x w' => x = .returned (.bool true) ∧ Kp Nb w w') := hid (fun w => by rw [← hr]; exact lright_any e t r i w)
  clear hr
  go_enter Try.func59, Try.ntmps59
  go_wp2_with fail
  refine (CR.out _).mono ?_
  rintro y w1 ⟨rfl, k1⟩
  have K1 := hid (HK.out.trans k1 (fun _ _ h => h))
  clear k1
  go_wp2
  go_ret
  exact ⟨rfl, K1.out⟩

def gA (r : Int) : Int := if r = 0 then 0 else 8
def gB (r : Int) : Int := if r = 0 then 0 else 32 * r
theorem gA_le (r : Int) : 0 ≤ gA r ∧ gA r ≤ 8 := by unfold gA; split <;> omega
theorem gB_le (r : Int) (h0 : 0 ≤ r) (h1 : r ≤ 4) : 0 ≤ gB r ∧ gB r ≤ 128 := by unfold gB; split <;> omega
set_option maxHeartbeats 400000 in
theorem guesses_any (e t r i : Int) (w : World) (h0 : 0 ≤ r) (h1 : r ≤ 4) : Calls Try.prog 60 #[plan e t r i] w fun x w' => x = .returned (.tuple #[.int .i64 (gA r), .int .i64 (gB r)]) ∧ Kp Nb w w' := by
  have HK := hid ((Kp.refl Nb w).alloc (.cells #[.int .i64 e, .int .i64 t, .int .i64 r, .int .i64 i] 60))
  by_cases hr : r = 0
  · subst hr
    go_enter Try.func60, Try.ntmps60
    go_wp2
    go_ret2
    exact ⟨rfl, HK.out⟩
  · have hb : (r == 0) = false := by rw [beq_eq_false_iff_ne]; exact hr
    have HA : Hid (gA r = 8) := hid (by unfold gA; rw [if_neg hr])
    have HB : Hid (gB r = 32 * r) := hid (by unfold gB; rw [if_neg hr])
    clear hr
    go_enter Try.func60, Try.ntmps60
    go_wp2
    go_quiet (fail)
    go_wp2
    go_ret2
    exact ⟨by rw [HA.out, HB.out]; rfl, HK.out.drewN _⟩

end Go.Proofs.Ytofjkaemakdmeaa
