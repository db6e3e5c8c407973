/-
  Layer 23: the walk of TimerPlays. Condition: what an int is.
-/
import Derived.Test.YtofbehkooklimaaTimS
namespace Go.Proofs.Ytofbehkooklimaa
open Go.RowKit

/-- A list of two ints and a bool each, as a value. -/
def TopIn (w : World) (v : Value) (os : List (Int × Int × Bool)) : Prop :=
  ((∃ a cap, v = .slice a 0 cap) ∧ os = []) ∨ ∃ blk off cap, v = .slice (some ⟨blk, off, none⟩) os.length cap ∧ os.length ≤ cap ∧ cap ≤ maxLen ∧
    ∀ i, i < os.length → w.cell? ⟨blk, off + i * 3, none⟩ = some (.int .i64 (os[i]?.getD (0, 0, false)).1) ∧ w.cell? ⟨blk, off + i * 3 + 1, none⟩ = some (.int .i64 (os[i]?.getD (0, 0, false)).2.1) ∧ w.cell? ⟨blk, off + i * 3 + 2, none⟩ = some (.bool (os[i]?.getD (0, 0, false)).2.2)
theorem TopIn.shape {w : World} {v : Value} {os : List (Int × Int × Bool)} (h : TopIn w v os) : ∃ y d, v = .slice y os.length d := by
  rcases h with ⟨⟨a, c, rfl⟩, rfl⟩ | ⟨blk, off, cap, rfl, _⟩
  · exact ⟨a, c, rfl⟩
  · exact ⟨_, _, rfl⟩
def PlR (w : World) (B R L : Nat) (e : Int) (now i : Value) (wr : World) : Prop :=
  ∃ (j : Nat) (t : Tm) (z : Int), j ≤ L ∧ i = .int .i64 j ∧ now = .int .i64 z ∧ Hid (t.Ok ∧ t.every = e) ∧ Hid (TimAt wr B t) ∧ Hid (RtmAt wr R t) ∧ Hid (Kp Nb w wr)
def PlC (w : World) (B R : Nat) (e : Int) (wx : World) : Prop := ∃ t : Tm, Hid (t.Ok ∧ t.every = e) ∧ Hid (TimAt wx B t) ∧ Hid (RtmAt wx R t) ∧ Hid (Kp Nb w wx)
def PlA (w : World) (Bx B R : Nat) (K N : Int) (U : Bool) (m : Tm) (s : Value) (wx : World) : Prop :=
  ∃ A : Int, s = .int .i64 A ∧ Hid (Blk wx Bx 46 [.int .i64 K, .int .i64 N, .bool U]) ∧ Hid (TimAt wx B m) ∧ Hid (RtmAt wx R m) ∧ Hid (Kp Nb w wx)
theorem Tm.next_every (t : Tm) (now : Int) : (t.next now).every = t.every := by
  unfold Tm.next
  split
  · rfl
  · split <;> rfl

set_option maxRecDepth 100000 in
set_option maxHeartbeats 4000000 in
theorem plays_none (e t : Int) (x : Option Addr) (n c : Nat) (w : World) (hf : tfitsB e t = false) (hn : ¬ 100 < n) :
    Calls Try.prog 5 #[.int .i64 e, .int .i64 t, .slice x n c] w fun r w' => r = .returned (.bool true) ∧ Kp Nb w w' := by
  have CN : Hid (∀ w, Calls Try.prog 23 #[.int .i64 e, .int .i64 t] w fun r w' => r = .returned (.tuple #[.pointer none, .int .i64 2]) ∧ w = w') := fun w => (tnew_any e t w).mono fun _ _ h => by
    rcases h with ⟨h, _⟩ | ⟨_, hr, hw⟩
    · rw [hf] at h; cases h
    · exact ⟨hr, hw.symm⟩
  have CF : Hid (∀ w, Calls Try.prog 24 #[.int .i64 e, .int .i64 t] w fun r w' => r = .returned (.bool false) ∧ w = w') := fun w => by rw [← hf]; exact rtfits_any e t w
  clear hf
  go_enter Try.func5, Try.ntmps5
  go_wp2_with fail
  refine (first23_any _).mono ?_
  rintro r w1 ⟨rfl, k1⟩
  have K1 := hid k1
  clear k1
  go_wp2_with (first
    | (go_at_call 23; refine (CN.out _).mono ?_; rintro r w' ⟨rfl, rfl⟩)
    | (go_at_call 24; refine (CF.out _).mono ?_; rintro r w' ⟨rfl, rfl⟩)
    | (go_at_call 25; refine (tstart_none _ _).mono ?_; rintro r w' ⟨rfl, rfl⟩)
    | (go_at_call 26; refine (tstop_none _).mono ?_; rintro r w' ⟨rfl, rfl⟩)
    | (go_at_call 27; refine (tdue_none _).mono ?_; rintro r w' ⟨rfl, rfl⟩)
    | (go_at_call 28; refine (ttick_none _ _).mono ?_; rintro r w' ⟨rfl, rfl⟩)
    | (go_at_call 29; refine (tfired_none _).mono ?_; rintro r w' ⟨rfl, rfl⟩))
  go_ret
  exact ⟨rfl, K1.out⟩

set_option maxRecDepth 100000 in
set_option maxHeartbeats 4000000 in
theorem plays_law (e t : Int) (v : Value) (os : List (Int × Int × Bool)) (w : World) (hv : TopIn w v os) :
    Calls Try.prog 5 #[.int .i64 e, .int .i64 t, v] w fun r w' => r = .returned (.bool true) ∧ Kp Nb w w' := by
  obtain ⟨x, c, hsh⟩ := hv.shape
  have HV := hid hv
  clear hv
  subst hsh
  by_cases h100 : 100 < os.length
  · go_enter Try.func5, Try.ntmps5
    go_wp2_with fail
    refine (first23_any _).mono ?_
    rintro r w1 ⟨rfl, k1⟩
    have K1 := hid k1
    clear k1
    go_wp2
    go_ret
    exact ⟨rfl, K1.out⟩
  · cases hf : tfitsB e t with
    | false => exact plays_none e t x os.length c w hf h100
    | true =>
      have CN : Hid (∀ w, Calls Try.prog 23 #[.int .i64 e, .int .i64 t] w fun r w' => r = .returned (.tuple #[.pointer (some ⟨w.heap.size, 0, none⟩), .int .i64 0]) ∧ TimAt w' w.heap.size (Tm.new e t) ∧ Kp Nb w w') := fun w => (tnew_any e t w).mono fun _ _ h => by
        rcases h with ⟨_, hr, hw⟩ | ⟨h, _⟩
        · subst hw
          exact ⟨hr, Blk.new w _ _, (Kp.refl Nb w).alloc _⟩
        · rw [hf] at h; cases h
      have CF : Hid (∀ w, Calls Try.prog 24 #[.int .i64 e, .int .i64 t] w fun r w' => r = .returned (.bool true) ∧ w = w') := fun w => by rw [← hf]; exact rtfits_any e t w
      have HOK := hid (Tm.new_ok hf)
      obtain ⟨e1, e2, -, -⟩ := tfitsB_spec hf
      clear hf
      go_enter Try.func5, Try.ntmps5
      go_wp2_with fail
      refine (first23_any _).mono ?_
      rintro r w1 ⟨rfl, k1⟩
      have K1 := hid k1
      clear k1
      go_wp2_with fail
      refine (CN.out _).mono ?_
      rintro r w2 ⟨rfl, h2, k2⟩
      obtain ⟨B, hB⟩ : ∃ B, B = w1.heap.size := ⟨_, rfl⟩
      rw [← hB] at h2 ⊢
      have HBB : Hid (w.heap.size ≤ B) := by have := K1.out.size; unfold Hid; omega
      have H2 := hid h2
      have K2 := hid (K1.out.trans k2 (fun _ _ h => h))
      clear h2 k2 hB
      have H3 := hid (Blk.alloc H2.out (.cells #[.int .i64 e, .int .i64 t, .int .i64 0, .int .i64 0, .bool false] 44))
      have R3 := hid (show RtmAt (w2.alloc (.cells #[.int .i64 e, .int .i64 t, .int .i64 0, .int .i64 0, .bool false] 44)) w2.heap.size (Tm.new e t) from Blk.new w2 _ _)
      have K3 := hid (K2.out.alloc (.cells #[.int .i64 e, .int .i64 t, .int .i64 0, .int .i64 0, .bool false] 44))
      have HRR : Hid (w.heap.size ≤ w2.heap.size ∧ B ≠ w2.heap.size) := ⟨K2.out.size, by have := Blk.lt H2.out; omega⟩
      go_wp2_with (go_at_call 24; refine (CF.out _).mono ?_; rintro r w' ⟨rfl, rfl⟩)
      obtain ⟨R, hR⟩ : ∃ R, R = w2.heap.size := ⟨_, rfl⟩
      obtain ⟨w3, hw3⟩ : ∃ w3, w3 = w2.alloc (.cells #[.int .i64 e, .int .i64 t, .int .i64 0, .int .i64 0, .bool false] 44) := ⟨_, rfl⟩
      rw [← hw3] at H3 R3 K3 ⊢
      rw [← hR] at R3 HRR ⊢
      clear hw3 hR H2 K2
      go_loopw [12, 69] (fun n i wr => PlR w B R os.length e n i wr) (fun _ i _ => os.length - (intOf i).toNat)
      case atStart => exact ⟨0, Tm.new e t, 0, Nat.zero_le _, rfl, rfl, ⟨HOK.out, rfl⟩, H3, R3, K3⟩
      case round =>
        obtain ⟨j, m, z, hj, rfl, rfl, HO, HT, HRT, HK⟩ := hrel
        clear H3 R3 K3
        by_cases hlt : j < os.length
        · rcases HV.out with ⟨-, hnil⟩ | ⟨blk, off, cap, hv, hcap, hm, hcell⟩
          · subst hnil; simp at hlt
          · obtain ⟨q0, q1, q2⟩ := hcell j hlt
            obtain ⟨rfl, rfl⟩ : x = some ⟨blk, off, none⟩ ∧ c = cap := by simpa using hv
            have p0 := HK.out.cell q0 (fun h => h)
            have p1 := HK.out.cell q1 (fun h => h)
            have p2 := HK.out.cell q2 (fun h => h)
            obtain ⟨K, hK⟩ : ∃ K, K = (os[j]?.getD (0, 0, false)).1 := ⟨_, rfl⟩
            obtain ⟨N, hN⟩ : ∃ N, N = (os[j]?.getD (0, 0, false)).2.1 := ⟨_, rfl⟩
            obtain ⟨U, hU⟩ : ∃ U, U = (os[j]?.getD (0, 0, false)).2.2 := ⟨_, rfl⟩
            rw [← hK] at p0
            rw [← hN] at p1
            rw [← hU] at p2
            clear hK hN hU q0 q1 q2 hv hcell
            have hj0 : (0 : Int) ≤ (j : Int) := by omega
            have hj1 : (j : Int) < (os.length : Int) := by omega
            have hj2 : (os.length : Int) ≤ 100 := by omega
            obtain ⟨C, hC⟩ : ∃ C, C = IntKind.u64.wrap K % 6 := ⟨_, rfl⟩
            have hc0 : 0 ≤ C ∧ C < 6 := by rw [hC]; omega
            have hkk : (IntKind.u64.wrap K).tmod 6 = C := by rw [hC]; exact Int.tmod_eq_emod_of_nonneg (by rw [IntKind.wrap_u64]; omega)
            clear hC
            have HBX := hid (Blk.new wr 46 [.int .i64 K, .int .i64 N, .bool U])
            have HTB := hid (Blk.alloc HT.out (.cells #[.int .i64 K, .int .i64 N, .bool U] 46))
            have HRB := hid (Blk.alloc HRT.out (.cells #[.int .i64 K, .int .i64 N, .bool U] 46))
            have HKB := hid (HK.out.alloc (.cells #[.int .i64 K, .int .i64 N, .bool U] 46))
            go_upto_if 76 with fail
            go_cut [15] (PlA w wr.heap.size B R K N U m)
            case first =>
              cases U with
              | false =>
                go_wp2
                go_meet
                exact ⟨N, rfl, HBX, HTB, HRB, HKB⟩
              | true =>
                have hz := heldZ_le z
                have s1 : (wr.alloc (.cells #[.int .i64 K, .int .i64 N, .bool true] 46)).cell? ⟨wr.heap.size, 1, none⟩ = some (.int .i64 N) := HBX.out.cell 1
                obtain ⟨y, hy⟩ : ∃ y, y = heldZ z := ⟨_, rfl⟩
                have CH : Hid (∀ w, Calls Try.prog 30 #[.int .i64 z] w fun r w' => r = .returned (.int .i64 y) ∧ w = w') := fun w => by rw [hy]; exact rheld_any z w
                rw [← hy] at hz
                obtain ⟨M, hM⟩ : ∃ M, M = IntKind.u64.wrap N % 10000 := ⟨_, rfl⟩
                have hM0 : 0 ≤ M ∧ M < 10000 := by rw [hM]; omega
                have hMM : (IntKind.u64.wrap N).tmod 10000 = M := by rw [hM]; exact Int.tmod_eq_emod_of_nonneg (by rw [IntKind.wrap_u64]; omega)
                have hM1 : IntKind.i64.wrap M = M := IntWalk.i64_in _ (by omega)
                have hM2 : IntKind.i64.wrap (y + M) = y + M := IntWalk.i64_in _ (by omega)
                clear hy hM
                go_wp2_with fail
                go_quiet ((go_at_call 30; exact Calls.quiet_of_same ((CH.out _).mono fun _ _ h => ⟨h.1, h.2.symm⟩)))
                go_wp2
                go_meet
                exact ⟨_, rfl, HBX.out.drewN _, Blk.drewN HTB.out _, Blk.drewN HRB.out _, HKB.out.drewN _⟩
            case rest =>
              obtain ⟨A, rfl, HBX2, HT2, HR2, HK2⟩ := hcut
              have s0 := HBX2.out.cell 0
              simp only [List.getElem?_cons_zero] at s0
              clear HBX HTB HRB HKB HT HRT HK p0 p1 p2
              have HC0 := hid hc0
              go_upto_block 2 with fail
              go_cut [12] (fun s12 wx => s12 = .int .i64 A ∧ PlC w B R e wx)
              case first =>
                clear s0 hkk
                have CHA : Hid (∀ w, Calls Try.prog 30 #[.int .i64 A] w fun r w' => r = .returned (.int .i64 (heldZ A)) ∧ w = w') := fun w => rheld_any A w
                by_cases h4 : C = 4
                · subst h4
                  go_wp2_with fail
                  refine (tstart_any B m A _ HT2.out HO.out.1).mono ?_
                  rintro r w4 ⟨rfl, h4, k4⟩
                  have H4 := hid h4
                  have R4 := hid (Blk.kept HR2.out k4 (fun h => by unfold Jb at h; exact HRR.out.2 h.symm))
                  have K4 := hid (HK2.out.trans k4 (fun i hi h => by have := HBB.out; unfold Jb at h; omega))
                  clear h4 k4
                  have hA := heldZ_le A
                  obtain ⟨y, hy⟩ : ∃ y, y = heldZ A := ⟨_, rfl⟩
                  rw [← hy] at CHA hA
                  have hw : IntKind.i64.wrap (y + e) = y + e := IntWalk.i64_in _ (by omega)
                  have c2 := Blk.cell R4.out 2
                  have c3 := Blk.cell R4.out 3
                  have c4 := Blk.cell R4.out 4
                  have f2 := Blk.frozen R4.out 2
                  have f3 := Blk.frozen R4.out 3
                  have f4 := Blk.frozen R4.out 4
                  simp only [List.getElem?_cons_zero, List.getElem?_cons_succ] at c2 c3 c4
                  have R5 := hid (show RtmAt (((w4.setCell ⟨R, 4, none⟩ (.bool true)).setCell ⟨R, 2, none⟩ (.int .i64 0)).setCell ⟨R, 3, none⟩ (.int .i64 (y + e))) R (m.start A) from by
                    have := ((Blk.set R4.out 4 (.bool true)).set 2 (.int .i64 0)).set 3 (.int .i64 (y + e))
                    rw [hy] at this ⊢
                    rw [← HO.out.2] at this ⊢
                    exact this)
                  have T5 := hid (((Blk.other H4.out ⟨R, 4, none⟩ HRR.out.2 (.bool true)).other ⟨R, 2, none⟩ HRR.out.2 (.int .i64 0)).other ⟨R, 3, none⟩ HRR.out.2 (.int .i64 (y + e)))
                  have K5 := hid (((K4.out.new HRR.out.1 4 (.bool true)).new HRR.out.1 2 (.int .i64 0)).new HRR.out.1 3 (.int .i64 (y + e)))
                  clear hy
                  go_wp2_with (go_at_call 30; refine (CHA.out _).mono ?_; rintro r w' ⟨rfl, rfl⟩)
                  go_meet
                  exact ⟨rfl, m.start A, ⟨HO.out.1.start A, HO.out.2⟩, T5, R5, K5⟩
                · have g4 : (C == 4) = false := by rw [beq_eq_false_iff_ne]; exact h4
                  by_cases h5 : C = 5
                  · subst h5
                    go_wp2_with fail
                    refine (tstop_any B m _ HT2.out).mono ?_
                    rintro r w4 ⟨rfl, h4, k4⟩
                    have H4 := hid h4
                    have R4 := hid (Blk.kept HR2.out k4 (fun h => by unfold Jb at h; exact HRR.out.2 h.symm))
                    have K4 := hid (HK2.out.trans k4 (fun i hi h => by have := HBB.out; unfold Jb at h; omega))
                    clear h4 k4
                    have c4 := Blk.cell R4.out 4
                    have f4 := Blk.frozen R4.out 4
                    simp only [List.getElem?_cons_zero, List.getElem?_cons_succ] at c4
                    have R5 := hid (show RtmAt (w4.setCell ⟨R, 4, none⟩ (.bool false)) R m.stop from Blk.set R4.out 4 (.bool false))
                    have T5 := hid (Blk.other H4.out ⟨R, 4, none⟩ HRR.out.2 (.bool false))
                    have K5 := hid (K4.out.new HRR.out.1 4 (.bool false))
                    go_wp2
                    go_meet
                    exact ⟨rfl, m.stop, ⟨HO.out.1.stop, HO.out.2⟩, T5, R5, K5⟩
                  · have g5 : (C == 5) = false := by rw [beq_eq_false_iff_ne]; exact h5
                    clear h4 h5
                    obtain ⟨S, hS⟩ : ∃ S, S = m.says A := ⟨_, rfl⟩
                    have CT : Hid (∀ w, TimAt w B m → Calls Try.prog 28 #[.pointer (some ⟨B, 0, none⟩), .int .i64 A] w fun r w' => r = .returned (.int .i64 S) ∧ TimAt w' B (m.next A) ∧ Kp (Jb B) w w') := fun w h => by rw [hS]; exact ttick_any B m A w h HO.out.1
                    have CR : Hid (∀ w, RtmAt w R m → Calls Try.prog 31 #[.pointer (some ⟨R, 0, none⟩), .int .i64 A] w fun r w' => r = .returned (.int .i64 S) ∧ RtmAt w' R (m.next A) ∧ Kp (Jb R) w w') := fun w h => by rw [hS]; exact rtick_any R m A w h HO.out.1
                    clear hS
                    go_wp2_with fail
                    refine (CT.out _ HT2.out).mono ?_
                    rintro r w4 ⟨rfl, h4, k4⟩
                    have H4 := hid h4
                    have R4 := hid (Blk.kept HR2.out k4 (fun h => by unfold Jb at h; exact HRR.out.2 h.symm))
                    have K4 := hid (HK2.out.trans k4 (fun i hi h => by have := HBB.out; unfold Jb at h; omega))
                    clear h4 k4
                    go_wp2_with fail
                    refine (CR.out _ R4.out).mono ?_
                    rintro r w5 ⟨rfl, h5, k5⟩
                    have R5 := hid h5
                    have H5 := hid (Blk.kept H4.out k5 (fun h => by unfold Jb at h; exact HRR.out.2 h))
                    have K5 := hid (K4.out.trans k5 (fun i hi h => by have := HRR.out.1; unfold Jb at h; omega))
                    clear h5 k5
                    go_wp2
                    go_meet
                    exact ⟨rfl, m.next A, ⟨HO.out.1.next A, (Tm.next_every m A).trans HO.out.2⟩, H5, R5, K5⟩
              case rest =>
                obtain ⟨rfl, m2, HO2, HT3, HR3, HK3⟩ := hcut
                clear HBX2 HT2 HR2 HK2 s0
                have c2 := Blk.cell HR3.out 2
                have c3 := Blk.cell HR3.out 3
                have c4 := Blk.cell HR3.out 4
                simp only [List.getElem?_cons_zero, List.getElem?_cons_succ] at c2 c3 c4
                obtain ⟨D, hD⟩ : ∃ D, D = m2.due := ⟨_, rfl⟩
                obtain ⟨F, hF⟩ : ∃ F, F = m2.fired := ⟨_, rfl⟩
                rw [← hD] at c3
                rw [← hF] at c2
                have CFI : Hid (∀ w, TimAt w B m2 → Calls Try.prog 29 #[.pointer (some ⟨B, 0, none⟩)] w fun r w' => r = .returned (.int .i64 F) ∧ w = w') := fun w h => by rw [hF]; exact tfired_any B _ w h
                cases hr : m2.runs with
                | true =>
                  have CD : Hid (∀ w, TimAt w B m2 → Calls Try.prog 27 #[.pointer (some ⟨B, 0, none⟩)] w fun r w' => r = .returned (.tuple #[.int .i64 (D), .bool true]) ∧ w = w') := fun w h => by
                    have := tdue_any B _ w h
                    rw [hr] at this
                    rw [if_pos rfl, ← hD] at this
                    exact this
                  rw [hr] at c4
                  clear hr hD hF
                  go_wp2_with fail
                  refine (CD.out _ HT3.out).mono ?_
                  rintro r w' ⟨rfl, rfl⟩
                  go_wp2_with fail
                  go_quiet ((go_at_call 29; exact Calls.quiet_of_same ((CFI.out _ (Blk.drewN HT3.out _)).mono fun _ _ h => ⟨h.1, h.2.symm⟩)))
                  go_wp2
                  go_roundw
                  case rel => exact ⟨j + 1, m2, A, by omega, by go_num, rfl, HO2, Blk.drewN HT3.out _, Blk.drewN HR3.out _, HK3.out.drewN _⟩
                  case measure => simp [intOf]; omega
                | false =>
                  have CD : Hid (∀ w, TimAt w B m2 → Calls Try.prog 27 #[.pointer (some ⟨B, 0, none⟩)] w fun r w' => r = .returned (.tuple #[.int .i64 (0), .bool false]) ∧ w = w') := fun w h => by
                    have := tdue_any B _ w h
                    rw [hr] at this
                    exact this
                  rw [hr] at c4
                  clear hr hD hF
                  go_wp2_with fail
                  refine (CD.out _ HT3.out).mono ?_
                  rintro r w' ⟨rfl, rfl⟩
                  go_wp2_with fail
                  go_quiet ((go_at_call 29; exact Calls.quiet_of_same ((CFI.out _ (Blk.drewN HT3.out _)).mono fun _ _ h => ⟨h.1, h.2.symm⟩)))
                  go_wp2
                  go_roundw
                  case rel => exact ⟨j + 1, m2, A, by omega, by go_num, rfl, HO2, Blk.drewN HT3.out _, Blk.drewN HR3.out _, HK3.out.drewN _⟩
                  case measure => simp [intOf]; omega
        · obtain rfl : j = os.length := by omega
          go_wp2
          go_ret
          exact ⟨rfl, HK.out⟩

end Go.Proofs.Ytofbehkooklimaa
