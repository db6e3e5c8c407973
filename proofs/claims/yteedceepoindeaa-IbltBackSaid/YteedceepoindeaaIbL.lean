/-
  Layer 11: places where the size doesn't fit. Condition: ints.
-/
import Derived.Test.YteedceepoindeaaIbK
namespace Go.Proofs.Yteedceepoindeaa
open Go.RowKit Go.Shelf
attribute [local go_sem] Oper.semAt_some

set_option maxRecDepth 100000 in
set_option maxHeartbeats 1000000 in
theorem places_no (n : Int) (m : List Int) (w : World) (h0 : -9223372036854775808 ≤ n) (h1 : n < 9223372036854775808) (hf : fitB n = false) :
    Calls Try.prog 13 #[.int .i64 n, markV m] w fun e w' => e = .returned (.agg #[.int .i64 0, .int .i64 0, .int .i64 0]) ∧ Kp Nb w w' := by
  have CF : Hid (∀ w, Calls Try.prog 12 #[.int .i64 n] w fun e w' => e = .returned (.bool false) ∧ w = w') := hid (fun w => by rw [← hf]; exact fits_any n w h0 h1)
  clear h0 h1 hf
  go_enter Try.func13, Try.ntmps13
  go_wp2_with fail
  refine (CF.out _).mono ?_
  rintro e w1 ⟨rfl, rfl⟩
  go_wp2
  have hz := Blk.new (w.alloc (.cells (markL m).toArray 23)) 31 [.int .i64 0, .int .i64 0, .int .i64 0]
  have hl := row_loadVar (P := Try.prog) (cs := [.int .i64 0, .int .i64 0, .int .i64 0]) Try.underlying31 rfl arr3_info hz 0 (fun j _ => by rw [Nat.zero_add])
  rw [World.size_alloc] at hl
  refine bodyPost_ret (v := .agg #[.int .i64 0, .int .i64 0, .int .i64 0]) (results_cell rfl _ (w.heap.size + 1) (by rfl) _ hl) ?_ ?_
  · rfl
  · exact ⟨rfl, ((Kp.refl Nb w).alloc _).alloc _⟩

theorem plain_int : Try.prog.plainKey 3 = true := by kernel_rfl
theorem eq_p (a b c : Int) (w : World) : Sem.run Try.prog (Op.equalIn 10000 31 (.agg #[.int .i64 a, .int .i64 b, .int .i64 c]) (.agg #[.int .i64 a, .int .i64 b, .int .i64 c])) w = .ok true w := by
  obtain ⟨i, hi⟩ : ∃ i, Try.prog.info? 3 = some i := Option.isSome_iff_exists.1 (by kernel_rfl : (Try.prog.info? 3).isSome = true)
  have cI : Try.prog.cellsOf 3 = 1 := by kernel_rfl
  rw [run_equalIn_array w 9999 _ _ Try.underlying31 hi, cI]
  obtain ⟨A, hA⟩ : ∃ A, (#[Value.int .i64 a, .int .i64 b, .int .i64 c] : Array Value) = A := ⟨_, rfl⟩
  have h0 : A[0 * 1]? = some (.int .i64 a) := by rw [← hA]; rfl
  have h1 : A[1 * 1]? = some (.int .i64 b) := by rw [← hA]; rfl
  have h2 : A[2 * 1]? = some (.int .i64 c) := by rw [← hA]; rfl
  have r0 := run_part_plain (P := Try.prog) w plain_int h0
  have r1 := run_part_plain (P := Try.prog) w plain_int h1
  have r2 := run_part_plain (P := Try.prog) w plain_int h2
  have qa := run_equalIn_int (P := Try.prog) w 9998 3 .i64 .i64 a a Try.underlying3
  have qb := run_equalIn_int (P := Try.prog) w 9998 3 .i64 .i64 b b Try.underlying3
  have qc := run_equalIn_int (P := Try.prog) w 9998 3 .i64 .i64 c c Try.underlying3
  rw [hA, show List.range 3 = [0, 1, 2] from rfl]
  unfold Op.eqItems
  rw [Sem.run_bind, r0, Result.andThen_ok, Sem.run_bind, r0, Result.andThen_ok, Sem.run_bind, qa, Result.andThen_ok]
  rw [beq_self_eq_true]
  unfold Op.eqItems
  rw [if_neg (by simp), Sem.run_bind, r1, Result.andThen_ok, Sem.run_bind, r1, Result.andThen_ok, Sem.run_bind, qb, Result.andThen_ok]
  rw [beq_self_eq_true]
  unfold Op.eqItems
  rw [if_neg (by simp), Sem.run_bind, r2, Result.andThen_ok, Sem.run_bind, r2, Result.andThen_ok, Sem.run_bind, qc, Result.andThen_ok]
  rw [beq_self_eq_true]
  unfold Op.eqItems
  rw [if_neg (by simp)]
  rfl
theorem wpList_load_on {P : Program} {d : TypeDesc} {ops : Array Oper} {rest : List Oper} {op : Oper} {a : Act} {w : World} {Q : Exit → Act → World → Prop} (hw : Region.wanted op (yielded ops a.tmps) = true) (ty : TypeId) (x : Operand) (ho : op.op = .load ty x)
    (b o : Nat) (hx : a.eval x = .pointer (some ⟨b, o, none⟩)) (cs : List Value) (hc : w.rangeAt b o cs) (hu : P.underlying ty = some d) (hd : d.isRow = true) (hi : (P.info? ty).map (·.size) = some cs.length)
    (h : wpList P ops Q rest (a.put op.dst (.agg cs.toArray)) w) : wpList P ops Q (op :: rest) a w :=
  wpList_step fun K hK => by rw [if_pos hw]; exact wp_load_mid ty x ho b o hx cs d hc hu hd hi (hK _ _ h)
theorem emptyB_zero (n : Nat) : emptyB (zeroS n) = true := by unfold emptyB zeroS; simp

set_option maxRecDepth 100000 in
set_option maxHeartbeats 4000000 in
theorem iplaces_yes (t : Nat) (m : List Int) (w : World) (hm : MarkOk m) (h0 : 0 < t) (h1 : t ≤ 512) :
    Calls Try.prog 3 #[.int .i64 ((3 * t : Nat) : Int), markV m] w fun e w' => e = .returned (.bool true) ∧ Kp Nb w w' := by
  obtain ⟨n, hn⟩ : ∃ n : Nat, 3 * t = n := ⟨_, rfl⟩
  have HM := hid hm
  have CP : Hid (∀ w, Calls Try.prog 13 #[.int .i64 (n : Int), markV m] w fun e w' => e = .returned (plcV t m) ∧ Kp Nb w w') := hid (fun w => by rw [← hn]; exact places_any t m w hm h0 h1)
  have CR : Hid (∀ w, Calls Try.prog 16 #[.int .i64 (n : Int), markV m] w fun e w' => e = .returned (plcV t m) ∧ Kp Nb w w') := hid (fun w => by rw [← hn]; exact rplaces_any t m w hm h0 h1)
  have CN : Hid (∀ w, Calls Try.prog 9 #[.int .i64 (n : Int)] w fun e w' => ∃ B C, e = .returned (.tuple #[.pointer (some ⟨B, 0, none⟩), .int .i64 0]) ∧ SkAt w' B C (zeroS n) ∧ w.heap.size ≤ B ∧ w.heap.size ≤ C ∧ Kp Nb w w') := hid (fun w => by rw [← hn]; exact new_yes t w h0 h1)
  have hf : fitB (n : Int) = true := decide_eq_true (by omega)
  have CF : Hid (∀ w, Calls Try.prog 12 #[.int .i64 (n : Int)] w fun e w' => e = .returned (.bool true) ∧ w = w') := hid (fun w => by rw [← hf]; exact fits_any n w (by omega) (by omega))
  have CG : Hid (∀ w, Calls Try.prog 10 #[.int .i64 (n : Int)] w fun e w' => e = .returned (.bool true) ∧ w = w') := hid (fun w => by rw [← hf]; exact rfits_any n w (by omega) (by omega))
  have HB : Hid (n ≤ 100000) := hid (by omega)
  obtain ⟨pv, hpv⟩ : ∃ v, plcV t m = v := ⟨_, rfl⟩
  have EP : Hid (∀ w, Sem.run Try.prog (Op.equalIn 10000 31 pv pv) w = .ok true w) := hid (fun w => by rw [← hpv]; exact eq_p _ _ _ w)
  have PA : Hid (∃ a b c, pv = .agg #[a, b, c]) := hid ⟨_, _, _, by rw [← hpv]; rfl⟩
  rw [hpv] at CP CR
  have H3 := hid (Blk.new w 23 (markL m))
  have K3 := hid ((Kp.refl Nb w).alloc (.cells (markL m).toArray 23))
  obtain ⟨N, hN⟩ : ∃ N, w.heap.size = N := ⟨_, rfl⟩
  rw [hN] at H3
  have HNN := hid hN
  rw [hn]
  clear hm h0 h1 hn hf hpv
  go_enter Try.func3, Try.ntmps3
  go_wp2_with fail
  refine (ifirst_any _).mono ?_
  rintro e w1 ⟨rfl, k1⟩
  have H4 := hid (H3.out.kept k1 (fun h => h))
  have K4 := hid (K3.out.trans k1 (fun _ _ h => h))
  clear k1 H3 K3 hN
  go_wp2_with fail
  refine (CN.out _).mono ?_
  rintro e w2 ⟨B, C, rfl, s2, -, -, k2⟩
  have H5 := hid (H4.out.kept k2 (fun h => h))
  have K5 := hid (K4.out.trans k2 (fun _ _ h => h))
  have S2 := hid s2
  clear k2 s2 H4 K4
  go_wp2_with fail
  refine (CG.out _).mono ?_
  rintro e w3 ⟨rfl, rfl⟩
  obtain ⟨pa, pb, pc, rfl⟩ := PA.out
  have CE : Hid (∀ wq, Kp Nb w2 wq → Calls Try.prog 15 #[.pointer (some ⟨B, 0, none⟩)] wq fun e w' => e = .returned (.bool true) ∧ Kp Nb wq w') := hid (fun wq k => by
    have h := empty_any B C (zeroS n) wq (S2.out.kept k (fun h => h) (fun h => h)) (by rw [zeroS_length]; exact HB.out)
    rw [emptyB_zero] at h
    exact h)
  have CS : Hid (∀ wq, Kp Nb w2 wq → Calls Try.prog 14 #[.pointer (some ⟨B, 0, none⟩)] wq fun e w' => e = .returned (.int .i64 (n : Int)) ∧ wq = w') := hid (fun wq k => by
    have h := size_any B C (zeroS n) wq (S2.out.kept k (fun h => h) (fun h => h))
    rw [zeroS_length] at h
    exact h)
  clear S2
  go_upto_region 7 with fail
  refine region_vals2 [none, none, none, none, some 25, none, none, none, none, none, none, none, none, none, none, none, none, none, none, none, none, none, none, none, none, none, none, none, none, none, none, none, none, none, none, none, none, none, none, none, none, none, none, none, none, none, none, none, none, none, none, none, some 0, some 1, some 2, some 3, some 4, some 5, some 6, some 7, some 8, some 9, some 10, some 11, some 12, some 13, some 14, some 15, some 16, some 17, some 18, some 19, some 20, some 21, some 22, some 23, some 24] [[(6, none)], [(52, some 0)], [(53, some 1)], [(5, none)], [(55, some 3)], [(0, none)], [(56, some 4), (57, some 5)], [(54, some 2), (58, some 6)], [(59, some 7)], [(5, none)], [(61, some 9)], [(60, some 8), (62, some 10)], [(63, some 11)], [(0, none)], [(65, some 13)], [(64, some 12), (66, some 14)], [(67, some 15)], [(0, none)], [(3, none)], [(69, some 17), (70, some 18)], [(0, none)], [(3, none)], [(72, some 20), (73, some 21)], [(71, some 19), (74, some 22)], [(68, some 16), (75, some 23)], [(76, some 24)]] [some 52, some 53, some 54, some 55, some 56, some 57, some 58, some 59, some 60, some 61, some 62, some 63, some 64, some 65, some 66, some 67, some 68, some 69, some 70, some 71, some 72, some 73, some 74, some 75, some 76, some 4] [.int .i64 0, .bool true, .bool true, .pointer (some ⟨B, 0, none⟩), .int .i64 (n : Int), .int .i64 (n : Int), .bool true, .bool true, .bool true, .pointer (some ⟨B, 0, none⟩), .bool true, .bool true, .bool true, .int .i64 (n : Int), .bool true, .bool true, .bool true, .int .i64 (n : Int), markV m, .agg #[pa, pb, pc], .int .i64 (n : Int), markV m, .agg #[pa, pb, pc], .bool true, .bool true, .bool true] (fun w' => Hid (Kp Nb w2 w')) (by kernel_rfl) (by kernel_rfl) (by kernel_rfl) ?hS (VFrom.all (n := 26) (by kernel_rfl) ?hstep) ?hend
  case hstep =>
    refine VFrom.cons (VStep.val _ rfl _ rfl (.int .i64 0) rfl trivial (fun ev wq hS he hr => ?_)) ?_
    · have r0 : ev (.tmp 6) = .int .i64 0 := hr (6, none) (by simp); have hk := he.1; clear hr he
      go_simp
    refine VFrom.cons (VStep.val _ rfl _ rfl (.bool true) rfl trivial (fun ev wq hS he hr => ?_)) ?_
    · have r0 : ev (.tmp 52) = .int .i64 0 := hr (52, some 0) (by simp); have hk := he.1; clear hr he
      go_simp
    refine VFrom.cons (VStep.val _ rfl _ rfl (.bool true) rfl trivial (fun ev wq hS he hr => ?_)) ?_
    · have r0 : ev (.tmp 53) = .bool true := hr (53, some 1) (by simp); have hk := he.1; clear hr he
      go_simp
    refine VFrom.cons (VStep.val _ rfl _ rfl (.pointer (some ⟨B, 0, none⟩)) rfl rfl (fun ev wq hS he hr => ?_)) ?_
    · have r0 : ev (.tmp 5) = .pointer (some ⟨B, 0, none⟩) := hr (5, none) (by simp); have hk := he.1; clear hr he
      go_simp
    refine VFrom.cons (VStep.call _ rfl _ rfl (.int .i64 (n : Int)) rfl rfl 14 #[.pointer (some ⟨B, 0, none⟩)] (fun ev wq hS he hr => ?_) (fun wq hS => ?_)) ?_
    · have r0 : ev (.tmp 55) = .pointer (some ⟨B, 0, none⟩) := hr (55, some 3) (by simp); have hk := he.1; have hf := he.2; clear hr he
      go_simp
    · exact (CS.out wq hS.out).mono fun e w' ⟨h1, h2⟩ => ⟨h1, by rw [← h2]; exact hS⟩
    refine VFrom.cons (VStep.val _ rfl _ rfl (.int .i64 (n : Int)) rfl rfl (fun ev wq hS he hr => ?_)) ?_
    · have r0 : ev (.tmp 0) = .int .i64 (n : Int) := hr (0, none) (by simp); have hk := he.1; clear hr he
      go_simp
    refine VFrom.cons (VStep.val _ rfl _ rfl (.bool true) rfl rfl (fun ev wq hS he hr => ?_)) ?_
    · have r0 : ev (.tmp 56) = .int .i64 (n : Int) := hr (56, some 4) (by simp); have r1 : ev (.tmp 57) = .int .i64 (n : Int) := hr (57, some 5) (by simp); have hk := he.1; clear hr he
      go_simp
    refine VFrom.cons (VStep.val _ rfl _ rfl (.bool true) rfl trivial (fun ev wq hS he hr => ?_)) ?_
    · have r0 : ev (.tmp 54) = .bool true := hr (54, some 2) (by simp); have r1 : ev (.tmp 58) = .bool true := hr (58, some 6) (by simp); have hk := he.1; clear hr he
      go_simp
    refine VFrom.cons (VStep.val _ rfl _ rfl (.bool true) rfl trivial (fun ev wq hS he hr => ?_)) ?_
    · have r0 : ev (.tmp 59) = .bool true := hr (59, some 7) (by simp); have hk := he.1; clear hr he
      go_simp
    refine VFrom.cons (VStep.val _ rfl _ rfl (.pointer (some ⟨B, 0, none⟩)) rfl rfl (fun ev wq hS he hr => ?_)) ?_
    · have r0 : ev (.tmp 5) = .pointer (some ⟨B, 0, none⟩) := hr (5, none) (by simp); have hk := he.1; clear hr he
      go_simp
    refine VFrom.cons (VStep.call _ rfl _ rfl (.bool true) rfl rfl 15 #[.pointer (some ⟨B, 0, none⟩)] (fun ev wq hS he hr => ?_) (fun wq hS => ?_)) ?_
    · have r0 : ev (.tmp 61) = .pointer (some ⟨B, 0, none⟩) := hr (61, some 9) (by simp); have hk := he.1; have hf := he.2; clear hr he
      go_simp
    · exact (CE.out wq hS.out).mono fun e w' ⟨h1, h2⟩ => ⟨h1, hS.out.trans h2 (fun _ _ h => h)⟩
    refine VFrom.cons (VStep.val _ rfl _ rfl (.bool true) rfl trivial (fun ev wq hS he hr => ?_)) ?_
    · have r0 : ev (.tmp 60) = .bool true := hr (60, some 8) (by simp); have r1 : ev (.tmp 62) = .bool true := hr (62, some 10) (by simp); have hk := he.1; clear hr he
      go_simp
    refine VFrom.cons (VStep.val _ rfl _ rfl (.bool true) rfl trivial (fun ev wq hS he hr => ?_)) ?_
    · have r0 : ev (.tmp 63) = .bool true := hr (63, some 11) (by simp); have hk := he.1; clear hr he
      go_simp
    refine VFrom.cons (VStep.val _ rfl _ rfl (.int .i64 (n : Int)) rfl rfl (fun ev wq hS he hr => ?_)) ?_
    · have r0 : ev (.tmp 0) = .int .i64 (n : Int) := hr (0, none) (by simp); have hk := he.1; clear hr he
      go_simp
    refine VFrom.cons (VStep.call _ rfl _ rfl (.bool true) rfl rfl 12 #[.int .i64 (n : Int)] (fun ev wq hS he hr => ?_) (fun wq hS => ?_)) ?_
    · have r0 : ev (.tmp 65) = .int .i64 (n : Int) := hr (65, some 13) (by simp); have hk := he.1; have hf := he.2; clear hr he
      go_simp
    · exact (CF.out wq).mono fun e w' ⟨h1, h2⟩ => ⟨h1, by rw [← h2]; exact hS⟩
    refine VFrom.cons (VStep.val _ rfl _ rfl (.bool true) rfl trivial (fun ev wq hS he hr => ?_)) ?_
    · have r0 : ev (.tmp 64) = .bool true := hr (64, some 12) (by simp); have r1 : ev (.tmp 66) = .bool true := hr (66, some 14) (by simp); have hk := he.1; clear hr he
      go_simp
    refine VFrom.cons (VStep.val _ rfl _ rfl (.bool true) rfl trivial (fun ev wq hS he hr => ?_)) ?_
    · have r0 : ev (.tmp 67) = .bool true := hr (67, some 15) (by simp); have hk := he.1; clear hr he
      go_simp
    refine VFrom.cons (VStep.val _ rfl _ rfl (.int .i64 (n : Int)) rfl rfl (fun ev wq hS he hr => ?_)) ?_
    · have r0 : ev (.tmp 0) = .int .i64 (n : Int) := hr (0, none) (by simp); have hk := he.1; clear hr he
      go_simp
    refine VFrom.cons (VStep.val _ rfl _ rfl (markV m) rfl rfl (fun ev wq hS he hr => ?_)) ?_
    · have r0 : ev (.tmp 3) = .pointer (some ⟨N, 0, none⟩) := hr (3, none) (by simp); have hk := he.1; clear hr he
      exact exec_load rfl r0 (load_mark HM.out (range_of (H5.out.kept hS.out (fun h => h))))
    refine VFrom.cons (VStep.call _ rfl _ rfl (.agg #[pa, pb, pc]) rfl rfl 13 #[.int .i64 (n : Int), markV m] (fun ev wq hS he hr => ?_) (fun wq hS => ?_)) ?_
    · have r0 : ev (.tmp 69) = .int .i64 (n : Int) := hr (69, some 17) (by simp); have r1 : ev (.tmp 70) = markV m := hr (70, some 18) (by simp); have hk := he.1; have hf := he.2; clear hr he
      go_simp
    · exact (CP.out wq).mono fun e w' ⟨h1, h2⟩ => ⟨h1, hS.out.trans h2 (fun _ _ h => h)⟩
    refine VFrom.cons (VStep.val _ rfl _ rfl (.int .i64 (n : Int)) rfl rfl (fun ev wq hS he hr => ?_)) ?_
    · have r0 : ev (.tmp 0) = .int .i64 (n : Int) := hr (0, none) (by simp); have hk := he.1; clear hr he
      go_simp
    refine VFrom.cons (VStep.val _ rfl _ rfl (markV m) rfl rfl (fun ev wq hS he hr => ?_)) ?_
    · have r0 : ev (.tmp 3) = .pointer (some ⟨N, 0, none⟩) := hr (3, none) (by simp); have hk := he.1; clear hr he
      exact exec_load rfl r0 (load_mark HM.out (range_of (H5.out.kept hS.out (fun h => h))))
    refine VFrom.cons (VStep.call _ rfl _ rfl (.agg #[pa, pb, pc]) rfl rfl 16 #[.int .i64 (n : Int), markV m] (fun ev wq hS he hr => ?_) (fun wq hS => ?_)) ?_
    · have r0 : ev (.tmp 72) = .int .i64 (n : Int) := hr (72, some 20) (by simp); have r1 : ev (.tmp 73) = markV m := hr (73, some 21) (by simp); have hk := he.1; have hf := he.2; clear hr he
      go_simp
    · exact (CR.out wq).mono fun e w' ⟨h1, h2⟩ => ⟨h1, hS.out.trans h2 (fun _ _ h => h)⟩
    refine VFrom.cons (VStep.val _ rfl _ rfl (.bool true) rfl rfl (fun ev wq hS he hr => ?_)) ?_
    · have r0 : ev (.tmp 71) = .agg #[pa, pb, pc] := hr (71, some 19) (by simp); have r1 : ev (.tmp 74) = .agg #[pa, pb, pc] := hr (74, some 22) (by simp); have hk := he.1; clear hr he
      have e1 := EP.out wq
      go_simp
    refine VFrom.cons (VStep.val _ rfl _ rfl (.bool true) rfl trivial (fun ev wq hS he hr => ?_)) ?_
    · have r0 : ev (.tmp 68) = .bool true := hr (68, some 16) (by simp); have r1 : ev (.tmp 75) = .bool true := hr (75, some 23) (by simp); have hk := he.1; clear hr he
      go_simp
    refine VFrom.cons (VStep.val _ rfl _ rfl (.bool true) rfl trivial (fun ev wq hS he hr => ?_)) ?_
    · have r0 : ev (.tmp 76) = .bool true := hr (76, some 24) (by simp); have hk := he.1; clear hr he
      go_simp
    exact VFrom.nil
  case hS => exact hid ((Kp.refl Nb w2).drew)
  case hend =>
    intro w9 h9
    have K9 := hid (K5.out.trans h9.out (fun _ _ h => h))
    clear h9
    simp only [putAll, List.zip_cons_cons, List.zip_nil_right, List.foldl_cons, List.foldl_nil, Act.put, List.setIfInBounds_toArray, List.set_cons_zero, List.set_cons_succ]
    go_wp2
    go_ret
    exact ⟨rfl, K9.out⟩

set_option maxRecDepth 100000 in
set_option maxHeartbeats 4000000 in
theorem iplaces_no (n : Int) (m : List Int) (w : World) (hm : MarkOk m) (h0 : -9223372036854775808 ≤ n) (h1 : n < 9223372036854775808) (hf : fitB n = false) :
    Calls Try.prog 3 #[.int .i64 n, markV m] w fun e w' => e = .returned (.bool true) ∧ Kp Nb w w' := by
  have HM := hid hm
  have CP : Hid (∀ w, Calls Try.prog 13 #[.int .i64 n, markV m] w fun e w' => e = .returned (.agg #[.int .i64 0, .int .i64 0, .int .i64 0]) ∧ Kp Nb w w') := hid (fun w => places_no n m w h0 h1 hf)
  have CN : Hid (∀ w, Calls Try.prog 9 #[.int .i64 n] w fun e w' => e = .returned (.tuple #[.pointer none, .int .i64 2]) ∧ w = w') := hid (fun w => new_no n w h0 h1 hf)
  have CO : Hid (∀ v w, Calls Try.prog 11 #[.int .i64 n, v] w fun e w' => e = .returned (.tuple #[.pointer none, .int .i64 2]) ∧ w = w') := hid (fun v w => of_no n v w h0 h1 hf)
  have CF : Hid (∀ w, Calls Try.prog 12 #[.int .i64 n] w fun e w' => e = .returned (.bool false) ∧ w = w') := hid (fun w => by rw [← hf]; exact fits_any n w h0 h1)
  have CG : Hid (∀ w, Calls Try.prog 10 #[.int .i64 n] w fun e w' => e = .returned (.bool false) ∧ w = w') := hid (fun w => by rw [← hf]; exact rfits_any n w h0 h1)
  have H3 := hid (Blk.new w 23 (markL m))
  have K3 := hid ((Kp.refl Nb w).alloc (.cells (markL m).toArray 23))
  have MI := hid (mark_infoL m hm.len)
  clear hm h0 h1 hf
  go_enter Try.func3, Try.ntmps3
  go_wp2_with fail
  refine (ifirst_any _).mono ?_
  rintro e w1 ⟨rfl, k1⟩
  obtain ⟨N, hN⟩ : ∃ N, w.heap.size = N := ⟨_, rfl⟩
  rw [hN] at H3 ⊢
  have H4 := hid (H3.out.kept k1 (fun h => h))
  have K4 := hid (K3.out.trans k1 (fun _ _ h => h))
  clear k1 H3 K3 hN
  go_wp2_with fail
  refine (CN.out _).mono ?_
  rintro e w2 ⟨rfl, rfl⟩
  go_wp2_with fail
  refine (CG.out _).mono ?_
  rintro e w3 ⟨rfl, rfl⟩
  obtain ⟨W2, hW2⟩ : ∃ W, W = w1.alloc (.cells (markL m).toArray 23 (0, 0)) := ⟨_, rfl⟩
  have HM2 := hid (make_mk1 m HM.out.len w1)
  rw [← hW2] at HM2
  have K2 : Hid (Kp Nb w1 W2) := hid (by rw [hW2]; exact (Kp.refl Nb w1).alloc _)
  have H5 := hid (H4.out.kept K2.out (fun h => h))
  have K5 := hid (K4.out.trans K2.out (fun _ _ h => h))
  clear hW2 K2 K4
  go_wp2_with (first
    | (refine wpList_load_mid (by rfl) 23 (.tmp 3) (by rfl) N 0 (by rfl) (markL m) _ (range_of H4.out) under_mark rfl MI.out ?_)
    | (refine wpList_val (by rfl) _ _ (exec_buildSlice rfl (qs := #[(0, markV m)]) (by simp [Act.eval, Act.put]) HM2.out) ?_))
  refine (CO.out _ _).mono ?_
  rintro e w4 ⟨rfl, rfl⟩
  go_wp2_with fail
  refine (CF.out _).mono ?_
  rintro e w5 ⟨rfl, rfl⟩
  go_wp2_with (refine wpList_load_on (by first | rfl | kernel_rfl) 23 (.tmp 3) (by rfl) N 0 (by rfl) (markL m) (range_of H5.out) under_mark rfl MI.out ?_)
  refine (CP.out _).mono ?_
  rintro e w6 ⟨rfl, k6⟩
  have K6 := hid (K5.out.trans k6 (fun _ _ h => h))
  have e1 := eq_p 0 0 0 w6
  clear k6
  go_wp2
  go_ret
  exact ⟨rfl, K6.out⟩
theorem iplaces_any (n : Int) (m : List Int) (w : World) (hm : MarkOk m) (h0 : -9223372036854775808 ≤ n) (h1 : n < 9223372036854775808) :
    Calls Try.prog 3 #[.int .i64 n, markV m] w fun e w' => e = .returned (.bool true) ∧ Kp Nb w w' := by
  cases hf : fitB n with
  | false => exact iplaces_no n m w hm h0 h1 hf
  | true =>
    have h : 3 ≤ n ∧ n ≤ 1536 ∧ n % 3 = 0 := of_decide_eq_true hf
    have h2 := iplaces_yes (n / 3).toNat m w hm (by omega) (by omega)
    have e : ((3 * (n / 3).toNat : Nat) : Int) = n := by omega
    rw [e] at h2
    exact h2

end Go.Proofs.Yteedceepoindeaa
