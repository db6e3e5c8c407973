/-
  Layer 11: places where the size doesn't fit. Condition: ints.
  Layer 11: the law IbltBack. Conditions: marks are what their kind holds.
  Layer 11: plain facts on sketches: the order of what is added says nothing; less one another they are those of what each has alone. Nothing is walked here. Conditions: marks are what their kind holds.
  Layer 11: the law IbltHolds. Conditions: marks are what their kind holds.
-/
import Derived.Test.YteedceepoindeaaIbK
import Derived.Test.YteedceepoindeaaPkA
namespace Go.Proofs.Yteedceepoindeaa
open Go.RowKit Go.Shelf
attribute [local go_sem] Oper.semAt_some

set_option maxRecDepth 100000 in
set_option maxHeartbeats 1000000 in
theorem places_no (n : Int) (m : List Int) (w : World) (h0 : -9223372036854775808 ≤ n) (h1 : n < 9223372036854775808) (hf : fitB n = false) :
    Calls Try.prog 13 #[.int .i64 n, markV m] w fun e w' => e = .returned (.agg #[.int .i64 0, .int .i64 0, .int .i64 0]) ∧ Kp Nb w w' := by
  have CF : Hid (∀ w, Calls Try.prog 12 #[.int .i64 n] w fun e w' => e = .returned (.bool false) ∧ w = w') := hid (fun w => by rw [← hf]; exact fits_any n w h0 h1)
  clear h0 h1 hf
  go_enter Try.func13, Try.ntmps13
  go_wp2_with fail
  refine (CF.out _).mono ?_
  rintro e w1 ⟨rfl, rfl⟩
  go_wp2
  have hz := Blk.new (w.alloc (.cells (markL m).toArray 23)) 31 [.int .i64 0, .int .i64 0, .int .i64 0]
  have hl := row_loadVar (P := Try.prog) (cs := [.int .i64 0, .int .i64 0, .int .i64 0]) Try.underlying31 rfl arr3_info hz 0 (fun j _ => by rw [Nat.zero_add])
  rw [World.size_alloc] at hl
  refine bodyPost_ret (v := .agg #[.int .i64 0, .int .i64 0, .int .i64 0]) (results_cell rfl _ (w.heap.size + 1) (by rfl) _ hl) ?_ ?_
  · rfl
  · exact ⟨rfl, ((Kp.refl Nb w).alloc _).alloc _⟩

theorem plain_int : Try.prog.plainKey 3 = true := by kernel_rfl
theorem eq_p (a b c : Int) (w : World) : Sem.run Try.prog (Op.equalIn 10000 31 (.agg #[.int .i64 a, .int .i64 b, .int .i64 c]) (.agg #[.int .i64 a, .int .i64 b, .int .i64 c])) w = .ok true w := by
  obtain ⟨i, hi⟩ : ∃ i, Try.prog.info? 3 = some i := Option.isSome_iff_exists.1 (by kernel_rfl : (Try.prog.info? 3).isSome = true)
  have cI : Try.prog.cellsOf 3 = 1 := by kernel_rfl
  rw [run_equalIn_array w 9999 _ _ Try.underlying31 hi, cI]
  obtain ⟨A, hA⟩ : ∃ A, (#[Value.int .i64 a, .int .i64 b, .int .i64 c] : Array Value) = A := ⟨_, rfl⟩
  have h0 : A[0 * 1]? = some (.int .i64 a) := by rw [← hA]; rfl
  have h1 : A[1 * 1]? = some (.int .i64 b) := by rw [← hA]; rfl
  have h2 : A[2 * 1]? = some (.int .i64 c) := by rw [← hA]; rfl
  have r0 := run_part_plain (P := Try.prog) w plain_int h0
  have r1 := run_part_plain (P := Try.prog) w plain_int h1
  have r2 := run_part_plain (P := Try.prog) w plain_int h2
  have qa := run_equalIn_int (P := Try.prog) w 9998 3 .i64 .i64 a a Try.underlying3
  have qb := run_equalIn_int (P := Try.prog) w 9998 3 .i64 .i64 b b Try.underlying3
  have qc := run_equalIn_int (P := Try.prog) w 9998 3 .i64 .i64 c c Try.underlying3
  rw [hA, show List.range 3 = [0, 1, 2] from rfl]
  unfold Op.eqItems
  rw [Sem.run_bind, r0, Result.andThen_ok, Sem.run_bind, r0, Result.andThen_ok, Sem.run_bind, qa, Result.andThen_ok]
  rw [beq_self_eq_true]
  unfold Op.eqItems
  rw [if_neg (by simp), Sem.run_bind, r1, Result.andThen_ok, Sem.run_bind, r1, Result.andThen_ok, Sem.run_bind, qb, Result.andThen_ok]
  rw [beq_self_eq_true]
  unfold Op.eqItems
  rw [if_neg (by simp), Sem.run_bind, r2, Result.andThen_ok, Sem.run_bind, r2, Result.andThen_ok, Sem.run_bind, qc, Result.andThen_ok]
  rw [beq_self_eq_true]
  unfold Op.eqItems
  rw [if_neg (by simp)]
  rfl
theorem wpList_load_on {P : Program} {d : TypeDesc} {ops : Array Oper} {rest : List Oper} {op : Oper} {a : Act} {w : World} {Q : Exit → Act → World → Prop} (hw : Region.wanted op (yielded ops a.tmps) = true) (ty : TypeId) (x : Operand) (ho : op.op = .load ty x)
    (b o : Nat) (hx : a.eval x = .pointer (some ⟨b, o, none⟩)) (cs : List Value) (hc : w.rangeAt b o cs) (hu : P.underlying ty = some d) (hd : d.isRow = true) (hi : (P.info? ty).map (·.size) = some cs.length)
    (h : wpList P ops Q rest (a.put op.dst (.agg cs.toArray)) w) : wpList P ops Q (op :: rest) a w :=
  wpList_step fun K hK => by rw [if_pos hw]; exact wp_load_mid ty x ho b o hx cs d hc hu hd hi (hK _ _ h)
theorem emptyB_zero (n : Nat) : emptyB (zeroS n) = true := by unfold emptyB zeroS; simp

set_option maxRecDepth 100000 in
set_option maxHeartbeats 4000000 in
theorem iplaces_yes (t : Nat) (m : List Int) (w : World) (hm : MarkOk m) (h0 : 0 < t) (h1 : t ≤ 512) :
    Calls Try.prog 3 #[.int .i64 ((3 * t : Nat) : Int), markV m] w fun e w' => e = .returned (.bool true) ∧ Kp Nb w w' := by
  obtain ⟨n, hn⟩ : ∃ n : Nat, 3 * t = n := ⟨_, rfl⟩
  have HM := hid hm
  have CP : Hid (∀ w, Calls Try.prog 13 #[.int .i64 (n : Int), markV m] w fun e w' => e = .returned (plcV t m) ∧ Kp Nb w w') := hid (fun w => by rw [← hn]; exact places_any t m w hm h0 h1)
  have CR : Hid (∀ w, Calls Try.prog 16 #[.int .i64 (n : Int), markV m] w fun e w' => e = .returned (plcV t m) ∧ Kp Nb w w') := hid (fun w => by rw [← hn]; exact rplaces_any t m w hm h0 h1)
  have CN : Hid (∀ w, Calls Try.prog 9 #[.int .i64 (n : Int)] w fun e w' => ∃ B C, e = .returned (.tuple #[.pointer (some ⟨B, 0, none⟩), .int .i64 0]) ∧ SkAt w' B C (zeroS n) ∧ w.heap.size ≤ B ∧ w.heap.size ≤ C ∧ Kp Nb w w') := hid (fun w => by rw [← hn]; exact new_yes t w h0 h1)
  have hf : fitB (n : Int) = true := decide_eq_true (by omega)
  have CF : Hid (∀ w, Calls Try.prog 12 #[.int .i64 (n : Int)] w fun e w' => e = .returned (.bool true) ∧ w = w') := hid (fun w => by rw [← hf]; exact fits_any n w (by omega) (by omega))
  have CG : Hid (∀ w, Calls Try.prog 10 #[.int .i64 (n : Int)] w fun e w' => e = .returned (.bool true) ∧ w = w') := hid (fun w => by rw [← hf]; exact rfits_any n w (by omega) (by omega))
  have HB : Hid (n ≤ 100000) := hid (by omega)
  obtain ⟨pv, hpv⟩ : ∃ v, plcV t m = v := ⟨_, rfl⟩
  have EP : Hid (∀ w, Sem.run Try.prog (Op.equalIn 10000 31 pv pv) w = .ok true w) := hid (fun w => by rw [← hpv]; exact eq_p _ _ _ w)
  have PA : Hid (∃ a b c, pv = .agg #[a, b, c]) := hid ⟨_, _, _, by rw [← hpv]; rfl⟩
  rw [hpv] at CP CR
  have H3 := hid (Blk.new w 23 (markL m))
  have K3 := hid ((Kp.refl Nb w).alloc (.cells (markL m).toArray 23))
  obtain ⟨N, hN⟩ : ∃ N, w.heap.size = N := ⟨_, rfl⟩
  rw [hN] at H3
  have HNN := hid hN
  rw [hn]
  clear hm h0 h1 hn hf hpv
  go_enter Try.func3, Try.ntmps3
  go_wp2_with fail
  refine (ifirst_any _).mono ?_
  rintro e w1 ⟨rfl, k1⟩
  have H4 := hid (H3.out.kept k1 (fun h => h))
  have K4 := hid (K3.out.trans k1 (fun _ _ h => h))
  clear k1 H3 K3 hN
  go_wp2_with fail
  refine (CN.out _).mono ?_
  rintro e w2 ⟨B, C, rfl, s2, -, -, k2⟩
  have H5 := hid (H4.out.kept k2 (fun h => h))
  have K5 := hid (K4.out.trans k2 (fun _ _ h => h))
  have S2 := hid s2
  clear k2 s2 H4 K4
  go_wp2_with fail
  refine (CG.out _).mono ?_
  rintro e w3 ⟨rfl, rfl⟩
  obtain ⟨pa, pb, pc, rfl⟩ := PA.out
  have CE : Hid (∀ wq, Kp Nb w2 wq → Calls Try.prog 15 #[.pointer (some ⟨B, 0, none⟩)] wq fun e w' => e = .returned (.bool true) ∧ Kp Nb wq w') := hid (fun wq k => by
    have h := empty_any B C (zeroS n) wq (S2.out.kept k (fun h => h) (fun h => h)) (by rw [zeroS_length]; exact HB.out)
    rw [emptyB_zero] at h
    exact h)
  have CS : Hid (∀ wq, Kp Nb w2 wq → Calls Try.prog 14 #[.pointer (some ⟨B, 0, none⟩)] wq fun e w' => e = .returned (.int .i64 (n : Int)) ∧ wq = w') := hid (fun wq k => by
    have h := size_any B C (zeroS n) wq (S2.out.kept k (fun h => h) (fun h => h))
    rw [zeroS_length] at h
    exact h)
  clear S2
  go_upto_region 7 with fail
  refine region_vals2 [none, none, none, none, some 25, none, none, none, none, none, none, none, none, none, none, none, none, none, none, none, none, none, none, none, none, none, none, none, none, none, none, none, none, none, none, none, none, none, none, none, none, none, none, none, none, none, none, none, none, none, none, none, some 0, some 1, some 2, some 3, some 4, some 5, some 6, some 7, some 8, some 9, some 10, some 11, some 12, some 13, some 14, some 15, some 16, some 17, some 18, some 19, some 20, some 21, some 22, some 23, some 24] [[(6, none)], [(52, some 0)], [(53, some 1)], [(5, none)], [(55, some 3)], [(0, none)], [(56, some 4), (57, some 5)], [(54, some 2), (58, some 6)], [(59, some 7)], [(5, none)], [(61, some 9)], [(60, some 8), (62, some 10)], [(63, some 11)], [(0, none)], [(65, some 13)], [(64, some 12), (66, some 14)], [(67, some 15)], [(0, none)], [(3, none)], [(69, some 17), (70, some 18)], [(0, none)], [(3, none)], [(72, some 20), (73, some 21)], [(71, some 19), (74, some 22)], [(68, some 16), (75, some 23)], [(76, some 24)]] [some 52, some 53, some 54, some 55, some 56, some 57, some 58, some 59, some 60, some 61, some 62, some 63, some 64, some 65, some 66, some 67, some 68, some 69, some 70, some 71, some 72, some 73, some 74, some 75, some 76, some 4] [.int .i64 0, .bool true, .bool true, .pointer (some ⟨B, 0, none⟩), .int .i64 (n : Int), .int .i64 (n : Int), .bool true, .bool true, .bool true, .pointer (some ⟨B, 0, none⟩), .bool true, .bool true, .bool true, .int .i64 (n : Int), .bool true, .bool true, .bool true, .int .i64 (n : Int), markV m, .agg #[pa, pb, pc], .int .i64 (n : Int), markV m, .agg #[pa, pb, pc], .bool true, .bool true, .bool true] (fun w' => Hid (Kp Nb w2 w')) (by kernel_rfl) (by kernel_rfl) (by kernel_rfl) ?hS (VFrom.all (n := 26) (by kernel_rfl) ?hstep) ?hend
  case hstep =>
    refine VFrom.cons (VStep.val _ rfl _ rfl (.int .i64 0) rfl trivial (fun ev wq hS he hr => ?_)) ?_
    · have r0 : ev (.tmp 6) = .int .i64 0 := hr (6, none) (by simp); have hk := he.1; clear hr he
      go_simp
    refine VFrom.cons (VStep.val _ rfl _ rfl (.bool true) rfl trivial (fun ev wq hS he hr => ?_)) ?_
    · have r0 : ev (.tmp 52) = .int .i64 0 := hr (52, some 0) (by simp); have hk := he.1; clear hr he
      go_simp
    refine VFrom.cons (VStep.val _ rfl _ rfl (.bool true) rfl trivial (fun ev wq hS he hr => ?_)) ?_
    · have r0 : ev (.tmp 53) = .bool true := hr (53, some 1) (by simp); have hk := he.1; clear hr he
      go_simp
    refine VFrom.cons (VStep.val _ rfl _ rfl (.pointer (some ⟨B, 0, none⟩)) rfl rfl (fun ev wq hS he hr => ?_)) ?_
    · have r0 : ev (.tmp 5) = .pointer (some ⟨B, 0, none⟩) := hr (5, none) (by simp); have hk := he.1; clear hr he
      go_simp
    refine VFrom.cons (VStep.call _ rfl _ rfl (.int .i64 (n : Int)) rfl rfl 14 #[.pointer (some ⟨B, 0, none⟩)] (fun ev wq hS he hr => ?_) (fun wq hS => ?_)) ?_
    · have r0 : ev (.tmp 55) = .pointer (some ⟨B, 0, none⟩) := hr (55, some 3) (by simp); have hk := he.1; have hf := he.2; clear hr he
      go_simp
    · exact (CS.out wq hS.out).mono fun e w' ⟨h1, h2⟩ => ⟨h1, by rw [← h2]; exact hS⟩
    refine VFrom.cons (VStep.val _ rfl _ rfl (.int .i64 (n : Int)) rfl rfl (fun ev wq hS he hr => ?_)) ?_
    · have r0 : ev (.tmp 0) = .int .i64 (n : Int) := hr (0, none) (by simp); have hk := he.1; clear hr he
      go_simp
    refine VFrom.cons (VStep.val _ rfl _ rfl (.bool true) rfl rfl (fun ev wq hS he hr => ?_)) ?_
    · have r0 : ev (.tmp 56) = .int .i64 (n : Int) := hr (56, some 4) (by simp); have r1 : ev (.tmp 57) = .int .i64 (n : Int) := hr (57, some 5) (by simp); have hk := he.1; clear hr he
      go_simp
    refine VFrom.cons (VStep.val _ rfl _ rfl (.bool true) rfl trivial (fun ev wq hS he hr => ?_)) ?_
    · have r0 : ev (.tmp 54) = .bool true := hr (54, some 2) (by simp); have r1 : ev (.tmp 58) = .bool true := hr (58, some 6) (by simp); have hk := he.1; clear hr he
      go_simp
    refine VFrom.cons (VStep.val _ rfl _ rfl (.bool true) rfl trivial (fun ev wq hS he hr => ?_)) ?_
    · have r0 : ev (.tmp 59) = .bool true := hr (59, some 7) (by simp); have hk := he.1; clear hr he
      go_simp
    refine VFrom.cons (VStep.val _ rfl _ rfl (.pointer (some ⟨B, 0, none⟩)) rfl rfl (fun ev wq hS he hr => ?_)) ?_
    · have r0 : ev (.tmp 5) = .pointer (some ⟨B, 0, none⟩) := hr (5, none) (by simp); have hk := he.1; clear hr he
      go_simp
    refine VFrom.cons (VStep.call _ rfl _ rfl (.bool true) rfl rfl 15 #[.pointer (some ⟨B, 0, none⟩)] (fun ev wq hS he hr => ?_) (fun wq hS => ?_)) ?_
    · have r0 : ev (.tmp 61) = .pointer (some ⟨B, 0, none⟩) := hr (61, some 9) (by simp); have hk := he.1; have hf := he.2; clear hr he
      go_simp
    · exact (CE.out wq hS.out).mono fun e w' ⟨h1, h2⟩ => ⟨h1, hS.out.trans h2 (fun _ _ h => h)⟩
    refine VFrom.cons (VStep.val _ rfl _ rfl (.bool true) rfl trivial (fun ev wq hS he hr => ?_)) ?_
    · have r0 : ev (.tmp 60) = .bool true := hr (60, some 8) (by simp); have r1 : ev (.tmp 62) = .bool true := hr (62, some 10) (by simp); have hk := he.1; clear hr he
      go_simp
    refine VFrom.cons (VStep.val _ rfl _ rfl (.bool true) rfl trivial (fun ev wq hS he hr => ?_)) ?_
    · have r0 : ev (.tmp 63) = .bool true := hr (63, some 11) (by simp); have hk := he.1; clear hr he
      go_simp
    refine VFrom.cons (VStep.val _ rfl _ rfl (.int .i64 (n : Int)) rfl rfl (fun ev wq hS he hr => ?_)) ?_
    · have r0 : ev (.tmp 0) = .int .i64 (n : Int) := hr (0, none) (by simp); have hk := he.1; clear hr he
      go_simp
    refine VFrom.cons (VStep.call _ rfl _ rfl (.bool true) rfl rfl 12 #[.int .i64 (n : Int)] (fun ev wq hS he hr => ?_) (fun wq hS => ?_)) ?_
    · have r0 : ev (.tmp 65) = .int .i64 (n : Int) := hr (65, some 13) (by simp); have hk := he.1; have hf := he.2; clear hr he
      go_simp
    · exact (CF.out wq).mono fun e w' ⟨h1, h2⟩ => ⟨h1, by rw [← h2]; exact hS⟩
    refine VFrom.cons (VStep.val _ rfl _ rfl (.bool true) rfl trivial (fun ev wq hS he hr => ?_)) ?_
    · have r0 : ev (.tmp 64) = .bool true := hr (64, some 12) (by simp); have r1 : ev (.tmp 66) = .bool true := hr (66, some 14) (by simp); have hk := he.1; clear hr he
      go_simp
    refine VFrom.cons (VStep.val _ rfl _ rfl (.bool true) rfl trivial (fun ev wq hS he hr => ?_)) ?_
    · have r0 : ev (.tmp 67) = .bool true := hr (67, some 15) (by simp); have hk := he.1; clear hr he
      go_simp
    refine VFrom.cons (VStep.val _ rfl _ rfl (.int .i64 (n : Int)) rfl rfl (fun ev wq hS he hr => ?_)) ?_
    · have r0 : ev (.tmp 0) = .int .i64 (n : Int) := hr (0, none) (by simp); have hk := he.1; clear hr he
      go_simp
    refine VFrom.cons (VStep.val _ rfl _ rfl (markV m) rfl rfl (fun ev wq hS he hr => ?_)) ?_
    · have r0 : ev (.tmp 3) = .pointer (some ⟨N, 0, none⟩) := hr (3, none) (by simp); have hk := he.1; clear hr he
      exact exec_load rfl r0 (load_mark HM.out (range_of (H5.out.kept hS.out (fun h => h))))
    refine VFrom.cons (VStep.call _ rfl _ rfl (.agg #[pa, pb, pc]) rfl rfl 13 #[.int .i64 (n : Int), markV m] (fun ev wq hS he hr => ?_) (fun wq hS => ?_)) ?_
    · have r0 : ev (.tmp 69) = .int .i64 (n : Int) := hr (69, some 17) (by simp); have r1 : ev (.tmp 70) = markV m := hr (70, some 18) (by simp); have hk := he.1; have hf := he.2; clear hr he
      go_simp
    · exact (CP.out wq).mono fun e w' ⟨h1, h2⟩ => ⟨h1, hS.out.trans h2 (fun _ _ h => h)⟩
    refine VFrom.cons (VStep.val _ rfl _ rfl (.int .i64 (n : Int)) rfl rfl (fun ev wq hS he hr => ?_)) ?_
    · have r0 : ev (.tmp 0) = .int .i64 (n : Int) := hr (0, none) (by simp); have hk := he.1; clear hr he
      go_simp
    refine VFrom.cons (VStep.val _ rfl _ rfl (markV m) rfl rfl (fun ev wq hS he hr => ?_)) ?_
    · have r0 : ev (.tmp 3) = .pointer (some ⟨N, 0, none⟩) := hr (3, none) (by simp); have hk := he.1; clear hr he
      exact exec_load rfl r0 (load_mark HM.out (range_of (H5.out.kept hS.out (fun h => h))))
    refine VFrom.cons (VStep.call _ rfl _ rfl (.agg #[pa, pb, pc]) rfl rfl 16 #[.int .i64 (n : Int), markV m] (fun ev wq hS he hr => ?_) (fun wq hS => ?_)) ?_
    · have r0 : ev (.tmp 72) = .int .i64 (n : Int) := hr (72, some 20) (by simp); have r1 : ev (.tmp 73) = markV m := hr (73, some 21) (by simp); have hk := he.1; have hf := he.2; clear hr he
      go_simp
    · exact (CR.out wq).mono fun e w' ⟨h1, h2⟩ => ⟨h1, hS.out.trans h2 (fun _ _ h => h)⟩
    refine VFrom.cons (VStep.val _ rfl _ rfl (.bool true) rfl rfl (fun ev wq hS he hr => ?_)) ?_
    · have r0 : ev (.tmp 71) = .agg #[pa, pb, pc] := hr (71, some 19) (by simp); have r1 : ev (.tmp 74) = .agg #[pa, pb, pc] := hr (74, some 22) (by simp); have hk := he.1; clear hr he
      have e1 := EP.out wq
      go_simp
    refine VFrom.cons (VStep.val _ rfl _ rfl (.bool true) rfl trivial (fun ev wq hS he hr => ?_)) ?_
    · have r0 : ev (.tmp 68) = .bool true := hr (68, some 16) (by simp); have r1 : ev (.tmp 75) = .bool true := hr (75, some 23) (by simp); have hk := he.1; clear hr he
      go_simp
    refine VFrom.cons (VStep.val _ rfl _ rfl (.bool true) rfl trivial (fun ev wq hS he hr => ?_)) ?_
    · have r0 : ev (.tmp 76) = .bool true := hr (76, some 24) (by simp); have hk := he.1; clear hr he
      go_simp
    exact VFrom.nil
  case hS => exact hid ((Kp.refl Nb w2).drew)
  case hend =>
    intro w9 h9
    have K9 := hid (K5.out.trans h9.out (fun _ _ h => h))
    clear h9
    simp only [putAll, List.zip_cons_cons, List.zip_nil_right, List.foldl_cons, List.foldl_nil, Act.put, List.setIfInBounds_toArray, List.set_cons_zero, List.set_cons_succ]
    go_wp2
    go_ret
    exact ⟨rfl, K9.out⟩

set_option maxRecDepth 100000 in
set_option maxHeartbeats 4000000 in
theorem iplaces_no (n : Int) (m : List Int) (w : World) (hm : MarkOk m) (h0 : -9223372036854775808 ≤ n) (h1 : n < 9223372036854775808) (hf : fitB n = false) :
    Calls Try.prog 3 #[.int .i64 n, markV m] w fun e w' => e = .returned (.bool true) ∧ Kp Nb w w' := by
  have HM := hid hm
  have CP : Hid (∀ w, Calls Try.prog 13 #[.int .i64 n, markV m] w fun e w' => e = .returned (.agg #[.int .i64 0, .int .i64 0, .int .i64 0]) ∧ Kp Nb w w') := hid (fun w => places_no n m w h0 h1 hf)
  have CN : Hid (∀ w, Calls Try.prog 9 #[.int .i64 n] w fun e w' => e = .returned (.tuple #[.pointer none, .int .i64 2]) ∧ w = w') := hid (fun w => new_no n w h0 h1 hf)
  have CO : Hid (∀ v w, Calls Try.prog 11 #[.int .i64 n, v] w fun e w' => e = .returned (.tuple #[.pointer none, .int .i64 2]) ∧ w = w') := hid (fun v w => of_no n v w h0 h1 hf)
  have CF : Hid (∀ w, Calls Try.prog 12 #[.int .i64 n] w fun e w' => e = .returned (.bool false) ∧ w = w') := hid (fun w => by rw [← hf]; exact fits_any n w h0 h1)
  have CG : Hid (∀ w, Calls Try.prog 10 #[.int .i64 n] w fun e w' => e = .returned (.bool false) ∧ w = w') := hid (fun w => by rw [← hf]; exact rfits_any n w h0 h1)
  have H3 := hid (Blk.new w 23 (markL m))
  have K3 := hid ((Kp.refl Nb w).alloc (.cells (markL m).toArray 23))
  have MI := hid (mark_infoL m hm.len)
  clear hm h0 h1 hf
  go_enter Try.func3, Try.ntmps3
  go_wp2_with fail
  refine (ifirst_any _).mono ?_
  rintro e w1 ⟨rfl, k1⟩
  obtain ⟨N, hN⟩ : ∃ N, w.heap.size = N := ⟨_, rfl⟩
  rw [hN] at H3 ⊢
  have H4 := hid (H3.out.kept k1 (fun h => h))
  have K4 := hid (K3.out.trans k1 (fun _ _ h => h))
  clear k1 H3 K3 hN
  go_wp2_with fail
  refine (CN.out _).mono ?_
  rintro e w2 ⟨rfl, rfl⟩
  go_wp2_with fail
  refine (CG.out _).mono ?_
  rintro e w3 ⟨rfl, rfl⟩
  obtain ⟨W2, hW2⟩ : ∃ W, W = w1.alloc (.cells (markL m).toArray 23 (0, 0)) := ⟨_, rfl⟩
  have HM2 := hid (make_mk1 m HM.out.len w1)
  rw [← hW2] at HM2
  have K2 : Hid (Kp Nb w1 W2) := hid (by rw [hW2]; exact (Kp.refl Nb w1).alloc _)
  have H5 := hid (H4.out.kept K2.out (fun h => h))
  have K5 := hid (K4.out.trans K2.out (fun _ _ h => h))
  clear hW2 K2 K4
  go_wp2_with (first
    | (refine wpList_load_mid (by rfl) 23 (.tmp 3) (by rfl) N 0 (by rfl) (markL m) _ (range_of H4.out) under_mark rfl MI.out ?_)
    | (refine wpList_val (by rfl) _ _ (exec_buildSlice rfl (qs := #[(0, markV m)]) (by simp [Act.eval, Act.put]) HM2.out) ?_))
  refine (CO.out _ _).mono ?_
  rintro e w4 ⟨rfl, rfl⟩
  go_wp2_with fail
  refine (CF.out _).mono ?_
  rintro e w5 ⟨rfl, rfl⟩
  go_wp2_with (refine wpList_load_on (by first | rfl | kernel_rfl) 23 (.tmp 3) (by rfl) N 0 (by rfl) (markL m) (range_of H5.out) under_mark rfl MI.out ?_)
  refine (CP.out _).mono ?_
  rintro e w6 ⟨rfl, k6⟩
  have K6 := hid (K5.out.trans k6 (fun _ _ h => h))
  have e1 := eq_p 0 0 0 w6
  clear k6
  go_wp2
  go_ret
  exact ⟨rfl, K6.out⟩
theorem iplaces_any (n : Int) (m : List Int) (w : World) (hm : MarkOk m) (h0 : -9223372036854775808 ≤ n) (h1 : n < 9223372036854775808) :
    Calls Try.prog 3 #[.int .i64 n, markV m] w fun e w' => e = .returned (.bool true) ∧ Kp Nb w w' := by
  cases hf : fitB n with
  | false => exact iplaces_no n m w hm h0 h1 hf
  | true =>
    have h : 3 ≤ n ∧ n ≤ 1536 ∧ n % 3 = 0 := of_decide_eq_true hf
    have h2 := iplaces_yes (n / 3).toNat m w hm (by omega) (by omega)
    have e : ((3 * (n / 3).toNat : Nat) : Int) = n := by omega
    rw [e] at h2
    exact h2

end Go.Proofs.Yteedceepoindeaa

namespace Go.Proofs.Yteedceepoindeaa
open Go.RowKit Go.Shelf

/-- The sum of counts. -/
def cnt : List Cel → Int
  | [] => 0
  | x :: r => x.1 + cnt r
theorem cnt_append : ∀ (a b : List Cel), cnt (a ++ b) = cnt a + cnt b
  | [], b => by simp [cnt]
  | x :: r, b => by rw [List.cons_append, cnt, cnt, cnt_append r b]; omega
theorem cnt_snoc (cs : List Cel) (k : Nat) (h : k < cs.length) : cnt (cs.take (k + 1)) = cnt (cs.take k) + (celAt cs k).1 := by
  unfold celAt
  rw [List.take_succ_eq_append_getElem h, cnt_append, List.getElem?_eq_getElem h]
  simp [cnt]
theorem cnt_set : ∀ (cs : List Cel) (i : Nat) (x : Cel), i < cs.length → cnt (cs.set i x) = cnt cs + x.1 - (celAt cs i).1
  | [], i, x, h => absurd h (Nat.not_lt_zero _)
  | y :: r, 0, x, _ => by simp [cnt, celAt]; omega
  | y :: r, i + 1, x, h => by
    have e := cnt_set r i x (by simpa using h)
    have e2 : celAt (y :: r) (i + 1) = celAt r i := by simp [celAt]
    rw [List.set_cons_succ, cnt, cnt, e, e2]
    omega
theorem wrap64_mod (x : Int) : ∃ q : Int, IntKind.i64.wrap x = x + 18446744073709551616 * q := by
  rw [IntKind.wrap_i64]
  refine ⟨-((x + 9223372036854775808) / 18446744073709551616), ?_⟩
  omega
theorem cnt_upd (t : Nat) (m : List Int) (cs : List Cel) (hl : cs.length = 3 * t) (h0 : 0 < t) : ∀ k, k ≤ 3 → ∃ q : Int, cnt (updP addC t m cs k) = cnt cs + k + 18446744073709551616 * q
  | 0, _ => ⟨0, by rw [updP]; omega⟩
  | k + 1, hk => by
    obtain ⟨q, hq⟩ := cnt_upd t m cs hl h0 k (by omega)
    rw [updP, cnt_set _ _ _ (by rw [updP_length, hl]; exact plc_lt t m k h0 (by omega))]
    obtain ⟨q2, hq2⟩ := wrap64_mod ((celAt (updP addC t m cs k) (plc t m k)).1 + 1)
    have e : (addC (celAt (updP addC t m cs k) (plc t m k)) (ofC m)).1 = IntKind.i64.wrap ((celAt (updP addC t m cs k) (plc t m k)).1 + 1) := rfl
    rw [e, hq2, hq]
    refine ⟨q + q2, ?_⟩
    push_cast
    omega
theorem cnt_zero : ∀ n, cnt (zeroS n) = 0
  | 0 => rfl
  | n + 1 => by
    have h := cnt_zero n
    unfold zeroS at h ⊢
    rw [List.replicate_succ, cnt, h]
    rfl
theorem cnt_fold (t : Nat) (h0 : 0 < t) : ∀ (ms : List (List Int)) (cs : List Cel), cs.length = 3 * t → ∃ q : Int, cnt (ms.foldl (fun cs m => updP addC t m cs 3) cs) = cnt cs + 3 * ms.length + 18446744073709551616 * q
  | [], cs, _ => ⟨0, by simp⟩
  | m :: r, cs, hl => by
    obtain ⟨q, hq⟩ := cnt_upd t m cs hl h0 3 (by omega)
    obtain ⟨q2, hq2⟩ := cnt_fold t h0 r (updP addC t m cs 3) (by rw [updP_length, hl])
    refine ⟨q + q2, ?_⟩
    rw [List.foldl_cons, hq2, hq, List.length_cons]
    push_cast
    omega
theorem cnt_of (t : Nat) (ms : List (List Int)) (h0 : 0 < t) (hl : ms.length ≤ 60) : IntKind.i64.wrap (cnt (ofS t ms)) = 3 * (ms.length : Int) := by
  obtain ⟨q, hq⟩ := cnt_fold t h0 ms (zeroS (3 * t)) (zeroS_length _)
  rw [show ofS t ms = ms.foldl (fun cs m => updP addC t m cs 3) (zeroS (3 * t)) from rfl, hq, cnt_zero]
  rw [IntKind.wrap_i64]
  omega
theorem celAt_set (cs : List Cel) (i j : Nat) (x : Cel) (h : i < cs.length) : celAt (cs.set i x) j = if i = j then x else celAt cs j := by
  unfold celAt
  rw [List.getElem?_set]
  split
  · simp
  · rfl
theorem subP_at (a b : List Cel) : ∀ k, k ≤ a.length → ∀ j, celAt (subP a b k) j = if j < k then subC (celAt a j) (celAt b j) else celAt a j
  | 0, _, j => by simp [subP]
  | k + 1, hk, j => by
    rw [subP, celAt_set _ _ _ _ (by rw [subP_length]; omega), subP_at a b k (by omega) k, subP_at a b k (by omega) j]
    by_cases e : k = j
    · subst e; simp
    · rw [if_neg e]
      by_cases h : j < k
      · rw [if_pos h, if_pos (by omega)]
      · rw [if_neg h, if_neg (by omega)]
theorem subS_at (a b : List Cel) (j : Nat) (h : j < a.length) : celAt (subS a b) j = subC (celAt a j) (celAt b j) := by
  unfold subS
  rw [subP_at a b a.length (Nat.le_refl _), if_pos h]
theorem subS_length (a b : List Cel) : (subS a b).length = a.length := subP_length a b _
theorem emptyB_of {cs : List Cel} (h : ∀ j, j < cs.length → celAt cs j = c0) : emptyB cs = true := by
  unfold emptyB
  rw [List.all_eq_true]
  intro x hx
  obtain ⟨j, hj, rfl⟩ := List.mem_iff_getElem.1 hx
  have e := h j hj
  unfold celAt at e
  rw [List.getElem?_eq_getElem hj] at e
  exact decide_eq_true e
theorem subS_self {a : List Cel} (ha : AllOk a) : emptyB (subS a a) = true :=
  emptyB_of fun j hj => by
    rw [subS_length] at hj
    rw [subS_at a a j hj]
    exact subC_self (ha.at j)
theorem ofS_ok (t : Nat) : ∀ (ms : List (List Int)) (cs : List Cel), AllOk cs → AllOk (ms.foldl (fun cs m => updP addC t m cs 3) cs)
  | [], _, h => h
  | m :: r, _, h => ofS_ok t r _ (updP_ok (fun _ _ => addC_ok) t m h 3)

/-- The loop that sums counts. -/
def BkR (w : World) (cs : List Cel) (i u : Value) (wr : World) : Prop := ∃ k : Nat, k ≤ cs.length ∧ i = .int .i64 k ∧ u = .int .i64 (IntKind.i64.wrap (cnt (cs.take k))) ∧ Hid (Kp Nb w wr)

set_option maxRecDepth 100000 in
set_option maxHeartbeats 4000000 in
theorem iback_no (n : Int) (v : Value) (ms : List (List Int)) (w : World) (hs : MkSl w v ms) (hn : -9223372036854775808 ≤ n ∧ n < 9223372036854775808) (h : fitB n = false ∨ 300 < n ∨ 60 < ms.length) :
    Calls Try.prog 6 #[.int .i64 n, v] w fun e w' => e = .returned (.bool true) ∧ Kp Nb w w' := by
  obtain ⟨y, d, rfl⟩ := hs.shape
  obtain ⟨b, hb⟩ : ∃ b, fitB n = b := ⟨_, rfl⟩
  have CF : Hid (∀ w, Calls Try.prog 10 #[.int .i64 n] w fun e w' => e = .returned (.bool b) ∧ w = w') := hid (fun w => by rw [← hb]; exact rfits_any n w hn.1 hn.2)
  rw [hb] at h
  obtain ⟨L, hL⟩ : ∃ L, ms.length = L := ⟨_, rfl⟩
  rw [hL] at h ⊢
  clear hb hn hs hL
  cases b with
  | false =>
    clear h
    go_enter Try.func6, Try.ntmps6
    go_wp2_with fail
    refine (ifirst_any _).mono ?_
    rintro e w1 ⟨rfl, k1⟩
    have K1 := hid k1
    clear k1
    go_wp2_with fail
    refine (CF.out _).mono ?_
    rintro e w2 ⟨rfl, rfl⟩
    go_wp2
    go_ret
    exact ⟨rfl, K1.out⟩
  | true =>
    by_cases h3 : 300 < n
    · clear h
      go_enter Try.func6, Try.ntmps6
      go_wp2_with fail
      refine (ifirst_any _).mono ?_
      rintro e w1 ⟨rfl, k1⟩
      have K1 := hid k1
      clear k1
      go_wp2_with fail
      refine (CF.out _).mono ?_
      rintro e w2 ⟨rfl, rfl⟩
      have d1 : decide (n > 300) = true := decide_eq_true h3
      go_wp2
      go_ret
      exact ⟨rfl, K1.out⟩
    · have h6 : 60 < L := by simpa [h3] using h
      clear h
      go_enter Try.func6, Try.ntmps6
      go_wp2_with fail
      refine (ifirst_any _).mono ?_
      rintro e w1 ⟨rfl, k1⟩
      have K1 := hid k1
      clear k1
      go_wp2_with fail
      refine (CF.out _).mono ?_
      rintro e w2 ⟨rfl, rfl⟩
      have d1 : decide (n > 300) = false := decide_eq_false (by omega)
      have d2 : decide ((L : Int) > 60) = true := decide_eq_true (by omega)
      go_wp2
      go_ret
      exact ⟨rfl, K1.out⟩

set_option maxRecDepth 100000 in
set_option maxHeartbeats 8000000 in
theorem iback_yes (t : Nat) (v : Value) (ms : List (List Int)) (w : World) (h0 : 0 < t) (h1 : t ≤ 100) (hs : MkSl w v ms) (hl : ms.length ≤ 60) :
    Calls Try.prog 6 #[.int .i64 ((3 * t : Nat) : Int), v] w fun e w' => e = .returned (.bool true) ∧ Kp Nb w w' := by
  obtain ⟨y, d, rfl⟩ := hs.shape
  have HS := hid hs
  have OF : Hid (∀ (v : Value) w, MkSl w v ms → Calls Try.prog 11 #[.int .i64 ((3 * t : Nat) : Int), v] w fun e w' => ∃ B C, e = .returned (.tuple #[.pointer (some ⟨B, 0, none⟩), .int .i64 0]) ∧ SkAt w' B C (ofS t ms) ∧ w.heap.size ≤ B ∧ w.heap.size ≤ C ∧ Kp Nb w w') := hid (fun v w h => of_yes t v ms w h0 (by omega) h)
  have CF : Hid (∀ w, Calls Try.prog 10 #[.int .i64 ((3 * t : Nat) : Int)] w fun e w' => e = .returned (.bool true) ∧ w = w') := hid (fun w => by
    have h := rfits_any ((3 * t : Nat) : Int) w (by omega) (by omega)
    rw [show fitB ((3 * t : Nat) : Int) = true from decide_eq_true (by omega)] at h
    exact h)
  have HC := hid (cnt_of t ms h0 hl)
  have HO : Hid (AllOk (ofS t ms)) := hid (ofS_ok t ms _ (zeroS_ok _))
  have HL : Hid ((ofS t ms).length ≤ 300) := hid (by rw [ofS_length]; omega)
  have HF : Hid (fitB ((ofS t ms).length) = true) := hid (by rw [ofS_length]; exact decide_eq_true (by omega))
  have HM := hid hl
  obtain ⟨n, hn⟩ : ∃ n, 3 * t = n := ⟨_, rfl⟩
  rw [hn] at OF CF ⊢
  have hn3 : n ≤ 300 := by omega
  obtain ⟨cs, hcs⟩ : ∃ cs, ofS t ms = cs := ⟨_, rfl⟩
  rw [hcs] at OF HC HO HL HF
  have HT : Hid (cs.take (1536 : Int).toNat = cs) := hid (List.take_of_length_le (by have := HL.out; omega))
  obtain ⟨L, hL⟩ : ∃ L, ms.length = L := ⟨_, rfl⟩
  rw [hL] at HC HM HS hl
  clear hcs h0 h1 hn
  rw [hL]
  clear hs
  go_enter Try.func6, Try.ntmps6
  go_wp2_with fail
  refine (ifirst_any _).mono ?_
  rintro e w1 ⟨rfl, k1⟩
  have K1 := hid k1
  have HS1 := hid (HS.out.kept k1)
  clear k1 HS
  go_wp2_with fail
  refine (CF.out _).mono ?_
  rintro e w2 ⟨rfl, rfl⟩
  have d1 : decide ((n : Int) > 300) = false := decide_eq_false (by omega)
  have d2 : decide ((L : Int) > 60) = false := decide_eq_false (by omega)
  go_wp2_with fail
  refine (OF.out _ _ HS1.out).mono ?_
  rintro e w2 ⟨B, C, rfl, s2, -, -, k2⟩
  have S2 := hid s2
  have K2 := hid (K1.out.trans k2 (fun _ _ h => h))
  clear s2 k2 K1 HS1 d1 d2 hn3
  go_wp2_with fail
  refine (gcells_any B C cs 1536 w2 S2.out (by have := HL.out; omega)).mono ?_
  rintro e w3 ⟨v3, rfl, r3, k3⟩
  rw [HT.out] at r3
  have R3 := hid r3
  have S3 := hid (S2.out.kept k3 (fun h => h) (fun h => h))
  have K3 := hid (K2.out.trans k3 (fun _ _ h => h))
  obtain ⟨y3, d3, rfl⟩ := r3.shape
  clear r3 k3 S2 K2
  go_wp2_with fail
  refine (from_yes _ cs w3 R3.out HO.out HF.out).mono ?_
  rintro e w4 ⟨B4, C4, rfl, s4, -, -, k4⟩
  have S4 := hid s4
  have S3' := hid (S3.out.kept k4 (fun h => h) (fun h => h))
  have K4 := hid (K3.out.trans k4 (fun _ _ h => h))
  clear s4 k4 S3 K3 R3
  go_wp2_with fail
  refine (ksub_any B C B4 C4 cs cs w4 S3'.out S4.out rfl (by have := HL.out; omega)).mono ?_
  rintro e w5 ⟨B5, C5, rfl, s5, -, -, k5⟩
  have S5 := hid s5
  have S6 := hid (S3'.out.kept k5 (fun h => h) (fun h => h))
  have K5 := hid (K4.out.trans k5 (fun _ _ h => h))
  clear s5 k5 S4 S3' K4
  go_wp2_with fail
  refine (gcells_any B C cs 1536 w5 S6.out (by have := HL.out; omega)).mono ?_
  rintro e w6 ⟨v6, rfl, r6, k6⟩
  rw [HT.out] at r6
  have R6 := hid r6
  have S7 := hid (S5.out.kept k6 (fun h => h) (fun h => h))
  have K6 := hid (K5.out.trans k6 (fun _ _ h => h))
  obtain ⟨y6, d6, rfl⟩ := r6.shape
  clear r6 k6 S5 S6 K5
  go_wp2
  go_loopw [51, 11] (BkR w6 cs) (fun i _ _ => cs.length - (intOf i).toNat)
  case atStart => exact ⟨0, by omega, rfl, rfl, hid (Kp.refl _ _)⟩
  case round =>
    obtain ⟨k, hk, rfl, rfl, HK⟩ := hrel
    by_cases hlt : k < cs.length
    · rcases R6.out.kept HK.out with ⟨_, e0⟩ | ⟨blk, off, cap, e1, hc, hm, hcell⟩
      · rw [e0] at hlt
        exact absurd hlt (Nat.not_lt_zero _)
      · injection e1 with e1 _ e2
        subst e1 e2
        have HR := hid (show wr.rangeAt blk (off + k * 18) (cl (celAt cs k)) from hcell k hlt)
        have XO := hid (HO.out.at k)
        have HQ := hid (cnt_snoc cs k hlt)
        unfold maxLen at hm
        obtain ⟨x, hx⟩ : ∃ x, celAt cs k = x := ⟨_, rfl⟩
        rw [hx] at HR XO HQ
        have HN : cs.length ≤ 300 := HL.out
        have HW : Hid (IntKind.i64.wrap (IntKind.i64.wrap (cnt (cs.take k)) + x.1) = IntKind.i64.wrap (cnt (cs.take (k + 1)))) := hid (by
          rw [HQ.out]
          simp only [IntKind.wrap_i64]
          omega)
        obtain ⟨c1, hc1⟩ : ∃ c, IntKind.i64.wrap (cnt (cs.take k)) = c := ⟨_, rfl⟩
        obtain ⟨c2, hc2⟩ : ∃ c, IntKind.i64.wrap (cnt (cs.take (k + 1))) = c := ⟨_, rfl⟩
        rw [hc1, hc2] at HW
        rw [hc1]
        have HC2 := hid hc2
        obtain ⟨d', hu, hd⟩ := cell_under
        have HU := hid hu
        have CI := hid (cell_infoL x.1 x.2.1 x.2.2 XO.out.mark.len)
        have hz := Blk.new wr 41 (cl c0)
        obtain ⟨W2, hW2⟩ : ∃ W, W = (wr.alloc (.cells (cl c0).toArray 41)).setCells wr.heap.size 0 (cl x) := ⟨_, rfl⟩
        have kW : Kp Nb wr W2 := by rw [hW2]; exact Kp.setCells (fun h => absurd h (Nat.lt_irrefl _)) _ 0 _ ((Kp.refl Nb wr).alloc _)
        have TH := hid (cell_there hz (cl_length c0_ok) XO.out)
        have SI := hid (cell_sized XO.out)
        have ON := hid (all_oneCell_toArray (cellL_one x.1 x.2.1 x.2.2))
        have HZ : Blk W2 wr.heap.size 41 (cl x) := by rw [hW2]; exact row_set hz (by rw [cl_length XO.out, cl_length c0_ok])
        have h9 := HZ.cell 0
        rw [show (cl x)[0]? = some (.int .i64 x.1) from rfl] at h9
        have HK1 := hid (HK.out.trans kW (fun _ _ h => h))
        clear hz kW hcell hu HZ hc1 hc2 hx HQ
        go_upto_region 14 with (first
          | (refine wpList_load_mid (by rfl) 41 (.tmp 53) (by rfl) blk (off + k * 18) (by rfl) (cl x) d' HR.out HU.out hd CI.out ?_)
          | (refine wpList_store_mid (by rfl) 41 (.tmp 13) (.tmp 54) (by rfl) wr.heap.size 0 (cl x).toArray (by rfl) (by rfl) TH.out SI.out ON.out ?_))
        rw [show (wr.alloc (.cells #[.int .i64 0, .int .u8 0, .int .u8 0, .int .u8 0, .int .u8 0, .int .u8 0, .int .u8 0, .int .u8 0, .int .u8 0, .int .u8 0, .int .u8 0, .int .u8 0, .int .u8 0, .int .u8 0, .int .u8 0, .int .u8 0, .int .u8 0, .int .u64 0] 41)).setCells wr.heap.size 0 (cl x) = W2 from hW2.symm]
        clear hW2 TH SI ON
        obtain ⟨x1, hx1⟩ : ∃ c, x.1 = c := ⟨_, rfl⟩
        rw [hx1] at HW h9
        have hw := HW.out
        clear hx1
        go_wp2
        go_roundw
        case rel => exact ⟨k + 1, by omega, by go_num, by rw [HC2.out], HK1⟩
        case measure => simp [intOf]; omega
    · obtain rfl : k = cs.length := by omega
      have hC := HC.out
      have EB := hid (fun w => empty_any B5 C5 (subS cs cs) w)
      have HB : Hid (emptyB (subS cs cs) = true) := hid (subS_self HO.out)
      have S8 := hid (S7.out.kept HK.out (fun h => h) (fun h => h))
      have LE : Hid ((subS cs cs).length ≤ 100000) := hid (by rw [subS_length]; have := HL.out; omega)
      have K8 := hid (K6.out.trans HK.out (fun _ _ h => h))
      rw [List.take_length, hC]
      clear hC HC HK
      go_wp2_with fail
      refine (EB.out _ S8.out LE.out).mono ?_
      rintro e w8 ⟨rfl, k8⟩
      rw [HB.out]
      have K9 := hid (K8.out.trans k8 (fun _ _ h => h))
      clear k8
      go_wp2
      go_ret
      exact ⟨rfl, K9.out⟩
theorem iback_any (n : Int) (v : Value) (ms : List (List Int)) (w : World) (hs : MkSl w v ms) (h0 : -9223372036854775808 ≤ n) (h1 : n < 9223372036854775808) :
    Calls Try.prog 6 #[.int .i64 n, v] w fun e w' => e = .returned (.bool true) ∧ Kp Nb w w' := by
  by_cases h : fitB n = false ∨ 300 < n ∨ 60 < ms.length
  · exact iback_no n v ms w hs ⟨h0, h1⟩ h
  · have hf : fitB n = true := by cases e : fitB n with
      | true => rfl
      | false => exact absurd (.inl e) h
    have hr : 3 ≤ n ∧ n ≤ 1536 ∧ n % 3 = 0 := of_decide_eq_true hf
    have h2 : ¬ 300 < n := fun e => h (.inr (.inl e))
    have h3 : ¬ 60 < ms.length := fun e => h (.inr (.inr e))
    have h4 := iback_yes (n / 3).toNat v ms w (by omega) (by omega) hs (by omega)
    have e : ((3 * (n / 3).toNat : Nat) : Int) = n := by omega
    rw [e] at h4
    exact h4

end Go.Proofs.Yteedceepoindeaa

namespace Go.Proofs.Yteedceepoindeaa
open Go.RowKit

theorem plc_ne (t : Nat) (m : List Int) {i k : Nat} (ht : 0 < t) (h : i < k) : plc t m i ≠ plc t m k := by
  unfold plc
  have h1 := Nat.mod_lt (hs4 m / 2097152 ^ i % 2097152).toNat ht
  have h2 : (i + 1) * t ≤ k * t := Nat.mul_le_mul_right t h
  rw [Nat.succ_mul] at h2
  omega
def hit (t : Nat) (m : List Int) (k j : Nat) : Bool := (List.range k).any fun i => decide (plc t m i = j)
theorem hit_succ (t : Nat) (m : List Int) (k j : Nat) : hit t m (k + 1) j = (hit t m k j || decide (plc t m k = j)) := by
  unfold hit
  rw [List.range_succ, List.any_append]
  simp
theorem hit_not {t : Nat} {m : List Int} {k j : Nat} (ht : 0 < t) (h : plc t m k = j) : hit t m k j = false := by
  unfold hit
  rw [List.any_eq_false]
  intro i hi
  have := plc_ne t m ht (List.mem_range.1 hi)
  simpa [← h] using this
theorem upd_at (g : Cel → Cel → Cel) (t : Nat) (m : List Int) (cs : List Cel) (ht : 0 < t) (hl : cs.length = 3 * t) (j : Nat) : ∀ k, k ≤ 3 → celAt (updP g t m cs k) j = if hit t m k j = true then g (celAt cs j) (ofC m) else celAt cs j
  | 0, _ => by simp [updP, hit]
  | k + 1, hk => by
    have hp := plc_lt t m k ht (by omega)
    rw [updP, celAt_set _ _ _ _ (by rw [updP_length, hl]; exact hp), hit_succ]
    by_cases e : plc t m k = j
    · rw [if_pos e, decide_eq_true e, Bool.or_true, if_pos rfl, upd_at g t m cs ht hl (plc t m k) k (by omega), e, hit_not ht e]
      simp
    · rw [if_neg e, decide_eq_false e, Bool.or_false, upd_at g t m cs ht hl j k (by omega)]
/-- What a mark lays into a cell. -/
def ctr (t : Nat) (j : Nat) (m : List Int) : Cel := if hit t m 3 j = true then ofC m else c0
theorem ctr_ok (t j : Nat) {m : List Int} (h : MarkOk m) : CelOk (ctr t j m) := by
  unfold ctr
  split
  · exact ofC_ok h
  · exact c0_ok
theorem subC_zero {x : Cel} (hx : CelOk x) : subC x c0 = x := by
  have h := subC_back hx c0_ok
  rw [addC_zero hx] at h
  exact h
theorem add_at (t : Nat) (m : List Int) (cs : List Cel) (ho : AllOk cs) (ht : 0 < t) (hl : cs.length = 3 * t) (j : Nat) : celAt (updP addC t m cs 3) j = addC (celAt cs j) (ctr t j m) := by
  rw [upd_at addC t m cs ht hl j 3 (Nat.le_refl _)]
  unfold ctr
  split
  · rfl
  · exact (addC_zero (ho.at j)).symm
theorem rem_at (t : Nat) (m : List Int) (cs : List Cel) (ho : AllOk cs) (ht : 0 < t) (hl : cs.length = 3 * t) (j : Nat) : celAt (updP subC t m cs 3) j = subC (celAt cs j) (ctr t j m) := by
  rw [upd_at subC t m cs ht hl j 3 (Nat.le_refl _)]
  unfold ctr
  split
  · rfl
  · exact (subC_zero (ho.at j)).symm
theorem adds_at (t : Nat) (ht : 0 < t) (j : Nat) : ∀ (ms : List (List Int)) (cs : List Cel), AllOk cs → cs.length = 3 * t → celAt (ms.foldl (fun cs m => updP addC t m cs 3) cs) j = (ms.map (ctr t j)).foldl addC (celAt cs j)
  | [], _, _, _ => rfl
  | m :: r, cs, ho, hl => by
    rw [List.foldl_cons, adds_at t ht j r _ (updP_ok (fun _ _ => addC_ok) t m ho 3) (by rw [updP_length, hl]), add_at t m cs ho ht hl j]
    rfl
theorem rems_at (t : Nat) (ht : 0 < t) (j : Nat) : ∀ (ms : List (List Int)) (cs : List Cel), AllOk cs → cs.length = 3 * t → celAt (ms.foldl (fun cs m => updP subC t m cs 3) cs) j = (ms.map (ctr t j)).foldl subC (celAt cs j)
  | [], _, _, _ => rfl
  | m :: r, cs, ho, hl => by
    rw [List.foldl_cons, rems_at t ht j r _ (updP_ok (fun _ _ => subC_ok) t m ho 3) (by rw [updP_length, hl]), rem_at t m cs ho ht hl j]
    rfl
def dS (t j : Nat) (ms : List (List Int)) : Cel := sumC (ms.map (ctr t j))
theorem ofS_at (t : Nat) (ms : List (List Int)) (ht : 0 < t) (j : Nat) : celAt (ofS t ms) j = dS t j ms := by
  unfold ofS dS
  rw [adds_at t ht j ms _ (zeroS_ok _) (zeroS_length _)]
  have e : celAt (zeroS (3 * t)) j = c0 := zeroS_at _ _
  rw [e]
  rfl
theorem ctrs_ok (t j : Nat) {ms : List (List Int)} (h : ∀ m ∈ ms, MarkOk m) : ∀ c ∈ ms.map (ctr t j), CelOk c := fun c hc => by
  obtain ⟨m, hm, rfl⟩ := List.mem_map.1 hc
  exact ctr_ok t j (h m hm)
theorem sumC_cons {c : Cel} {l : List Cel} (hc : CelOk c) (hl : ∀ c ∈ l, CelOk c) : sumC (c :: l) = addC c (sumC l) := by
  have h1 := sumC_append [c] l hl
  rw [sumC_one hc] at h1
  exact h1
theorem sumC_perm {us vs : List Cel} (h : us.Perm vs) : (∀ c ∈ us, CelOk c) → sumC us = sumC vs := by
  induction h with
  | nil => exact fun _ => rfl
  | cons x h ih =>
    intro ho
    have hx := ho x (by simp)
    have hu : ∀ c ∈ _, CelOk c := fun c hc => ho c (List.mem_cons_of_mem _ hc)
    rw [sumC_cons hx hu, sumC_cons hx (fun c hc => hu c (h.mem_iff.2 hc)), ih hu]
  | swap x y l =>
    intro ho
    have hx := ho x (by simp)
    have hy := ho y (by simp)
    have hl : ∀ c ∈ l, CelOk c := fun c hc => ho c (by simp [hc])
    rw [sumC_cons hy (fun c hc => ho c (List.mem_cons_of_mem _ hc)), sumC_cons hx hl, sumC_cons hx (fun c hc => (List.mem_cons.1 hc).elim (fun e => e ▸ hy) (hl c)), sumC_cons hy hl,
      ← addC_assoc hy hx (sumC_ok l), ← addC_assoc hx hy (sumC_ok l), addC_comm hy hx]
  | trans h1 _ ih1 ih2 => exact fun ho => (ih1 ho).trans (ih2 fun c hc => ho c (h1.mem_iff.2 hc))
theorem cells_ext {a b : List Cel} (hl : a.length = b.length) (h : ∀ j, j < a.length → celAt a j = celAt b j) : a = b := by
  apply List.ext_getElem hl
  intro j h1 h2
  have e := h j h1
  unfold celAt at e
  rw [List.getElem?_eq_getElem h1, List.getElem?_eq_getElem h2] at e
  exact e
theorem ofS_perm (t : Nat) (ht : 0 < t) {us vs : List (List Int)} (h : us.Perm vs) (ho : ∀ m ∈ us, MarkOk m) : ofS t us = ofS t vs :=
  cells_ext (by rw [ofS_length, ofS_length]) fun j _ => by
    rw [ofS_at t us ht j, ofS_at t vs ht j]
    exact sumC_perm (h.map _) (ctrs_ok t j ho)
theorem subC_cancel {a b c : Cel} (ha : CelOk a) (hb : CelOk b) (hc : CelOk c) : subC (addC a c) (addC b c) = subC a b := by
  have e1 : layL (layL a.2.1 c.2.1) (layL b.2.1 c.2.1) = layL a.2.1 b.2.1 := by
    rw [lay_assoc ha.mark hc.mark (layL_ok _ _), lay_comm hc.mark (layL_ok _ _), lay_back hb.mark hc.mark]
  have e2 : bits .xor .u64 (bits .xor .u64 a.2.2 c.2.2) (bits .xor .u64 b.2.2 c.2.2) = bits .xor .u64 a.2.2 b.2.2 := by
    have r := x64_rng b.2.2 c.2.2
    rw [x64_assoc _ _ _ ha.klo ha.khi hc.klo hc.khi r.1 r.2, x64_comm _ _ hc.klo hc.khi r.1 r.2, x64_assoc _ _ _ hb.klo hb.khi hc.klo hc.khi hc.klo hc.khi, x64_self _ hc.klo hc.khi, x64_zero _ hb.klo hb.khi]
  unfold subC addC
  dsimp only
  rw [e1, e2]
  congr 1
  simp only [IntKind.wrap_i64]
  omega
theorem rise_nodup {ms : List (List Int)} (h : Rise ms) : ms.Nodup := by
  rw [List.nodup_iff_pairwise_ne, List.pairwise_iff_getElem]
  intro i j hi hj hij e
  have h1 := h i j hij hj
  unfold markAt at h1
  rw [List.getElem?_eq_getElem hi, List.getElem?_eq_getElem hj] at h1
  simp only [Option.getD_some] at h1
  rw [e, lexI_irrefl] at h1
  cases h1
/-- Two sets' sketches, less one another. -/
theorem sub_alone (t : Nat) (ht : 0 < t) {x y p q : List (List Int)} (hx : Rise x) (hy : Rise y) (hp : Rise p) (hq : Rise q) (ox : ∀ m ∈ x, MarkOk m) (oy : ∀ m ∈ y, MarkOk m)
    (ip : ∀ m, m ∈ p ↔ m ∈ x ∧ m ∉ y) (iq : ∀ m, m ∈ q ↔ m ∈ y ∧ m ∉ x) : subS (ofS t x) (ofS t y) = subS (ofS t p) (ofS t q) := by
  have nx := rise_nodup hx
  have ny := rise_nodup hy
  have np := rise_nodup hp
  have nq := rise_nodup hq
  let c := x.filter fun m => decide (m ∈ y)
  have ic : ∀ m, m ∈ c ↔ m ∈ x ∧ m ∈ y := fun m => by simp [c, List.mem_filter]
  have nc : c.Nodup := nx.filter _
  have px : x.Perm (p ++ c) := by
    rw [List.perm_ext_iff_of_nodup nx (List.nodup_append.2 ⟨np, nc, fun a ha b hb e => by subst e; exact ((ip a).1 ha).2 ((ic a).1 hb).2⟩)]
    intro m
    rw [List.mem_append, ip, ic]
    by_cases h : m ∈ y <;> simp [h]
  have py : y.Perm (q ++ c) := by
    rw [List.perm_ext_iff_of_nodup ny (List.nodup_append.2 ⟨nq, nc, fun a ha b hb e => by subst e; exact ((iq a).1 ha).2 ((ic a).1 hb).1⟩)]
    intro m
    rw [List.mem_append, iq, ic]
    by_cases h : m ∈ x <;> simp [h]
  have op : ∀ m ∈ p, MarkOk m := fun m hm => ox m ((ip m).1 hm).1
  have oq : ∀ m ∈ q, MarkOk m := fun m hm => oy m ((iq m).1 hm).1
  have oc : ∀ m ∈ c, MarkOk m := fun m hm => ox m ((ic m).1 hm).1
  refine cells_ext (by rw [subS_length, subS_length, ofS_length, ofS_length]) fun j hj => ?_
  rw [subS_length, ofS_length] at hj
  rw [subS_at _ _ j (by rw [ofS_length]; exact hj), subS_at _ _ j (by rw [ofS_length]; exact hj), ofS_at t x ht, ofS_at t y ht, ofS_at t p ht, ofS_at t q ht]
  have e1 : dS t j x = addC (dS t j p) (dS t j c) := by
    unfold dS
    rw [sumC_perm (px.map _) (ctrs_ok t j ox), List.map_append, sumC_append _ _ (ctrs_ok t j oc)]
  have e2 : dS t j y = addC (dS t j q) (dS t j c) := by
    unfold dS
    rw [sumC_perm (py.map _) (ctrs_ok t j oy), List.map_append, sumC_append _ _ (ctrs_ok t j oc)]
  rw [e1, e2]
  exact subC_cancel (sumC_ok _) (sumC_ok _) (sumC_ok _)
theorem subs_zero : ∀ (l : List Cel), (∀ c ∈ l, CelOk c) → l.foldl subC (sumC l) = c0
  | [], _ => rfl
  | c :: l, h => by
    have hc := h c (by simp)
    have hl : ∀ c ∈ l, CelOk c := fun c hc => h c (by simp [hc])
    rw [List.foldl_cons, sumC_cons hc hl, addC_comm hc (sumC_ok l), subC_back (sumC_ok l) hc]
    exact subs_zero l hl
def remS (t : Nat) (ms : List (List Int)) (cs : List Cel) : List Cel := ms.foldl (fun cs m => updP subC t m cs 3) cs
theorem remS_snoc (t : Nat) (ms : List (List Int)) (cs : List Cel) (k : Nat) (h : k < ms.length) : remS t (ms.take (k + 1)) cs = updP subC t (markAt ms k) (remS t (ms.take k) cs) 3 := by
  unfold remS markAt
  rw [List.take_succ_eq_append_getElem h, List.foldl_append, List.getElem?_eq_getElem h]
  rfl
theorem remS_length (t : Nat) : ∀ (ms : List (List Int)) (cs : List Cel), (remS t ms cs).length = cs.length
  | [], _ => rfl
  | m :: r, cs => by
    have h := remS_length t r (updP subC t m cs 3)
    rw [updP_length] at h
    exact h
theorem rem_all (t : Nat) (ht : 0 < t) (ms : List (List Int)) (ho : ∀ m ∈ ms, MarkOk m) : emptyB (remS t ms (ofS t ms)) = true :=
  emptyB_of fun j _ => by
    unfold remS
    rw [rems_at t ht j ms (ofS t ms) (ofS_ok t ms _ (zeroS_ok _)) (ofS_length t ms), ofS_at t ms ht j]
    exact subs_zero _ (ctrs_ok t j ho)

end Go.Proofs.Yteedceepoindeaa

namespace Go.Proofs.Yteedceepoindeaa
open Go.RowKit Go.Shelf
attribute [local go_sem] Oper.semAt_some

abbrev zm : List Int := List.replicate 16 0
theorem MkSl.keptS {S : Nat → Prop} {w w' : World} {v : Value} {ms : List (List Int)} (h : MkSl w v ms) (k : Kp S w w') (hS : ∀ i, i < w.heap.size → ¬ S i) : MkSl w' v ms := by
  refine ⟨h.1, ?_⟩
  rcases h.2 with h | ⟨blk, off, cap, rfl, hc, hm, hr⟩
  · exact .inl h
  · exact .inr ⟨blk, off, cap, rfl, hc, hm, fun i hi j u hu => k.cell (hr i hi j u hu) (hS blk (World.block_lt_of_cell? _ _ (hr i hi j u hu)))⟩
theorem mark_zc : ∃ i z, Try.prog.info? 23 = some i ∧ i.zero = some z ∧ i.size = 16 ∧ i.bytes = 16 ∧ z.cells = (markL zm).toArray := by
  have h : ((Try.prog.info? 23).map fun i => (i.zero.map fun z => z.cells, i.size, i.bytes)) = some (some (markL zm).toArray, 16, 16) := by kernel_rfl
  obtain ⟨i, hi, h2⟩ := Option.map_eq_some_iff.1 h
  simp only [Prod.mk.injEq] at h2
  obtain ⟨z, hz, hz2⟩ := Option.map_eq_some_iff.1 h2.1
  exact ⟨i, z, hi, hz, h2.2.1, h2.2.2, hz2⟩
theorem zm_len (n : Nat) : ∀ q ∈ List.replicate n zm, (markL q).length = 16 := fun q hq => by rw [List.eq_of_mem_replicate hq]; rfl
theorem made_marks (n : Nat) : (madeCells (markL zm).toArray (n * 16)).toList = flatR markL (List.replicate n zm) := by
  have hl := flatR_length (f := markL) (List.replicate n zm) (zm_len n)
  rw [List.length_replicate] at hl
  apply List.ext_getElem?
  intro j
  rcases Nat.lt_or_ge j (n * 16) with h | h
  · have e := flatR_get (f := markL) (z := zm) (c := 16) (List.replicate n zm) (j / 16) (j % 16) (zm_len n) (by rw [List.length_replicate]; omega) (by omega)
    have e2 : (List.replicate n zm)[j / 16]?.getD zm = zm := by rw [List.getElem?_replicate]; split <;> rfl
    rw [show j / 16 * 16 + j % 16 = j from by omega, e2] at e
    rw [e, Array.getElem?_toList]
    unfold madeCells
    rw [Array.getElem?_map, Array.getElem?_range]
    rw [if_pos h]
    have hs : (markL zm).toArray.size = 16 := rfl
    have hm : j % 16 < (markL zm).toArray.size := by rw [hs]; omega
    simp only [Option.map_some, hs]
    rw [getElem!_pos (markL zm).toArray (j % 16) hm, ← List.getElem?_toArray, Array.getElem?_eq_getElem hm]
  · rw [List.getElem?_eq_none (by rw [Array.length_toList, size_madeCells]; exact h), List.getElem?_eq_none (by rw [hl]; exact h)]
theorem make_marks (w : World) (n : Nat) (hn : n ≤ 1000000) : (Instr.makeSlice 56 (.int .i64 (n : Int)) (.int .i64 (n : Int))).run Try.prog w = .ok (.slice (some ⟨w.heap.size, 0, none⟩) n n) (w.alloc (.cells (flatR markL (List.replicate n zm)).toArray 23)) := by
  obtain ⟨i, z, h1, h2, h3, h4, h5⟩ := mark_zc
  have h := run_make (P := Try.prog) w _ _ i z Try.underlying56 h1 h2 .i64 .i64 n n (by omega) (Int.le_refl _) (by rw [h4]; omega) (by omega)
  rw [Int.toNat_natCast, h3, h5, ← Array.toArray_toList (xs := madeCells _ _), made_marks] at h
  exact h
/-- The list turned round, as far as it is. -/
def bk (x : List (List Int)) (k : Nat) : List (List Int) := List.replicate (x.length - k) zm ++ (x.take k).reverse
theorem bk_zero (x : List (List Int)) : bk x 0 = List.replicate x.length zm := by simp [bk]
theorem bk_all (x : List (List Int)) : bk x x.length = x.reverse := by simp [bk]
theorem bk_length (x : List (List Int)) (k : Nat) (h : k ≤ x.length) : (bk x k).length = x.length := by simp [bk]; omega
theorem bk_succ (x : List (List Int)) (k : Nat) (h : k < x.length) : bk x (k + 1) = (bk x k).set (x.length - 1 - k) (markAt x k) := by
  unfold bk markAt
  rw [List.take_succ_eq_append_getElem h, List.reverse_append, List.getElem?_eq_getElem h]
  obtain ⟨d, hd⟩ : ∃ d, x.length - k = d + 1 := ⟨x.length - k - 1, by omega⟩
  rw [hd, show x.length - (k + 1) = d from by omega, show x.length - 1 - k = d from by omega, List.replicate_succ', List.append_assoc, List.set_append_right _ _ (by simp)]
  simp
theorem bk_ok {x : List (List Int)} (h : ∀ m ∈ x, MarkOk m) (k : Nat) : ∀ m ∈ bk x k, MarkOk m := fun m hm => by
  rcases List.mem_append.1 hm with hm | hm
  · rw [List.eq_of_mem_replicate hm]; exact zero_ok
  · exact h m (List.mem_of_mem_take (List.mem_reverse.1 hm))
theorem marks_len {ms : List (List Int)} (h : ∀ m ∈ ms, MarkOk m) : ∀ q ∈ ms, (markL q).length = 16 := fun q hq => by rw [markL_length, (h q hq).len]
theorem mksl_blk {w : World} {B n : Nat} {ms : List (List Int)} (ho : ∀ m ∈ ms, MarkOk m) (h : Blk w B 23 (flatR markL ms ++ [])) (hn : ms.length = n) (hm : n ≤ maxLen) : MkSl w (.slice (some ⟨B, 0, none⟩) n n) ms := by
  refine ⟨fun i => ?_, .inr ⟨B, 0, n, by rw [hn], by omega, hm, fun i hi => ?_⟩⟩
  · unfold markAt
    cases hi : ms[i]? with
    | none => exact zero_ok
    | some m => exact ho m (List.mem_of_getElem? hi)
  · rw [Nat.zero_add]
    exact flat_range (z := zm) h (marks_len ho) i hi (by rw [List.getElem?_eq_getElem hi]; exact marks_len ho _ (List.getElem_mem hi))
def BackR (W8 : World) (Bk : Nat) (x : List (List Int)) (n : Nat) (i : Value) (wr : World) : Prop := ∃ k : Nat, k ≤ n ∧ i = .int .i64 k ∧ Hid (Blk wr Bk 23 (flatR markL (bk x k) ++ [])) ∧ Hid (Kp (Jb Bk) W8 wr)
def TakeR (W9 : World) (B C t : Nat) (x : List (List Int)) (n : Nat) (i : Value) (wr : World) : Prop := ∃ k : Nat, k ≤ n ∧ i = .int .i64 k ∧ Hid (SkAt wr B C (remS t (x.take k) (ofS t x))) ∧ Hid (Kp (Jb C) W9 wr)

set_option maxRecDepth 100000 in
set_option maxHeartbeats 16000000 in
theorem iholds_yes (t : Nat) (va vb : Value) (a b : List (List Int)) (w : World) (h0 : 0 < t) (h1 : t ≤ 100) (ha : MkSl w va a) (hb : MkSl w vb b) (la : a.length ≤ 60) (lb : b.length ≤ 60) :
    Calls Try.prog 5 #[.int .i64 ((3 * t : Nat) : Int), va, vb] w fun e w' => e = .returned (.bool true) ∧ Kp Nb w w' := by
  obtain ⟨ya, da, rfl⟩ := ha.shape
  obtain ⟨yb, db, rfl⟩ := hb.shape
  have HA := hid ha
  have HB := hid hb
  have OF : Hid (∀ (v : Value) ms w, MkSl w v ms → Calls Try.prog 11 #[.int .i64 ((3 * t : Nat) : Int), v] w fun e w' => ∃ B C, e = .returned (.tuple #[.pointer (some ⟨B, 0, none⟩), .int .i64 0]) ∧ SkAt w' B C (ofS t ms) ∧ w.heap.size ≤ B ∧ w.heap.size ≤ C ∧ Kp Nb w w') := hid (fun v ms w h => of_yes t v ms w h0 (by omega) h)
  have CF : Hid (∀ w, Calls Try.prog 10 #[.int .i64 ((3 * t : Nat) : Int)] w fun e w' => e = .returned (.bool true) ∧ w = w') := hid (fun w => by
    have h := rfits_any ((3 * t : Nat) : Int) w (by omega) (by omega)
    rw [show fitB ((3 * t : Nat) : Int) = true from decide_eq_true (by omega)] at h
    exact h)
  have HT : Hid (0 < t ∧ t ≤ 100) := hid ⟨h0, h1⟩
  obtain ⟨n, hn⟩ : ∃ n, 3 * t = n := ⟨_, rfl⟩
  have HN := hid hn
  rw [hn] at OF CF ⊢
  have hn3 : n ≤ 300 := by omega
  have LA := hid la
  have LB := hid lb
  obtain ⟨La, hLa⟩ : ∃ L, a.length = L := ⟨_, rfl⟩
  obtain ⟨Lb, hLb⟩ : ∃ L, b.length = L := ⟨_, rfl⟩
  rw [hLa] at la LA HA ⊢
  rw [hLb] at lb LB HB ⊢
  have HLa := hid hLa
  have HLb := hid hLb
  clear h0 h1 hn ha hb hLa hLb
  go_enter Try.func5, Try.ntmps5
  go_wp2_with fail
  refine (ifirst_any _).mono ?_
  rintro e w1 ⟨rfl, k1⟩
  have K1 := hid k1
  have HA1 := hid (HA.out.kept k1)
  have HB1 := hid (HB.out.kept k1)
  clear k1 HA HB
  go_wp2_with fail
  refine (CF.out _).mono ?_
  rintro e w2 ⟨rfl, rfl⟩
  have d1 : decide ((n : Int) > 300) = false := decide_eq_false (by omega)
  have d2 : decide ((La : Int) > 60) = false := decide_eq_false (by omega)
  have d3 : decide ((Lb : Int) > 60) = false := decide_eq_false (by omega)
  go_wp2_with fail
  refine (rmarks_any _ a _ HA1.out (by rw [HLa.out]; have := LA.out; omega)).mono ?_
  rintro e w2 ⟨v7, x, rfl, x1, x2, x3, x4, k2⟩
  have X2 := hid x1
  have RX := hid x2
  have OX := hid x1.ok
  have LX : Hid (x.length ≤ 60) := hid (by rw [HLa.out] at x4; have := LA.out; omega)
  have HB2 := hid (HB1.out.kept k2)
  have K2 := hid (K1.out.trans k2 (fun _ _ h => h))
  obtain ⟨y7, d7, rfl⟩ := x1.shape
  clear x1 x2 x3 x4 k2 HA1 HB1 K1 d1 d2 d3 la lb
  go_wp2_with fail
  refine (rmarks_any _ b _ HB2.out (by rw [HLb.out]; have := LB.out; omega)).mono ?_
  rintro e w3 ⟨v8, y, rfl, x1, x2, x3, x4, k3⟩
  have Y3 := hid x1
  have RY := hid x2
  have OY := hid x1.ok
  have LY : Hid (y.length ≤ 60) := hid (by rw [HLb.out] at x4; have := LB.out; omega)
  have X3 := hid (X2.out.kept k3)
  have K3 := hid (K2.out.trans k3 (fun _ _ h => h))
  obtain ⟨y8, d8, rfl⟩ := x1.shape
  clear x1 x2 x3 x4 k3 HB2 K2 X2
  go_wp2_with fail
  refine (OF.out _ x _ X3.out).mono ?_
  rintro e w4 ⟨B, C, rfl, s4, b4, c4, k4⟩
  have S4 := hid s4
  have LBC : Hid (w3.heap.size ≤ B ∧ w3.heap.size ≤ C ∧ B < w4.heap.size ∧ C < w4.heap.size) := hid ⟨b4, c4, s4.lt.1, s4.lt.2⟩
  have LWC : Hid (w.heap.size ≤ C) := hid (by have := K3.out.size; omega)
  have X4 := hid (X3.out.kept k4)
  have Y4 := hid (Y3.out.kept k4)
  have K34 := hid k4
  have K4 := hid (K3.out.trans k4 (fun _ _ h => h))
  clear s4 b4 c4 k4 Y3 K3
  go_wp2_with fail
  refine (OF.out _ y _ Y4.out).mono ?_
  rintro e w5 ⟨B5, C5, rfl, s5, b5, c5, k5⟩
  have T5 := hid s5
  have NT : Hid (B5 ≠ C ∧ C5 ≠ C) := hid (by have := LBC.out; omega)
  have S5 := hid (S4.out.kept k5 (fun h => h) (fun h => h))
  have X5 := hid (X4.out.kept k5)
  have Y5 := hid (Y4.out.kept k5)
  have K35 := hid (K34.out.trans k5 (fun _ _ h => h))
  have K5 := hid (K4.out.trans k5 (fun _ _ h => h))
  have LC5 : Hid (C < w5.heap.size) := hid (by have := LBC.out; have := k5.size; omega)
  clear s5 b5 c5 k5 S4 X4 Y4 K34 K4
  obtain ⟨N, hN⟩ : ∃ N, x.length = N := ⟨_, rfl⟩
  have HXN := hid hN
  have hN6 : N ≤ 60 := by rw [← hN]; exact LX.out
  obtain ⟨zs, hzs⟩ : ∃ zs, zs = flatR markL (List.replicate N zm) := ⟨_, rfl⟩
  have MM := make_marks w5 N (by omega)
  rw [← hzs] at MM
  have HZS := hid hzs
  rw [hN] at X5 ⊢
  clear hN hzs
  go_wp2
  obtain ⟨W6, hW6⟩ : ∃ W, W = w5.alloc (.cells zs.toArray 23) := ⟨_, rfl⟩
  obtain ⟨Bk, hBk⟩ : ∃ B, w5.heap.size = B := ⟨_, rfl⟩
  have BK6 : Hid (Blk W6 Bk 23 (flatR markL (bk x 0) ++ [])) := hid (by
    have e := HXN.out
    rw [List.append_nil, bk_zero, e, ← HZS.out, hW6, ← hBk]
    exact Blk.new w5 _ _)
  have K56 : Hid (Kp Nb w5 W6) := hid (by rw [hW6]; exact (Kp.refl Nb w5).alloc _)
  have X6 := hid (X5.out.kept K56.out)
  have LBk : Hid (w5.heap.size = Bk) := hid hBk
  rw [show w5.alloc (.cells zs.toArray 23) = W6 from hW6.symm, hBk]
  clear hW6 hBk MM
  go_loopw [69] (BackR W6 Bk x N) (fun i _ => N - (intOf i).toNat)
  case atStart => exact ⟨0, by omega, rfl, BK6, hid (Kp.refl _ _)⟩
  case round =>
    clear BK6
    obtain ⟨k, hk, rfl, HBK, HK⟩ := hrel
    by_cases hlt : k < N
    · have hX := X5.out.keptS ((K56.out.mono (fun _ _ h => h.elim)).trans HK.out (fun _ _ h => h)) (fun i hi h => by have h' : i = Bk := h; have := LBk.out; omega)
      rcases hX.2 with ⟨_, e0⟩ | ⟨blk, off, cap, e1, hc, hm, hcell⟩
      · have := HXN.out; rw [e0] at this; simp at this; omega
      · injection e1 with e1 e7 e2
        subst e1 e2
        clear e7
        have HR := hid (hcell k (by rw [HXN.out]; exact hlt))
        have M1 := hid (hX.1 k)
        have HQ := hid (bk_succ x k (by rw [HXN.out]; exact hlt))
        rw [HXN.out] at HQ
        rw [HXN.out] at hc
        unfold maxLen at hm
        generalize markAt x k = z at HR M1 HQ
        obtain ⟨p, hp⟩ : ∃ p, N - 1 - k = p := ⟨_, rfl⟩
        rw [hp] at HQ
        have hI : (N : Int) - 1 - (k : Int) = (p : Int) := by omega
        have hpN : p < N := by omega
        have OKB := hid (bk_ok OX.out k)
        have LBK : Hid ((bk x k).length = N) := hid (by have := HXN.out; rw [bk_length x k (by omega)]; exact this)
        have hz := Blk.new wr 23 (markL zm)
        obtain ⟨W2, hW2⟩ : ∃ W, W = (wr.alloc (.cells (markL zm).toArray 23)).setCells wr.heap.size 0 (markL z) := ⟨_, rfl⟩
        have kW : Kp Nb wr W2 := by rw [hW2]; exact Kp.setCells (fun h => absurd h (Nat.lt_irrefl _)) _ 0 _ ((Kp.refl Nb wr).alloc _)
        have TH := hid (mark_there hz (by rw [markL_length]; rfl) M1.out)
        have SI := hid (mark_sized M1.out)
        have ON := hid (all_oneCell_toArray (markL_one z))
        have HZ : Hid (Blk W2 wr.heap.size 23 (markL z)) := hid (by rw [hW2]; exact row_set hz (by rw [markL_length, markL_length, M1.out.len]; rfl))
        have HB2 := hid (HBK.out.kept kW (fun h => h))
        have HK2 := hid (HK.out.trans kW (fun _ _ h => h.elim))
        have TP : Hid (W2.there Bk (p * 16) (markL z).toArray.size) := hid (by rw [List.size_toArray, markL_length, M1.out.len]; exact flat_there HB2.out (marks_len OKB.out) p (by rw [LBK.out]; exact hpN))
        have HB3 : Hid (Blk (W2.setCells Bk (p * 16) (markL z)) Bk 23 (flatR markL (bk x (k + 1)) ++ [])) := hid (by rw [HQ.out]; exact flat_put HB2.out (marks_len OKB.out) p z (by rw [LBK.out]; exact hpN) (by rw [markL_length, M1.out.len]))
        have HK3 : Hid (Kp (Jb Bk) W6 (W2.setCells Bk (p * 16) (markL z))) := hid (Kp.setCells (S := Jb Bk) (fun _ => show Bk = Bk from rfl) _ _ _ HK2.out)
        clear hz kW hcell hX hp HBK
        go_upto_region 12 with (first
          | (refine wpList_load_mid (by rfl) 23 (.tmp 72) (by rfl) blk (off + k * 16) (by rfl) (markL z) _ HR.out under_mark rfl (mark_infoL z M1.out.len) ?_)
          | (refine wpList_store_mid (by rfl) 23 (.tmp 15) (.tmp 73) (by rfl) wr.heap.size 0 (markL z).toArray (by rfl) (by rfl) TH.out SI.out ON.out ?_))
        rw [show (wr.alloc (.cells #[.int .u8 0, .int .u8 0, .int .u8 0, .int .u8 0, .int .u8 0, .int .u8 0, .int .u8 0, .int .u8 0, .int .u8 0, .int .u8 0, .int .u8 0, .int .u8 0, .int .u8 0, .int .u8 0, .int .u8 0, .int .u8 0] 23)).setCells wr.heap.size 0 (markL z) = W2 from hW2.symm]
        clear hW2 TH
        generalize wr.heap.size = N5 at *
        go_wp2_with (first
          | (refine wpList_load_mid (by rfl) 23 (.tmp 15) (by rfl) N5 0 (by rfl) (markL z) _ (range_of HZ.out) under_mark rfl (mark_infoL z M1.out.len) ?_)
          | (refine wpList_store_mid (by rfl) 23 (.tmp 81) (.tmp 80) (by rfl) Bk (p * 16) (markL z).toArray (by rfl) (by rfl) TP.out SI.out ON.out ?_))
        go_roundw
        case rel => exact ⟨k + 1, by omega, by go_num, HB3, HK3⟩
        case measure => simp [intOf]; omega
    · obtain rfl : k = N := by omega
      have KB : Hid (Kp Nb w5 wr) := hid ((K56.out.mono (fun i hi h => h.elim)).trans HK.out (fun _ _ h => h) |>.mono (fun i hi h => by have h' : i = Bk := h; have := LBk.out; omega))
      have XR : Hid (MkSl wr (.slice (some ⟨Bk, 0, none⟩) k k) x.reverse) := hid (by
        have h := HBK.out
        have e := bk_all x
        rw [HXN.out] at e
        rw [e] at h
        exact mksl_blk (fun m hm => OX.out m (List.mem_reverse.1 hm)) h (by rw [List.length_reverse]; exact HXN.out) (by unfold maxLen; omega))
      have UE : Hid (ofS t x.reverse = ofS t x) := hid (ofS_perm t HT.out.1 (List.reverse_perm x) (fun m hm => OX.out m (List.mem_reverse.1 hm)))
      have S6 := hid (S5.out.kept KB.out (fun h => h) (fun h => h))
      have T6 := hid (T5.out.kept KB.out (fun h => h) (fun h => h))
      have X7 := hid (X5.out.kept KB.out)
      have Y7 := hid (Y5.out.kept KB.out)
      have K37 := hid (K35.out.trans KB.out (fun _ _ h => h))
      have K7 := hid (K5.out.trans KB.out (fun _ _ h => h))
      have LC7 : Hid (C < wr.heap.size) := hid (by have := LC5.out; have := KB.out.size; omega)
      clear HBK HK K56 LBk X6 S5 T5 X5 Y5 K35 K5 LC5 KB
      go_wp2_with fail
      refine (OF.out _ x.reverse _ XR.out).mono ?_
      rintro e w8 ⟨B8, C8, rfl, s8, b8, c8, k8⟩
      rw [UE.out] at s8
      have U8 := hid s8
      have NU : Hid (B8 ≠ C ∧ C8 ≠ C) := hid (by have := LC7.out; omega)
      have S8 := hid (S6.out.kept k8 (fun h => h) (fun h => h))
      have T8 := hid (T6.out.kept k8 (fun h => h) (fun h => h))
      have X8 := hid (X7.out.kept k8)
      have Y8 := hid (Y7.out.kept k8)
      have K38 := hid (K37.out.trans k8 (fun _ _ h => h))
      have K8 := hid (K7.out.trans k8 (fun _ _ h => h))
      have LC8 : Hid (C < w8.heap.size) := hid (by have := LC7.out; have := k8.size; omega)
      clear s8 b8 c8 k8 S6 T6 X7 Y7 K37 K7 LC7 XR UE
      obtain ⟨cs, hcs⟩ : ∃ cs, ofS t x = cs := ⟨_, rfl⟩
      obtain ⟨cy, hcy⟩ : ∃ cs, ofS t y = cs := ⟨_, rfl⟩
      rw [hcs] at U8 S8
      rw [hcy] at T8
      have HCS := hid hcs
      have HCY := hid hcy
      have LS : Hid (cs.length = n) := hid (by rw [← hcs, ofS_length]; exact HN.out)
      have LT : Hid (cy.length = n) := hid (by rw [← hcy, ofS_length]; exact HN.out)
      have OS : Hid (AllOk cs) := hid (by rw [← hcs]; exact ofS_ok t x _ (zeroS_ok _))
      have hTK : ∀ l : List Cel, l.length = n → l.take (1536 : Int).toNat = l := fun l hl => List.take_of_length_le (by rw [hl]; omega)
      have HTK := hid hTK
      have NB : Hid (n ≤ 100000) := hid (by omega)
      clear hcs hcy hTK
      go_wp2_with fail
      refine (gcells_any B C cs 1536 w8 S8.out (by rw [LS.out]; exact NB.out)).mono ?_
      rintro e w9 ⟨v9, rfl, r9, k9⟩
      rw [HTK.out cs LS.out] at r9
      have R9 := hid r9
      have S9 := hid (S8.out.kept k9 (fun h => h) (fun h => h))
      have T9 := hid (T8.out.kept k9 (fun h => h) (fun h => h))
      have U9 := hid (U8.out.kept k9 (fun h => h) (fun h => h))
      have X9 := hid (X8.out.kept k9)
      have Y9 := hid (Y8.out.kept k9)
      have K39 := hid (K38.out.trans k9 (fun _ _ h => h))
      have K9 := hid (K8.out.trans k9 (fun _ _ h => h))
      have LC9 : Hid (C < w9.heap.size) := hid (by have := LC8.out; have := k9.size; omega)
      clear r9 k9 S8 T8 U8 X8 Y8 K38 K8 LC8
      go_wp2_with fail
      refine (gcells_any B8 C8 cs 1536 w9 U9.out (by rw [LS.out]; exact NB.out)).mono ?_
      rintro e wa ⟨va, rfl, ra, ka⟩
      rw [HTK.out cs LS.out] at ra
      have Ra := hid ra
      have R9a := hid (R9.out.kept ka)
      have Sa := hid (S9.out.kept ka (fun h => h) (fun h => h))
      have Ta := hid (T9.out.kept ka (fun h => h) (fun h => h))
      have Ua := hid (U9.out.kept ka (fun h => h) (fun h => h))
      have Xa := hid (X9.out.kept ka)
      have Ya := hid (Y9.out.kept ka)
      have K3a := hid (K39.out.trans ka (fun _ _ h => h))
      have Ka := hid (K9.out.trans ka (fun _ _ h => h))
      have LCa : Hid (C < wa.heap.size) := hid (by have := LC9.out; have := ka.size; omega)
      clear ra ka S9 T9 U9 X9 Y9 K39 K9 LC9 R9
      go_wp2_with fail
      refine (rsame_any _ _ cs cs wa R9a.out Ra.out OS.out OS.out (by rw [LS.out]; exact NB.out)).mono ?_
      rintro e wb ⟨rfl, kb⟩
      have Sb := hid (Sa.out.kept kb (fun h => h) (fun h => h))
      have Tb := hid (Ta.out.kept kb (fun h => h) (fun h => h))
      have Ub := hid (Ua.out.kept kb (fun h => h) (fun h => h))
      have Xb := hid (Xa.out.kept kb)
      have Yb := hid (Ya.out.kept kb)
      have K3b := hid (K3a.out.trans kb (fun _ _ h => h))
      have Kb := hid (Ka.out.trans kb (fun _ _ h => h))
      have LCb : Hid (C < wb.heap.size) := hid (by have := LCa.out; have := kb.size; omega)
      rw [show sameB cs cs = true from decide_eq_true rfl]
      clear kb Sa Ta Ua Xa Ya K3a Ka LCa Ra R9a
      go_wp2_with fail
      refine (ksub_any B C B5 C5 cs cy wb Sb.out Tb.out (by rw [LS.out, LT.out]) (by rw [LS.out]; exact NB.out)).mono ?_
      rintro e wc ⟨Bc, Cc, rfl, sc, bc, cc, kc⟩
      have Dc := hid sc
      have ND : Hid (Bc ≠ C ∧ Cc ≠ C) := hid (by have := LCb.out; omega)
      have Sc := hid (Sb.out.kept kc (fun h => h) (fun h => h))
      have Tc := hid (Tb.out.kept kc (fun h => h) (fun h => h))
      have Uc := hid (Ub.out.kept kc (fun h => h) (fun h => h))
      have Xc := hid (Xb.out.kept kc)
      have Yc := hid (Yb.out.kept kc)
      have K3c := hid (K3b.out.trans kc (fun _ _ h => h))
      have Kc := hid (Kb.out.trans kc (fun _ _ h => h))
      have LCc : Hid (C < wc.heap.size) := hid (by have := LCb.out; have := kc.size; omega)
      clear sc bc cc kc Sb Tb Ub Xb Yb K3b Kb LCb
      go_wp2_with fail
      refine (rpick_any _ _ x y true false false wc Xc.out Yc.out (right_rise RX.out) (right_rise RY.out) (by have := LX.out; omega) (by have := LY.out; omega)).mono ?_
      rintro e wd ⟨vd, pl, rfl, p1, p2, p3, p4, kd⟩
      have PD := hid p1
      have RP := hid p2
      have PI : Hid (∀ m, m ∈ pl ↔ m ∈ x ∧ m ∉ y) := hid (fun m => by rw [p3]; simp [pk1, pk2, hasB])
      have Sd := hid (Sc.out.kept kd (fun h => h) (fun h => h))
      have Td := hid (Tc.out.kept kd (fun h => h) (fun h => h))
      have Ud := hid (Uc.out.kept kd (fun h => h) (fun h => h))
      have Dd := hid (Dc.out.kept kd (fun h => h) (fun h => h))
      have Xd := hid (Xc.out.kept kd)
      have Yd := hid (Yc.out.kept kd)
      have K3d := hid (K3c.out.trans kd (fun _ _ h => h))
      have Kd := hid (Kc.out.trans kd (fun _ _ h => h))
      have LCd : Hid (C < wd.heap.size) := hid (by have := LCc.out; have := kd.size; omega)
      clear p1 p2 p3 p4 kd Sc Tc Uc Dc Xc Yc K3c Kc LCc
      go_wp2_with fail
      refine (OF.out _ pl _ PD.out).mono ?_
      rintro e we ⟨Be, Ce, rfl, se, be, ce, ke⟩
      have Pe := hid se
      have NP : Hid (Be ≠ C ∧ Ce ≠ C) := hid (by have := LCd.out; omega)
      have Se := hid (Sd.out.kept ke (fun h => h) (fun h => h))
      have Te := hid (Td.out.kept ke (fun h => h) (fun h => h))
      have Ue := hid (Ud.out.kept ke (fun h => h) (fun h => h))
      have De := hid (Dd.out.kept ke (fun h => h) (fun h => h))
      have Xe := hid (Xd.out.kept ke)
      have Ye := hid (Yd.out.kept ke)
      have K3e := hid (K3d.out.trans ke (fun _ _ h => h))
      have Ke := hid (Kd.out.trans ke (fun _ _ h => h))
      have LCe : Hid (C < we.heap.size) := hid (by have := LCd.out; have := ke.size; omega)
      clear se be ce ke Sd Td Ud Dd Xd Yd K3d Kd LCd PD
      go_wp2_with fail
      refine (rpick_any _ _ x y false true false we Xe.out Ye.out (right_rise RX.out) (right_rise RY.out) (by have := LX.out; omega) (by have := LY.out; omega)).mono ?_
      rintro e wf ⟨vf, mi, rfl, p1, p2, p3, p4, kf⟩
      have PF := hid p1
      have RM := hid p2
      have MI : Hid (∀ m, m ∈ mi ↔ m ∈ y ∧ m ∉ x) := hid (fun m => by rw [p3]; simp [pk1, pk2, hasB])
      have Sf := hid (Se.out.kept kf (fun h => h) (fun h => h))
      have Tf := hid (Te.out.kept kf (fun h => h) (fun h => h))
      have Uf := hid (Ue.out.kept kf (fun h => h) (fun h => h))
      have Df := hid (De.out.kept kf (fun h => h) (fun h => h))
      have Pf := hid (Pe.out.kept kf (fun h => h) (fun h => h))
      have K3f := hid (K3e.out.trans kf (fun _ _ h => h))
      have Kf := hid (Ke.out.trans kf (fun _ _ h => h))
      have LCf : Hid (C < wf.heap.size) := hid (by have := LCe.out; have := kf.size; omega)
      clear p1 p2 p3 p4 kf Se Te Ue De Pe Xe Ye K3e Ke LCe
      go_wp2_with fail
      refine (OF.out _ mi _ PF.out).mono ?_
      rintro e wg ⟨Bg, Cg, rfl, sg, bg, cg, kg⟩
      have Mg := hid sg
      have Sg := hid (Sf.out.kept kg (fun h => h) (fun h => h))
      have Tg := hid (Tf.out.kept kg (fun h => h) (fun h => h))
      have Ug := hid (Uf.out.kept kg (fun h => h) (fun h => h))
      have Dg := hid (Df.out.kept kg (fun h => h) (fun h => h))
      have Pg := hid (Pf.out.kept kg (fun h => h) (fun h => h))
      have K3g := hid (K3f.out.trans kg (fun _ _ h => h))
      have Kg := hid (Kf.out.trans kg (fun _ _ h => h))
      have LCg : Hid (C < wg.heap.size) := hid (by have := LCf.out; have := kg.size; omega)
      clear sg bg cg kg Sf Tf Uf Df Pf K3f Kf LCf PF
      go_wp2_with fail
      refine (ksub_any Be Ce Bg Cg (ofS t pl) (ofS t mi) wg Pg.out Mg.out (by rw [ofS_length, ofS_length]) (by rw [ofS_length]; have := HN.out; have := NB.out; omega)).mono ?_
      rintro e wh ⟨Bh, Ch, rfl, sh, bh, ch, kh⟩
      have e9 := sub_alone t HT.out.1 RX.out RY.out RP.out RM.out OX.out OY.out PI.out MI.out
      rw [← e9, HCS.out, HCY.out] at sh
      have Wh := hid sh
      have NW : Hid (Bh ≠ C ∧ Ch ≠ C) := hid (by have := LCg.out; omega)
      have Sh := hid (Sg.out.kept kh (fun h => h) (fun h => h))
      have Th := hid (Tg.out.kept kh (fun h => h) (fun h => h))
      have Uh := hid (Ug.out.kept kh (fun h => h) (fun h => h))
      have Dh := hid (Dg.out.kept kh (fun h => h) (fun h => h))
      have K3h := hid (K3g.out.trans kh (fun _ _ h => h))
      have Kh := hid (Kg.out.trans kh (fun _ _ h => h))
      have LS2 : Hid ((subS cs cy).length = n) := hid (by rw [subS_length]; exact LS.out)
      have OS2 : Hid (AllOk (subS cs cy)) := hid (subP_ok OS.out _)
      obtain ⟨ds, hds⟩ : ∃ l, subS cs cy = l := ⟨_, rfl⟩
      rw [hds] at Wh Dh LS2 OS2
      have SH : Hid (SkAt wh B C (remS t (x.take 0) (ofS t x))) := hid (by rw [HCS.out]; exact Sh.out)
      clear sh bh ch kh e9 hds Sg Tg Ug Dg Pg Mg K3g Kg Sh RP RM PI MI
      go_wp2
      go_loopw [124] (TakeR wh B C t x k) (fun i _ => k - (intOf i).toNat)
      case atStart => exact ⟨0, Nat.zero_le _, rfl, SH, hid (Kp.refl _ _)⟩
      case round =>
        clear SH
        obtain ⟨j, hj, rfl, HSK, HK⟩ := hrel
        by_cases hlt : j < k
        · have hX := X3.out.keptS ((K3h.out.mono (fun _ _ h => h.elim)).trans HK.out (fun _ _ h => h)) (fun i hi h => by have h' : i = C := h; have := LBC.out; omega)
          rw [HXN.out] at hX
          rcases hX.2 with ⟨_, e0⟩ | ⟨blk, off, cap, e1, hc, hm, hcell⟩
          · have := HXN.out; rw [e0] at this; simp at this; omega
          · injection e1 with e1 e7 e2
            subst e1 e2
            clear e7
            have HR := hid (hcell j (by rw [HXN.out]; exact hlt))
            have M1 := hid (hX.1 j)
            have HQ := hid (remS_snoc t x (ofS t x) j (by rw [HXN.out]; exact hlt))
            rw [HXN.out] at hc
            unfold maxLen at hm
            generalize markAt x j = z at HR M1 HQ
            have LR : Hid ((remS t (x.take j) (ofS t x)).length = 3 * t) := hid (by rw [remS_length, ofS_length])
            generalize remS t (x.take j) (ofS t x) = cr at HSK HQ LR
            have hz := Blk.new wr 23 (markL zm)
            obtain ⟨W2, hW2⟩ : ∃ W, W = (wr.alloc (.cells (markL zm).toArray 23)).setCells wr.heap.size 0 (markL z) := ⟨_, rfl⟩
            have kW : Kp Nb wr W2 := by rw [hW2]; exact Kp.setCells (fun h => absurd h (Nat.lt_irrefl _)) _ 0 _ ((Kp.refl Nb wr).alloc _)
            have TH := hid (mark_there hz (by rw [markL_length]; rfl) M1.out)
            have SI := hid (mark_sized M1.out)
            have ON := hid (all_oneCell_toArray (markL_one z))
            have HZ : Hid (Blk W2 wr.heap.size 23 (markL z)) := hid (by rw [hW2]; exact row_set hz (by rw [markL_length, markL_length, M1.out.len]; rfl))
            have HS2 := hid (HSK.out.kept kW (fun h => h) (fun h => h))
            have HK2 := hid (HK.out.trans kW (fun _ _ h => h.elim))
            clear hz kW hcell hX HSK
            go_upto_region 23 with (first
              | (refine wpList_load_mid (by rfl) 23 (.tmp 126) (by rfl) blk (off + j * 16) (by rfl) (markL z) _ HR.out under_mark rfl (mark_infoL z M1.out.len) ?_)
              | (refine wpList_store_mid (by rfl) 23 (.tmp 28) (.tmp 127) (by rfl) wr.heap.size 0 (markL z).toArray (by rfl) (by rfl) TH.out SI.out ON.out ?_))
            rw [show (wr.alloc (.cells #[.int .u8 0, .int .u8 0, .int .u8 0, .int .u8 0, .int .u8 0, .int .u8 0, .int .u8 0, .int .u8 0, .int .u8 0, .int .u8 0, .int .u8 0, .int .u8 0, .int .u8 0, .int .u8 0, .int .u8 0, .int .u8 0] 23)).setCells wr.heap.size 0 (markL z) = W2 from hW2.symm]
            clear hW2 TH
            generalize wr.heap.size = N5 at *
            go_wp2_with (refine wpList_load_mid (by rfl) 23 (.tmp 28) (by rfl) N5 0 (by rfl) (markL z) _ (range_of HZ.out) under_mark rfl (mark_infoL z M1.out.len) ?_)
            refine (krem_any B C t cr z W2 HS2.out M1.out LR.out (by have := HT.out; omega)).mono ?_
            rintro e wk ⟨rfl, sk, kk⟩
            rw [← HQ.out] at sk
            have SK := hid sk
            have KK := hid (HK2.out.trans kk (fun _ _ h => h))
            clear sk kk
            go_wp2
            go_roundw
            case rel => exact ⟨j + 1, by omega, by go_num, SK, KK⟩
            case measure => simp [intOf]; omega
        · obtain rfl : j = k := by omega
          have EB : Hid (emptyB (remS t x (ofS t x)) = true) := hid (rem_all t HT.out.1 x OX.out)
          have SK : Hid (SkAt wr B C (remS t x (ofS t x))) := hid (by have h := HSK.out; rw [← HXN.out, List.take_length] at h; exact h)
          have LR : Hid ((remS t x (ofS t x)).length ≤ 100000) := hid (by rw [remS_length, ofS_length]; have := HT.out; omega)
          have D1 := hid (Dh.out.kept HK.out (fun h => ND.out.1 h) (fun h => ND.out.2 h))
          have W1 := hid (Wh.out.kept HK.out (fun h => NW.out.1 h) (fun h => NW.out.2 h))
          have U1 := hid (Uh.out.kept HK.out (fun h => NU.out.1 h) (fun h => NU.out.2 h))
          have T1 := hid (Th.out.kept HK.out (fun h => NT.out.1 h) (fun h => NT.out.2 h))
          have F1 := hid (Kh.out.trans HK.out (fun i hi h => by have h' : i = C := h; have := LWC.out; omega))
          clear HSK HK Dh Wh Uh Th Kh K3h
          go_wp2_with fail
          refine (gcells_any Bc Cc ds 1536 wr D1.out (by rw [LS2.out]; exact NB.out)).mono ?_
          rintro e q1 ⟨u1, rfl, r1, k1⟩
          rw [HTK.out ds LS2.out] at r1
          have R1 := hid r1
          have W2 := hid (W1.out.kept k1 (fun h => h) (fun h => h))
          have U2 := hid (U1.out.kept k1 (fun h => h) (fun h => h))
          have T2 := hid (T1.out.kept k1 (fun h => h) (fun h => h))
          have SK2 := hid (SK.out.kept k1 (fun h => h) (fun h => h))
          have F2 := hid (F1.out.trans k1 (fun _ _ h => h))
          clear r1 k1 D1 W1 U1 T1 SK F1
          go_wp2_with fail
          refine (gcells_any Bh Ch ds 1536 q1 W2.out (by rw [LS2.out]; exact NB.out)).mono ?_
          rintro e q2 ⟨u2, rfl, r2, k2⟩
          rw [HTK.out ds LS2.out] at r2
          have R2 := hid r2
          have R3 := hid (R1.out.kept k2)
          have U3 := hid (U2.out.kept k2 (fun h => h) (fun h => h))
          have T3 := hid (T2.out.kept k2 (fun h => h) (fun h => h))
          have SK3 := hid (SK2.out.kept k2 (fun h => h) (fun h => h))
          have F3 := hid (F2.out.trans k2 (fun _ _ h => h))
          clear r2 k2 W2 U2 T2 SK2 F2 R1
          go_wp2_with fail
          refine (rsame_any _ _ ds ds q2 R3.out R2.out OS2.out OS2.out (by rw [LS2.out]; exact NB.out)).mono ?_
          rintro e q3 ⟨rfl, k3⟩
          rw [show sameB ds ds = true from decide_eq_true rfl]
          have U4 := hid (U3.out.kept k3 (fun h => h) (fun h => h))
          have T4 := hid (T3.out.kept k3 (fun h => h) (fun h => h))
          have SK4 := hid (SK3.out.kept k3 (fun h => h) (fun h => h))
          have F4 := hid (F3.out.trans k3 (fun _ _ h => h))
          clear k3 U3 T3 SK3 F3 R2 R3
          go_wp2_with fail
          refine (empty_any B C _ q3 SK4.out LR.out).mono ?_
          rintro e q4 ⟨rfl, k4⟩
          rw [EB.out]
          have U5 := hid (U4.out.kept k4 (fun h => h) (fun h => h))
          have T5 := hid (T4.out.kept k4 (fun h => h) (fun h => h))
          have F5 := hid (F4.out.trans k4 (fun _ _ h => h))
          clear k4 U4 T4 SK4 F4
          go_wp2_with fail
          refine (gcells_any B8 C8 cs 1536 q4 U5.out (by rw [LS.out]; exact NB.out)).mono ?_
          rintro e q5 ⟨u5, rfl, r5, k5⟩
          rw [HTK.out cs LS.out] at r5
          obtain ⟨y5, d5, hv⟩ := r5.shape
          rw [LS.out] at hv
          subst hv
          have T6 := hid (T5.out.kept k5 (fun h => h) (fun h => h))
          have F6 := hid (F5.out.trans k5 (fun _ _ h => h))
          have CS := hid (size_any B5 C5 cy q5 T6.out)
          rw [LT.out] at CS
          clear k5 r5 U5 T5 F5
          go_wp2_with fail
          refine CS.out.mono ?_
          rintro e q6 ⟨rfl, rfl⟩
          go_wp2
          go_ret
          exact ⟨rfl, F6.out⟩

set_option maxRecDepth 100000 in
set_option maxHeartbeats 4000000 in
theorem iholds_no (n : Int) (va vb : Value) (a b : List (List Int)) (w : World) (ha : MkSl w va a) (hb : MkSl w vb b) (hn : -9223372036854775808 ≤ n ∧ n < 9223372036854775808) (h : fitB n = false ∨ 300 < n ∨ 60 < a.length ∨ 60 < b.length) :
    Calls Try.prog 5 #[.int .i64 n, va, vb] w fun e w' => e = .returned (.bool true) ∧ Kp Nb w w' := by
  obtain ⟨ya, da, rfl⟩ := ha.shape
  obtain ⟨yb, db, rfl⟩ := hb.shape
  obtain ⟨f, hf⟩ : ∃ f, fitB n = f := ⟨_, rfl⟩
  have CF : Hid (∀ w, Calls Try.prog 10 #[.int .i64 n] w fun e w' => e = .returned (.bool f) ∧ w = w') := hid (fun w => by rw [← hf]; exact rfits_any n w hn.1 hn.2)
  rw [hf] at h
  obtain ⟨La, hLa⟩ : ∃ L, a.length = L := ⟨_, rfl⟩
  obtain ⟨Lb, hLb⟩ : ∃ L, b.length = L := ⟨_, rfl⟩
  rw [hLa, hLb] at h ⊢
  clear hf hn ha hb hLa hLb
  cases f with
  | false =>
    clear h
    go_enter Try.func5, Try.ntmps5
    go_wp2_with fail
    refine (ifirst_any _).mono ?_
    rintro e w1 ⟨rfl, k1⟩
    have K1 := hid k1
    clear k1
    go_wp2_with fail
    refine (CF.out _).mono ?_
    rintro e w2 ⟨rfl, rfl⟩
    go_wp2
    go_ret
    exact ⟨rfl, K1.out⟩
  | true =>
    by_cases h3 : 300 < n
    · clear h
      go_enter Try.func5, Try.ntmps5
      go_wp2_with fail
      refine (ifirst_any _).mono ?_
      rintro e w1 ⟨rfl, k1⟩
      have K1 := hid k1
      clear k1
      go_wp2_with fail
      refine (CF.out _).mono ?_
      rintro e w2 ⟨rfl, rfl⟩
      have d1 : decide (n > 300) = true := decide_eq_true h3
      go_wp2
      go_ret
      exact ⟨rfl, K1.out⟩
    · by_cases h4 : 60 < La
      · clear h
        go_enter Try.func5, Try.ntmps5
        go_wp2_with fail
        refine (ifirst_any _).mono ?_
        rintro e w1 ⟨rfl, k1⟩
        have K1 := hid k1
        clear k1
        go_wp2_with fail
        refine (CF.out _).mono ?_
        rintro e w2 ⟨rfl, rfl⟩
        have d1 : decide (n > 300) = false := decide_eq_false (by omega)
        have d2 : decide ((La : Int) > 60) = true := decide_eq_true (by omega)
        go_wp2
        go_ret
        exact ⟨rfl, K1.out⟩
      · have h6 : 60 < Lb := by
          rcases h with h | h | h | h
          · cases h
          · exact absurd h h3
          · exact absurd h h4
          · exact h
        clear h
        go_enter Try.func5, Try.ntmps5
        go_wp2_with fail
        refine (ifirst_any _).mono ?_
        rintro e w1 ⟨rfl, k1⟩
        have K1 := hid k1
        clear k1
        go_wp2_with fail
        refine (CF.out _).mono ?_
        rintro e w2 ⟨rfl, rfl⟩
        have d1 : decide (n > 300) = false := decide_eq_false (by omega)
        have d2 : decide ((La : Int) > 60) = false := decide_eq_false (by omega)
        have d3 : decide ((Lb : Int) > 60) = true := decide_eq_true (by omega)
        go_wp2
        go_ret
        exact ⟨rfl, K1.out⟩
theorem iholds_any (n : Int) (va vb : Value) (a b : List (List Int)) (w : World) (ha : MkSl w va a) (hb : MkSl w vb b) (h0 : -9223372036854775808 ≤ n) (h1 : n < 9223372036854775808) :
    Calls Try.prog 5 #[.int .i64 n, va, vb] w fun e w' => e = .returned (.bool true) ∧ Kp Nb w w' := by
  by_cases h : fitB n = false ∨ 300 < n ∨ 60 < a.length ∨ 60 < b.length
  · exact iholds_no n va vb a b w ha hb ⟨h0, h1⟩ h
  · have hf : fitB n = true := by cases e : fitB n with
      | true => rfl
      | false => exact absurd (.inl e) h
    have hr : 3 ≤ n ∧ n ≤ 1536 ∧ n % 3 = 0 := of_decide_eq_true hf
    have h2 : ¬ 300 < n := fun e => h (.inr (.inl e))
    have h3 : ¬ 60 < a.length := fun e => h (.inr (.inr (.inl e)))
    have h5 : ¬ 60 < b.length := fun e => h (.inr (.inr (.inr e)))
    have h4 := iholds_yes (n / 3).toNat va vb a b w (by omega) (by omega) ha hb (by omega) (by omega)
    have e : ((3 * (n / 3).toNat : Nat) : Int) = n := by omega
    rw [e] at h4
    exact h4

end Go.Proofs.Yteedceepoindeaa
