/-
  Layer 9: MarksSets' law. Conditions: two lists of marks in memory; a mark.
-/
import Derived.Test.YtijlmfmpfjjlpaaMbB
import Derived.Test.YtijlmfmpfjjlpaaMaT
namespace Go.Proofs.Ytijlmfmpfjjlpaa
open Go.RowKit Go.Shelf

theorem lexI_asym (x y : List Int) (h : lexI x y = true) : lexI y x = false := by
  cases h2 : lexI y x with
  | false => rfl
  | true => exact absurd (lexI_trans _ _ _ h h2) (by rw [lexI_irr]; decide)
theorem cmpM_gt (a b : List Int) : cmpM a b > 0 ↔ lexI b a = true := by
  unfold cmpM
  by_cases h1 : lexI a b = true
  · have h2 := lexI_asym _ _ h1
    rw [if_pos h1, h2]; decide
  · rw [if_neg h1]
    by_cases h2 : lexI b a = true
    · rw [if_pos h2]; simp [h2]
    · rw [if_neg h2]; simp [h2]
theorem cmpM_in (a b : List Int) : -1 ≤ cmpM a b ∧ cmpM a b ≤ 1 := by
  unfold cmpM
  split
  · decide
  · split <;> decide

set_option maxRecDepth 100000 in
set_option maxHeartbeats 8000000 in
theorem msets_any (va vb : Value) (xs ys : List (List Int)) (t : List Int) (w : World) (ha : SlAt w va xs) (hb : SlAt w vb ys) (ht : MarkOk t) : Calls Try.prog 3 #[va, vb, markV t] w fun e w' => e = .returned (.bool true) ∧ Kp Nb w w' := by
  obtain ⟨pa, da, rfl⟩ := ha.1.shape
  obtain ⟨pb, db, rfl⟩ := hb.1.shape
  obtain ⟨M, hM⟩ : ∃ M, w.heap.size = M := ⟨_, rfl⟩
  obtain ⟨W0, hW0⟩ : ∃ W, W = w.alloc (.cells (markL t).toArray 24) := ⟨_, rfl⟩
  have D0 : Hid (Blk W0 M 24 (markL t)) := hid (by rw [hW0, ← hM]; exact Blk.new w _ _)
  have K0 : Kp Nb w W0 := by rw [hW0]; exact (Kp.refl Nb w).alloc _
  have HA0 : AllS [(.slice pa xs.length da, xs), (.slice pb ys.length db, ys)] w w := ⟨fun p hp => by
    simp only [List.mem_cons, List.not_mem_nil, or_false] at hp
    rcases hp with rfl | rfl
    · exact ha
    · exact hb, Kp.refl _ _⟩
  have HA := hid (HA0.step K0)
  obtain ⟨nA, hnA⟩ : ∃ n, xs.length = n := ⟨_, rfl⟩
  obtain ⟨nB, hnB⟩ : ∃ n, ys.length = n := ⟨_, rfl⟩
  rw [hnA, hnB] at HA
  rw [hnA, hnB]
  have HNA := hid hnA
  have HNB := hid hnB
  have HT := hid ht
  obtain ⟨a0, a1, a2, a3, a4, a5, a6, a7, a8, a9, a10, a11, a12, a13, a14, a15, ht16⟩ := list16 ht.len
  have HTE := hid ht16
  clear ha hb hnA hnB HA0 K0 ht ht16
  go_enter Try.func3, Try.ntmps3
  go_upto_region 1 with fail
  rw [← hW0]
  clear hW0 hM
  go_wp2_with fail
  refine (mfirst_any W0).mono ?_
  rintro r w1 ⟨rfl, k1⟩
  have HA := hid (HA.out.step k1)
  have D1 : Hid (Blk w1 M 24 (markL t)) := hid (D0.out.kept k1 (fun h => h))
  clear k1 D0
  by_cases hbig : 200 < nA ∨ 200 < nB
  · by_cases h1 : 200 < nA
    · go_wp2
      go_ret
      exact ⟨rfl, HA.out.2⟩
    · have h2 : 200 < nB := by omega
      go_wp2
      go_ret
      exact ⟨rfl, HA.out.2⟩
  have hA2 : nA ≤ 200 := by omega
  have hB2 : nB ≤ 200 := by omega
  have HB := hid (show nA ≤ 200 ∧ nB ≤ 200 from ⟨hA2, hB2⟩)
  go_wp2_with fail
  go_loopw [21] (fun i wr => ∃ k : Nat, k ≤ nA ∧ i = .int .i64 k ∧ Hid (Kp Nb w1 wr)) (fun i _ => nA - (intOf i).toNat)
  case atStart => exact ⟨0, Nat.zero_le _, rfl, hid (Kp.refl _ _)⟩
  case round =>
    obtain ⟨k, hk, rfl, HK⟩ := hrel
    have HAA : SlAt w1 (.slice pa nA da) xs := HA.out.1 (.slice pa nA da, xs) (by simp)
    have HBB : SlAt w1 (.slice pb nB db) ys := HA.out.1 (.slice pb nB db, ys) (by simp)
    by_cases hlt : k < nA
    · by_cases hl2 : k < nB
      · obtain ⟨ga, oa, ca, ea, hca, -, hcella⟩ := mk_shape HAA.1 (by intro h; have := HNA.out; rw [h, List.length_nil] at this; omega)
        obtain ⟨gb, ob, cb, eb, hcb, -, hcellb⟩ := mk_shape HBB.1 (by intro h; have := HNB.out; rw [h, List.length_nil] at this; omega)
        rw [HNA.out] at ea hca hcella
        rw [HNB.out] at eb hcb hcellb
        injection ea with ea _ ea2
        injection eb with eb _ eb2
        subst ea ea2 eb eb2
        obtain ⟨x, hx⟩ : ∃ a, markAt xs k = a := ⟨_, rfl⟩
        obtain ⟨y, hy⟩ : ∃ a, markAt ys k = a := ⟨_, rfl⟩
        have hA := hcella k hlt
        have hB := hcellb k hl2
        rw [hx] at hA
        rw [hy] at hB
        have HLX := hid (show MarkOk x ∧ wr.rangeAt ga (oa + k * 16) (markL x) from ⟨hA.1, range_kept hA.2 HK.out⟩)
        have HLY := hid (show MarkOk y ∧ wr.rangeAt gb (ob + k * 16) (markL y) from ⟨hB.1, range_kept hB.2 HK.out⟩)
        obtain ⟨r, hr⟩ : ∃ r, cmpM x y = r := ⟨_, rfl⟩
        obtain ⟨b1, hb1⟩ : ∃ b, lexI x y = b := ⟨_, rfl⟩
        obtain ⟨b2, hb2⟩ : ∃ b, lexI y x = b := ⟨_, rfl⟩
        have CC : Hid (∀ w, Calls Try.prog 9 #[markV x, markV y] w fun e w' => e = .returned (.int .i64 r) ∧ Kp Nb w w') := hid (fun w => by rw [← hr]; exact cmpg_kp x y w hA.1 hB.1)
        have CL1 : Hid (∀ w, Calls Try.prog 10 #[markV x, markV y] w fun e w' => e = .returned (.bool b1) ∧ Kp Nb w w') := hid (fun w => by rw [← hb1]; exact rless_any x y w hA.1 hB.1)
        have CL2 : Hid (∀ w, Calls Try.prog 10 #[markV y, markV x] w fun e w' => e = .returned (.bool b2) ∧ Kp Nb w w') := hid (fun w => by rw [← hb2]; exact rless_any y x w hB.1 hA.1)
        have hin := cmpM_in x y
        rw [hr] at hin
        have HD1 : Hid (decide (r < 0) = b1) := hid (by
          rw [← hr, ← hb1]
          by_cases h : lexI x y = true
          · rw [h]; exact decide_eq_true ((cmpM_lt x y).2 h)
          · rw [Bool.eq_false_iff.2 h]; exact decide_eq_false (fun h2 => h ((cmpM_lt x y).1 h2)))
        have HD2 : Hid (decide (r > 0) = b2) := hid (by
          rw [← hr, ← hb2]
          by_cases h : lexI y x = true
          · rw [h]; exact decide_eq_true ((cmpM_gt x y).2 h)
          · rw [Bool.eq_false_iff.2 h]; exact decide_eq_false (fun h2 => h ((cmpM_gt x y).1 h2)))
        have HD3 : Hid (decide (r < -1) = false) := hid (decide_eq_false (by omega))
        have HD4 : Hid (decide (r > 1) = false) := hid (decide_eq_false (by omega))
        have HB1 : Hid ((k : Int) < (nA : Int) ∧ 0 ≤ (k : Int)) := hid (by omega)
        have HB2 : Hid ((k : Int) < (nB : Int) ∧ 0 ≤ (k : Int)) := hid (by omega)
        clear hx hy hA hB hr hb1 hb2 hin hcella hcellb
        go_wp2_with fail
        refine region_vals2 [none, none, none, none, none, none, none, some 9, none, none, none, none, none, none, none, none, none, none, none, none, none, none, none, none, none, none, none, none, some 0, some 1, some 2, some 3, some 4, some 5, some 6, some 7, some 8, none, none, none, none, none, none, none, none, none, none, none, none, none, none, none, none, none, none, none, none, none, none, none, none, none, none, none, none, none, none, none, none, none, none, none, none, none, none, none, none, none, none, none, none, none, none, none, none, none, none, none, none, none, none, none, none, none, none, none, none, none, none, none, none, none, none, none, none, none, none, none, none, none, none, none, none, none, none, none, none, none, none, none, none, none, none, none, none, none, none, none, none, none, none, none, none, none, none, none, none, none, none, none] [[(0, none)], [(8, none)], [(28, some 0), (29, some 1)], [(30, some 2)], [(1, none)], [(8, none)], [(32, some 4), (33, some 5)], [(34, some 6)], [(31, some 3), (35, some 7)], [(36, some 8)]] [some 28, some 29, some 30, some 31, some 32, some 33, some 34, some 35, some 36, some 7] [.slice (some ⟨ga, oa, none⟩) nA da, .int .i64 (k : Int), .pointer (some ⟨ga, oa + k * 16, none⟩), markV x, .slice (some ⟨gb, ob, none⟩) nB db, .int .i64 (k : Int), .pointer (some ⟨gb, ob + k * 16, none⟩), markV y, .int .i64 r, .int .i64 r] (fun w' => Hid (Kp Nb wr w')) (by kernel_rfl) (by kernel_rfl) (by kernel_rfl) ?hS (VFrom.all (n := 10) (by kernel_rfl) ?hstep) ?hend
        case hstep =>
          refine VFrom.cons (VStep.val _ rfl _ rfl (.slice (some ⟨ga, oa, none⟩) nA da) rfl trivial (fun ev wq hS he hr => ?_)) ?_
          · have r0 : ev (.tmp 0) = .slice (some ⟨ga, oa, none⟩) nA da := hr (0, none) (by simp); have hk := he.1; clear hr he
            go_simp
          refine VFrom.cons (VStep.val _ rfl _ rfl (.int .i64 (k : Int)) rfl trivial (fun ev wq hS he hr => ?_)) ?_
          · have r0 : ev (.tmp 8) = .int .i64 (k : Int) := hr (8, none) (by simp); have hk := he.1; clear hr he
            go_simp
          refine VFrom.cons (VStep.val _ rfl _ rfl (.pointer (some ⟨ga, oa + k * 16, none⟩)) rfl trivial (fun ev wq hS he hr => ?_)) ?_
          · have r0 : ev (.tmp 28) = .slice (some ⟨ga, oa, none⟩) nA da := hr (28, some 0) (by simp); have r1 : ev (.tmp 29) = .int .i64 (k : Int) := hr (29, some 1) (by simp); have hk := he.1; clear hr he
            have e1 := HB1.out
            go_simp
          refine VFrom.cons (VStep.val _ rfl _ rfl (markV x) rfl trivial (fun ev wq hS he hr => ?_)) ?_
          · have r0 : ev (.tmp 30) = .pointer (some ⟨ga, oa + k * 16, none⟩) := hr (30, some 2) (by simp); have hk := he.1; clear hr he
            exact exec_loadM rfl r0 (load_mark HLX.out.1 (range_kept HLX.out.2 hS.out))
          refine VFrom.cons (VStep.val _ rfl _ rfl (.slice (some ⟨gb, ob, none⟩) nB db) rfl trivial (fun ev wq hS he hr => ?_)) ?_
          · have r0 : ev (.tmp 1) = .slice (some ⟨gb, ob, none⟩) nB db := hr (1, none) (by simp); have hk := he.1; clear hr he
            go_simp
          refine VFrom.cons (VStep.val _ rfl _ rfl (.int .i64 (k : Int)) rfl trivial (fun ev wq hS he hr => ?_)) ?_
          · have r0 : ev (.tmp 8) = .int .i64 (k : Int) := hr (8, none) (by simp); have hk := he.1; clear hr he
            go_simp
          refine VFrom.cons (VStep.val _ rfl _ rfl (.pointer (some ⟨gb, ob + k * 16, none⟩)) rfl trivial (fun ev wq hS he hr => ?_)) ?_
          · have r0 : ev (.tmp 32) = .slice (some ⟨gb, ob, none⟩) nB db := hr (32, some 4) (by simp); have r1 : ev (.tmp 33) = .int .i64 (k : Int) := hr (33, some 5) (by simp); have hk := he.1; clear hr he
            have e1 := HB2.out
            go_simp
          refine VFrom.cons (VStep.val _ rfl _ rfl (markV y) rfl trivial (fun ev wq hS he hr => ?_)) ?_
          · have r0 : ev (.tmp 34) = .pointer (some ⟨gb, ob + k * 16, none⟩) := hr (34, some 6) (by simp); have hk := he.1; clear hr he
            exact exec_loadM rfl r0 (load_mark HLY.out.1 (range_kept HLY.out.2 hS.out))
          refine VFrom.cons (VStep.call _ rfl _ rfl (.int .i64 r) rfl trivial 9 #[markV x, markV y] (fun ev wq hS he hr => ?_) (fun wq hS => ?_)) ?_
          · have r0 : ev (.tmp 31) = markV x := hr (31, some 3) (by simp); have r1 : ev (.tmp 35) = markV y := hr (35, some 7) (by simp); have hk := he.1; have hf := he.2; clear hr he
            go_simp
          · exact (CC.out wq).mono fun e w' ⟨h1, h2⟩ => ⟨h1, hid (hS.out.trans h2 (fun _ _ h => h))⟩
          refine VFrom.cons (VStep.val _ rfl _ rfl (.int .i64 r) rfl trivial (fun ev wq hS he hr => ?_)) ?_
          · have r0 : ev (.tmp 36) = .int .i64 r := hr (36, some 8) (by simp); have hk := he.1; clear hr he
            go_simp
          exact VFrom.nil
        case hS => exact hid (Kp.refl Nb wr).drew
        case hend =>
          intro wz hy
          have KY := hid (HK.out.trans hy.out (fun _ _ h => h))
          have HLX := hid (show MarkOk x ∧ wz.rangeAt ga (oa + k * 16) (markL x) from ⟨HLX.out.1, range_kept HLX.out.2 hy.out⟩)
          have HLY := hid (show MarkOk y ∧ wz.rangeAt gb (ob + k * 16) (markL y) from ⟨HLY.out.1, range_kept HLY.out.2 hy.out⟩)
          clear hy
          simp only [putAll, List.zip_cons_cons, List.zip_nil_right, List.foldl_cons, List.foldl_nil, Act.put, List.setIfInBounds_toArray, List.set_cons_zero, List.set_cons_succ]
          go_wp2_with fail
          refine region_vals2 [none, none, none, none, none, none, none, none, none, none, none, none, none, none, none, none, none, none, none, none, none, none, none, none, none, none, none, none, none, none, none, none, none, none, none, none, none, some 0, some 1, some 2, some 3, some 4, some 5, some 6, some 7, some 8, some 9, some 10, some 11, some 12, some 13, some 14, some 15, some 16, some 17, some 18, some 19, some 20, some 21, some 22, some 23, some 24, some 25, some 26, some 27, some 28, some 29, some 30, some 31, some 32, some 33, none, none, none, none, none, none, none, none, none, none, none, none, none, none, none, none, none, none, none, none, none, none, none, none, none, none, none, none, none, none, none, none, none, none, none, none, none, none, none, none, none, none, none, none, none, none, none, none, none, none, none, none, none, none, none, none, none, none, none, none, none, none, none, none, none, none, none, none, none] [[(7, none)], [(37, some 0)], [(0, none)], [(8, none)], [(39, some 2), (40, some 3)], [(41, some 4)], [(1, none)], [(8, none)], [(43, some 6), (44, some 7)], [(45, some 8)], [(42, some 5), (46, some 9)], [(38, some 1), (47, some 10)], [(48, some 11)], [(7, none)], [(50, some 13)], [(1, none)], [(8, none)], [(52, some 15), (53, some 16)], [(54, some 17)], [(0, none)], [(8, none)], [(56, some 19), (57, some 20)], [(58, some 21)], [(55, some 18), (59, some 22)], [(51, some 14), (60, some 23)], [(49, some 12), (61, some 24)], [(62, some 25)], [(7, none)], [(64, some 27)], [(63, some 26), (65, some 28)], [(66, some 29)], [(7, none)], [(68, some 31)], [(67, some 30), (69, some 32)]] [some 37, some 38, some 39, some 40, some 41, some 42, some 43, some 44, some 45, some 46, some 47, some 48, some 49, some 50, some 51, some 52, some 53, some 54, some 55, some 56, some 57, some 58, some 59, some 60, some 61, some 62, some 63, some 64, some 65, some 66, some 67, some 68, some 69, some 70] [.int .i64 r, .bool b1, .slice (some ⟨ga, oa, none⟩) nA da, .int .i64 (k : Int), .pointer (some ⟨ga, oa + k * 16, none⟩), markV x, .slice (some ⟨gb, ob, none⟩) nB db, .int .i64 (k : Int), .pointer (some ⟨gb, ob + k * 16, none⟩), markV y, .bool b1, .bool false, .bool false, .int .i64 r, .bool b2, .slice (some ⟨gb, ob, none⟩) nB db, .int .i64 (k : Int), .pointer (some ⟨gb, ob + k * 16, none⟩), markV y, .slice (some ⟨ga, oa, none⟩) nA da, .int .i64 (k : Int), .pointer (some ⟨ga, oa + k * 16, none⟩), markV x, .bool b2, .bool false, .bool false, .bool false, .int .i64 r, .bool false, .bool false, .bool false, .int .i64 r, .bool false, .bool false] (fun w' => Hid (Kp Nb wz w')) (by kernel_rfl) (by kernel_rfl) (by kernel_rfl) ?hS (VFrom.all (n := 34) (by kernel_rfl) ?hstep) ?hend
          case hstep =>
            refine VFrom.cons (VStep.val _ rfl _ rfl (.int .i64 r) rfl trivial (fun ev wq hS he hr => ?_)) ?_
            · have r0 : ev (.tmp 7) = .int .i64 r := hr (7, none) (by simp); have hk := he.1; clear hr he
              go_simp
            refine VFrom.cons (VStep.val _ rfl _ rfl (.bool b1) rfl trivial (fun ev wq hS he hr => ?_)) ?_
            · have r0 : ev (.tmp 37) = .int .i64 r := hr (37, some 0) (by simp); have hk := he.1; clear hr he
              have e1 := HD1.out
              go_simp
            refine VFrom.cons (VStep.val _ rfl _ rfl (.slice (some ⟨ga, oa, none⟩) nA da) rfl trivial (fun ev wq hS he hr => ?_)) ?_
            · have r0 : ev (.tmp 0) = .slice (some ⟨ga, oa, none⟩) nA da := hr (0, none) (by simp); have hk := he.1; clear hr he
              go_simp
            refine VFrom.cons (VStep.val _ rfl _ rfl (.int .i64 (k : Int)) rfl trivial (fun ev wq hS he hr => ?_)) ?_
            · have r0 : ev (.tmp 8) = .int .i64 (k : Int) := hr (8, none) (by simp); have hk := he.1; clear hr he
              go_simp
            refine VFrom.cons (VStep.val _ rfl _ rfl (.pointer (some ⟨ga, oa + k * 16, none⟩)) rfl trivial (fun ev wq hS he hr => ?_)) ?_
            · have r0 : ev (.tmp 39) = .slice (some ⟨ga, oa, none⟩) nA da := hr (39, some 2) (by simp); have r1 : ev (.tmp 40) = .int .i64 (k : Int) := hr (40, some 3) (by simp); have hk := he.1; clear hr he
              have e1 := HB1.out
              go_simp
            refine VFrom.cons (VStep.val _ rfl _ rfl (markV x) rfl trivial (fun ev wq hS he hr => ?_)) ?_
            · have r0 : ev (.tmp 41) = .pointer (some ⟨ga, oa + k * 16, none⟩) := hr (41, some 4) (by simp); have hk := he.1; clear hr he
              exact exec_loadM rfl r0 (load_mark HLX.out.1 (range_kept HLX.out.2 hS.out))
            refine VFrom.cons (VStep.val _ rfl _ rfl (.slice (some ⟨gb, ob, none⟩) nB db) rfl trivial (fun ev wq hS he hr => ?_)) ?_
            · have r0 : ev (.tmp 1) = .slice (some ⟨gb, ob, none⟩) nB db := hr (1, none) (by simp); have hk := he.1; clear hr he
              go_simp
            refine VFrom.cons (VStep.val _ rfl _ rfl (.int .i64 (k : Int)) rfl trivial (fun ev wq hS he hr => ?_)) ?_
            · have r0 : ev (.tmp 8) = .int .i64 (k : Int) := hr (8, none) (by simp); have hk := he.1; clear hr he
              go_simp
            refine VFrom.cons (VStep.val _ rfl _ rfl (.pointer (some ⟨gb, ob + k * 16, none⟩)) rfl trivial (fun ev wq hS he hr => ?_)) ?_
            · have r0 : ev (.tmp 43) = .slice (some ⟨gb, ob, none⟩) nB db := hr (43, some 6) (by simp); have r1 : ev (.tmp 44) = .int .i64 (k : Int) := hr (44, some 7) (by simp); have hk := he.1; clear hr he
              have e1 := HB2.out
              go_simp
            refine VFrom.cons (VStep.val _ rfl _ rfl (markV y) rfl trivial (fun ev wq hS he hr => ?_)) ?_
            · have r0 : ev (.tmp 45) = .pointer (some ⟨gb, ob + k * 16, none⟩) := hr (45, some 8) (by simp); have hk := he.1; clear hr he
              exact exec_loadM rfl r0 (load_mark HLY.out.1 (range_kept HLY.out.2 hS.out))
            refine VFrom.cons (VStep.call _ rfl _ rfl (.bool b1) rfl trivial 10 #[markV x, markV y] (fun ev wq hS he hr => ?_) (fun wq hS => ?_)) ?_
            · have r0 : ev (.tmp 42) = markV x := hr (42, some 5) (by simp); have r1 : ev (.tmp 46) = markV y := hr (46, some 9) (by simp); have hk := he.1; have hf := he.2; clear hr he
              go_simp
            · exact (CL1.out wq).mono fun e w' ⟨h1, h2⟩ => ⟨h1, hid (hS.out.trans h2 (fun _ _ h => h))⟩
            refine VFrom.cons (VStep.val _ rfl _ rfl (.bool false) rfl trivial (fun ev wq hS he hr => ?_)) ?_
            · have r0 : ev (.tmp 38) = .bool b1 := hr (38, some 1) (by simp); have r1 : ev (.tmp 47) = .bool b1 := hr (47, some 10) (by simp); have hk := he.1; clear hr he
              go_simp
            refine VFrom.cons (VStep.val _ rfl _ rfl (.bool false) rfl trivial (fun ev wq hS he hr => ?_)) ?_
            · have r0 : ev (.tmp 48) = .bool false := hr (48, some 11) (by simp); have hk := he.1; clear hr he
              go_simp
            refine VFrom.cons (VStep.val _ rfl _ rfl (.int .i64 r) rfl rfl (fun ev wq hS he hr => ?_)) ?_
            · have r0 : ev (.tmp 7) = .int .i64 r := hr (7, none) (by simp); have hk := he.1; clear hr he
              go_simp
            refine VFrom.cons (VStep.val _ rfl _ rfl (.bool b2) rfl rfl (fun ev wq hS he hr => ?_)) ?_
            · have r0 : ev (.tmp 50) = .int .i64 r := hr (50, some 13) (by simp); have hk := he.1; clear hr he
              have e1 := HD2.out
              go_simp
            refine VFrom.cons (VStep.val _ rfl _ rfl (.slice (some ⟨gb, ob, none⟩) nB db) rfl rfl (fun ev wq hS he hr => ?_)) ?_
            · have r0 : ev (.tmp 1) = .slice (some ⟨gb, ob, none⟩) nB db := hr (1, none) (by simp); have hk := he.1; clear hr he
              go_simp
            refine VFrom.cons (VStep.val _ rfl _ rfl (.int .i64 (k : Int)) rfl rfl (fun ev wq hS he hr => ?_)) ?_
            · have r0 : ev (.tmp 8) = .int .i64 (k : Int) := hr (8, none) (by simp); have hk := he.1; clear hr he
              go_simp
            refine VFrom.cons (VStep.val _ rfl _ rfl (.pointer (some ⟨gb, ob + k * 16, none⟩)) rfl rfl (fun ev wq hS he hr => ?_)) ?_
            · have r0 : ev (.tmp 52) = .slice (some ⟨gb, ob, none⟩) nB db := hr (52, some 15) (by simp); have r1 : ev (.tmp 53) = .int .i64 (k : Int) := hr (53, some 16) (by simp); have hk := he.1; clear hr he
              have e1 := HB2.out
              go_simp
            refine VFrom.cons (VStep.val _ rfl _ rfl (markV y) rfl rfl (fun ev wq hS he hr => ?_)) ?_
            · have r0 : ev (.tmp 54) = .pointer (some ⟨gb, ob + k * 16, none⟩) := hr (54, some 17) (by simp); have hk := he.1; clear hr he
              exact exec_loadM rfl r0 (load_mark HLY.out.1 (range_kept HLY.out.2 hS.out))
            refine VFrom.cons (VStep.val _ rfl _ rfl (.slice (some ⟨ga, oa, none⟩) nA da) rfl rfl (fun ev wq hS he hr => ?_)) ?_
            · have r0 : ev (.tmp 0) = .slice (some ⟨ga, oa, none⟩) nA da := hr (0, none) (by simp); have hk := he.1; clear hr he
              go_simp
            refine VFrom.cons (VStep.val _ rfl _ rfl (.int .i64 (k : Int)) rfl rfl (fun ev wq hS he hr => ?_)) ?_
            · have r0 : ev (.tmp 8) = .int .i64 (k : Int) := hr (8, none) (by simp); have hk := he.1; clear hr he
              go_simp
            refine VFrom.cons (VStep.val _ rfl _ rfl (.pointer (some ⟨ga, oa + k * 16, none⟩)) rfl rfl (fun ev wq hS he hr => ?_)) ?_
            · have r0 : ev (.tmp 56) = .slice (some ⟨ga, oa, none⟩) nA da := hr (56, some 19) (by simp); have r1 : ev (.tmp 57) = .int .i64 (k : Int) := hr (57, some 20) (by simp); have hk := he.1; clear hr he
              have e1 := HB1.out
              go_simp
            refine VFrom.cons (VStep.val _ rfl _ rfl (markV x) rfl rfl (fun ev wq hS he hr => ?_)) ?_
            · have r0 : ev (.tmp 58) = .pointer (some ⟨ga, oa + k * 16, none⟩) := hr (58, some 21) (by simp); have hk := he.1; clear hr he
              exact exec_loadM rfl r0 (load_mark HLX.out.1 (range_kept HLX.out.2 hS.out))
            refine VFrom.cons (VStep.call _ rfl _ rfl (.bool b2) rfl rfl 10 #[markV y, markV x] (fun ev wq hS he hr => ?_) (fun wq hS => ?_)) ?_
            · have r0 : ev (.tmp 55) = markV y := hr (55, some 18) (by simp); have r1 : ev (.tmp 59) = markV x := hr (59, some 22) (by simp); have hk := he.1; have hf := he.2; clear hr he
              go_simp
            · exact (CL2.out wq).mono fun e w' ⟨h1, h2⟩ => ⟨h1, hid (hS.out.trans h2 (fun _ _ h => h))⟩
            refine VFrom.cons (VStep.val _ rfl _ rfl (.bool false) rfl rfl (fun ev wq hS he hr => ?_)) ?_
            · have r0 : ev (.tmp 51) = .bool b2 := hr (51, some 14) (by simp); have r1 : ev (.tmp 60) = .bool b2 := hr (60, some 23) (by simp); have hk := he.1; clear hr he
              go_simp
            refine VFrom.cons (VStep.val _ rfl _ rfl (.bool false) rfl trivial (fun ev wq hS he hr => ?_)) ?_
            · have r0 : ev (.tmp 49) = .bool false := hr (49, some 12) (by simp); have r1 : ev (.tmp 61) = .bool false := hr (61, some 24) (by simp); have hk := he.1; clear hr he
              go_simp
            refine VFrom.cons (VStep.val _ rfl _ rfl (.bool false) rfl trivial (fun ev wq hS he hr => ?_)) ?_
            · have r0 : ev (.tmp 62) = .bool false := hr (62, some 25) (by simp); have hk := he.1; clear hr he
              go_simp
            refine VFrom.cons (VStep.val _ rfl _ rfl (.int .i64 r) rfl rfl (fun ev wq hS he hr => ?_)) ?_
            · have r0 : ev (.tmp 7) = .int .i64 r := hr (7, none) (by simp); have hk := he.1; clear hr he
              go_simp
            refine VFrom.cons (VStep.val _ rfl _ rfl (.bool false) rfl rfl (fun ev wq hS he hr => ?_)) ?_
            · have r0 : ev (.tmp 64) = .int .i64 r := hr (64, some 27) (by simp); have hk := he.1; clear hr he
              have e1 := HD3.out
              go_simp
            refine VFrom.cons (VStep.val _ rfl _ rfl (.bool false) rfl trivial (fun ev wq hS he hr => ?_)) ?_
            · have r0 : ev (.tmp 63) = .bool false := hr (63, some 26) (by simp); have r1 : ev (.tmp 65) = .bool false := hr (65, some 28) (by simp); have hk := he.1; clear hr he
              go_simp
            refine VFrom.cons (VStep.val _ rfl _ rfl (.bool false) rfl trivial (fun ev wq hS he hr => ?_)) ?_
            · have r0 : ev (.tmp 66) = .bool false := hr (66, some 29) (by simp); have hk := he.1; clear hr he
              go_simp
            refine VFrom.cons (VStep.val _ rfl _ rfl (.int .i64 r) rfl rfl (fun ev wq hS he hr => ?_)) ?_
            · have r0 : ev (.tmp 7) = .int .i64 r := hr (7, none) (by simp); have hk := he.1; clear hr he
              go_simp
            refine VFrom.cons (VStep.val _ rfl _ rfl (.bool false) rfl rfl (fun ev wq hS he hr => ?_)) ?_
            · have r0 : ev (.tmp 68) = .int .i64 r := hr (68, some 31) (by simp); have hk := he.1; clear hr he
              have e1 := HD4.out
              go_simp
            refine VFrom.cons (VStep.val _ rfl _ rfl (.bool false) rfl trivial (fun ev wq hS he hr => ?_)) ?_
            · have r0 : ev (.tmp 67) = .bool false := hr (67, some 30) (by simp); have r1 : ev (.tmp 69) = .bool false := hr (69, some 32) (by simp); have hk := he.1; clear hr he
              go_simp
            exact VFrom.nil
          case hS => exact hid (Kp.refl Nb wz).drew
          case hend =>
            intro wv hy
            have KV := hid (KY.out.trans hy.out (fun _ _ h => h))
            clear hy
            simp only [putAll, List.zip_cons_cons, List.zip_nil_right, List.foldl_cons, List.foldl_nil, Act.put, List.setIfInBounds_toArray, List.set_cons_zero, List.set_cons_succ]
            go_wp2
            go_roundw
            case rel => exact ⟨k + 1, by omega, by go_num, KV⟩
            case measure => simp [intOf]; omega
      · have hl3 : ¬ (k : Int) < (nB : Int) := by omega
        go_wp2
        go_roundw
        case rel => exact ⟨k + 1, by omega, by go_num, HK⟩
        case measure => simp [intOf]; omega
    · obtain rfl : nA = k := by omega
      have HA := hid (HA.out.step HK.out)
      have D1 := hid (D1.out.kept HK.out (fun h => h))
      clear HK HAA HBB hlt hk
      obtain ⟨ra, hra⟩ : ∃ b, rightB xs = b := ⟨_, rfl⟩
      have HR := hid hra
      clear hra
      go_wp2_with fail
      have C := mright_any _ xs wr (HA.out.1 (.slice pa nA da, xs) (by simp)).1 (by have := HB.out; have := HNA.out; have := HNB.out; omega)
      rw [HR.out] at C
      refine C.mono ?_
      rintro r v1 ⟨rfl, k⟩
      have HA := hid (HA.out.step k)
      have D1 := hid (D1.out.kept k (fun h => h))
      clear C k
      go_wp2_with fail
      have C := rset_any _ xs v1 (HA.out.1 (.slice pa nA da, xs) (by simp)).1 (by have := HB.out; have := HNA.out; have := HNB.out; omega)
      rw [HR.out] at C
      refine C.mono ?_
      rintro r v2 ⟨rfl, k⟩
      have HA := hid (HA.out.step k)
      have D1 := hid (D1.out.kept k (fun h => h))
      clear C k
      go_wp2_with fail
      have C := mof_any _ xs v2 (HA.out.1 (.slice pa nA da, xs) (by simp)).1 (by have := HB.out; have := HNA.out; have := HNB.out; omega)
      refine C.mono ?_
      rintro r v3 ⟨vu, u, rfl, h, hr, hm, hl, ho, k⟩
      obtain ⟨pu, du, e⟩ := h.shape
      subst e
      have HU := hid h
      have RU := hid hr
      have MU := hid hm
      have LU : Hid (u.length ≤ 200) := hid (by have := HB.out; have := HNA.out; have := HNB.out; omega)
      clear h hr hm hl ho
      have HA := hid (HA.out.step k)
      have D1 := hid (D1.out.kept k (fun h => h))
      clear C k
      go_wp2_with fail
      have C := rmarks_any _ xs v3 (HA.out.1 (.slice pa nA da, xs) (by simp)).1 (by have := HB.out; have := HNA.out; have := HNB.out; omega)
      refine C.mono ?_
      rintro r v4 ⟨vt, q, rfl, h, hr, hm, hl, k⟩
      obtain rfl : u = q := rise_unique RU.out hr (fun m => by rw [MU.out, hm])
      obtain ⟨pt, dt, e⟩ := h.shape
      subst e
      have HV := hid h
      have HU := hid (HU.out.kept k)
      clear h hr hm hl
      have HA := hid (HA.out.step k)
      have D1 := hid (D1.out.kept k (fun h => h))
      clear C k
      go_wp2_with fail
      have C := rsm_any _ _ u u v4 HU.out HV.out (by have := LU.out; omega)
      rw [decide_eq_true rfl] at C
      refine C.mono ?_
      rintro r v5 ⟨rfl, k⟩
      clear HU HV RU MU LU
      have HA := hid (HA.out.step k)
      have D1 := hid (D1.out.kept k (fun h => h))
      clear C k
      have hR := range_of D1.out
      rw [HTE.out] at hR
      have c0 : World.cell? v5 ⟨M, 0, none⟩ = some (.int .u8 a0) := hR 0 _ rfl
      have c1 : World.cell? v5 ⟨M, 1, none⟩ = some (.int .u8 a1) := hR 1 _ rfl
      have c2 : World.cell? v5 ⟨M, 2, none⟩ = some (.int .u8 a2) := hR 2 _ rfl
      have c3 : World.cell? v5 ⟨M, 3, none⟩ = some (.int .u8 a3) := hR 3 _ rfl
      have c4 : World.cell? v5 ⟨M, 4, none⟩ = some (.int .u8 a4) := hR 4 _ rfl
      have c5 : World.cell? v5 ⟨M, 5, none⟩ = some (.int .u8 a5) := hR 5 _ rfl
      have c6 : World.cell? v5 ⟨M, 6, none⟩ = some (.int .u8 a6) := hR 6 _ rfl
      have c7 : World.cell? v5 ⟨M, 7, none⟩ = some (.int .u8 a7) := hR 7 _ rfl
      have c8 : World.cell? v5 ⟨M, 8, none⟩ = some (.int .u8 a8) := hR 8 _ rfl
      have c9 : World.cell? v5 ⟨M, 9, none⟩ = some (.int .u8 a9) := hR 9 _ rfl
      have c10 : World.cell? v5 ⟨M, 10, none⟩ = some (.int .u8 a10) := hR 10 _ rfl
      have c11 : World.cell? v5 ⟨M, 11, none⟩ = some (.int .u8 a11) := hR 11 _ rfl
      have c12 : World.cell? v5 ⟨M, 12, none⟩ = some (.int .u8 a12) := hR 12 _ rfl
      have c13 : World.cell? v5 ⟨M, 13, none⟩ = some (.int .u8 a13) := hR 13 _ rfl
      have c14 : World.cell? v5 ⟨M, 14, none⟩ = some (.int .u8 a14) := hR 14 _ rfl
      have c15 : World.cell? v5 ⟨M, 15, none⟩ = some (.int .u8 a15) := hR 15 _ rfl
      clear hR
      go_wp2_with fail
      have C := mhas_any _ xs t v5 (HA.out.1 (.slice pa nA da, xs) (by simp)).1 HT.out (by have := HB.out; have := HNA.out; have := HNB.out; omega)
      rw [HR.out] at C
      rw [(show markV t = .agg #[.int .u8 a0, .int .u8 a1, .int .u8 a2, .int .u8 a3, .int .u8 a4, .int .u8 a5, .int .u8 a6, .int .u8 a7, .int .u8 a8, .int .u8 a9, .int .u8 a10, .int .u8 a11, .int .u8 a12, .int .u8 a13, .int .u8 a14, .int .u8 a15] from by rw [HTE.out]; rfl)] at C
      refine C.mono ?_
      rintro r v6 ⟨rfl, k⟩
      clear c0 c1 c2 c3 c4 c5 c6 c7 c8 c9 c10 c11 c12 c13 c14 c15
      obtain ⟨hh, eh⟩ : ∃ b, decide (t ∈ xs) = b := ⟨_, rfl⟩
      have HH : Hid (mhasB xs t = hh) := hid eh
      rw [eh]
      clear eh
      have HA := hid (HA.out.step k)
      have D1 := hid (D1.out.kept k (fun h => h))
      clear C k
      go_wp2_with fail
      have C := rset_any _ xs v6 (HA.out.1 (.slice pa nA da, xs) (by simp)).1 (by have := HB.out; have := HNA.out; have := HNB.out; omega)
      rw [HR.out] at C
      refine C.mono ?_
      rintro r v7 ⟨rfl, k⟩
      have HA := hid (HA.out.step k)
      have D1 := hid (D1.out.kept k (fun h => h))
      clear C k
      cases ra with
      | true =>
        simp only [Bool.true_and]
        have hR := range_of D1.out
        rw [HTE.out] at hR
        have c0 : World.cell? v7 ⟨M, 0, none⟩ = some (.int .u8 a0) := hR 0 _ rfl
        have c1 : World.cell? v7 ⟨M, 1, none⟩ = some (.int .u8 a1) := hR 1 _ rfl
        have c2 : World.cell? v7 ⟨M, 2, none⟩ = some (.int .u8 a2) := hR 2 _ rfl
        have c3 : World.cell? v7 ⟨M, 3, none⟩ = some (.int .u8 a3) := hR 3 _ rfl
        have c4 : World.cell? v7 ⟨M, 4, none⟩ = some (.int .u8 a4) := hR 4 _ rfl
        have c5 : World.cell? v7 ⟨M, 5, none⟩ = some (.int .u8 a5) := hR 5 _ rfl
        have c6 : World.cell? v7 ⟨M, 6, none⟩ = some (.int .u8 a6) := hR 6 _ rfl
        have c7 : World.cell? v7 ⟨M, 7, none⟩ = some (.int .u8 a7) := hR 7 _ rfl
        have c8 : World.cell? v7 ⟨M, 8, none⟩ = some (.int .u8 a8) := hR 8 _ rfl
        have c9 : World.cell? v7 ⟨M, 9, none⟩ = some (.int .u8 a9) := hR 9 _ rfl
        have c10 : World.cell? v7 ⟨M, 10, none⟩ = some (.int .u8 a10) := hR 10 _ rfl
        have c11 : World.cell? v7 ⟨M, 11, none⟩ = some (.int .u8 a11) := hR 11 _ rfl
        have c12 : World.cell? v7 ⟨M, 12, none⟩ = some (.int .u8 a12) := hR 12 _ rfl
        have c13 : World.cell? v7 ⟨M, 13, none⟩ = some (.int .u8 a13) := hR 13 _ rfl
        have c14 : World.cell? v7 ⟨M, 14, none⟩ = some (.int .u8 a14) := hR 14 _ rfl
        have c15 : World.cell? v7 ⟨M, 15, none⟩ = some (.int .u8 a15) := hR 15 _ rfl
        clear hR
        go_wp2_with fail
        have C := rhas_any _ xs t v7 (HA.out.1 (.slice pa nA da, xs) (by simp)).1 HT.out
        rw [HH.out] at C
        rw [(show markV t = .agg #[.int .u8 a0, .int .u8 a1, .int .u8 a2, .int .u8 a3, .int .u8 a4, .int .u8 a5, .int .u8 a6, .int .u8 a7, .int .u8 a8, .int .u8 a9, .int .u8 a10, .int .u8 a11, .int .u8 a12, .int .u8 a13, .int .u8 a14, .int .u8 a15] from by rw [HTE.out]; rfl)] at C
        refine C.mono ?_
        rintro r v8 ⟨rfl, k⟩
        clear c0 c1 c2 c3 c4 c5 c6 c7 c8 c9 c10 c11 c12 c13 c14 c15
        have HA := hid (HA.out.step k)
        have D1 := hid (D1.out.kept k (fun h => h))
        clear C k
        cases hh with
        | true =>
          go_wp2_with fail
          have C := munion_any _ _ xs ys v8 (HA.out.1 (.slice pa nA da, xs) (by simp)).1 (HA.out.1 (.slice pb nB db, ys) (by simp)).1 (by have := HB.out; have := HNA.out; have := HNB.out; omega) (by have := HB.out; have := HNA.out; have := HNB.out; omega) (HA.out.1 (.slice pa nA da, xs) (by simp)).2 (HA.out.1 (.slice pb nB db, ys) (by simp)).2
          refine C.mono ?_
          rintro r v9 ⟨vu, rfl, h, ho, k⟩
          obtain ⟨u, eu⟩ : ∃ l, thoseT true true true xs ys = l := ⟨_, rfl⟩
          have LNu : Hid (u.length ≤ 400) := hid (by rw [← eu]; exact Nat.le_trans (those_len _ _ _ _ _) (by have := HB.out; have := HNA.out; have := HNB.out; omega))
          rw [eu] at h
          have Eu := hid eu
          obtain ⟨pu, du, e⟩ := h.shape
          subst e
          have HU := hid h
          clear h ho eu
          have HA := hid (HA.out.step k)
          have D1 := hid (D1.out.kept k (fun h => h))
          clear C k
          go_wp2_with fail
          have C := rpick2_any _ _ xs ys true true true v9 (HA.out.1 (.slice pa nA da, xs) (by simp)).1 (HA.out.1 (.slice pb nB db, ys) (by simp)).1 (by have := HB.out; have := HNA.out; have := HNB.out; omega) (by have := HB.out; have := HNA.out; have := HNB.out; omega)
          refine C.mono ?_
          rintro r v10 ⟨vt, rfl, h, k⟩
          rw [Eu.out] at h
          obtain ⟨pt, dt, e⟩ := h.shape
          subst e
          have HV := hid h
          have HU := hid (HU.out.kept k)
          clear h
          have HA := hid (HA.out.step k)
          have D1 := hid (D1.out.kept k (fun h => h))
          clear C k
          go_wp2_with fail
          have C := rsm_any _ _ u u v10 HU.out HV.out (by have := LNu.out; omega)
          rw [decide_eq_true rfl] at C
          refine C.mono ?_
          rintro r v11 ⟨rfl, k⟩
          clear HU HV Eu LNu
          have HA := hid (HA.out.step k)
          have D1 := hid (D1.out.kept k (fun h => h))
          clear C k
          go_wp2_with fail
          have C := mminus_any _ _ xs ys v11 (HA.out.1 (.slice pa nA da, xs) (by simp)).1 (HA.out.1 (.slice pb nB db, ys) (by simp)).1 (by have := HB.out; have := HNA.out; have := HNB.out; omega) (by have := HB.out; have := HNA.out; have := HNB.out; omega) (HA.out.1 (.slice pa nA da, xs) (by simp)).2 (HA.out.1 (.slice pb nB db, ys) (by simp)).2
          refine C.mono ?_
          rintro r v12 ⟨vu, rfl, h, ho, k⟩
          obtain ⟨u, eu⟩ : ∃ l, thoseT true false false xs ys = l := ⟨_, rfl⟩
          have LNu : Hid (u.length ≤ 400) := hid (by rw [← eu]; exact Nat.le_trans (those_len _ _ _ _ _) (by have := HB.out; have := HNA.out; have := HNB.out; omega))
          rw [eu] at h
          have Eu := hid eu
          obtain ⟨pu, du, e⟩ := h.shape
          subst e
          have HU := hid h
          clear h ho eu
          have HA := hid (HA.out.step k)
          have D1 := hid (D1.out.kept k (fun h => h))
          clear C k
          go_wp2_with fail
          have C := rpick2_any _ _ xs ys true false false v12 (HA.out.1 (.slice pa nA da, xs) (by simp)).1 (HA.out.1 (.slice pb nB db, ys) (by simp)).1 (by have := HB.out; have := HNA.out; have := HNB.out; omega) (by have := HB.out; have := HNA.out; have := HNB.out; omega)
          refine C.mono ?_
          rintro r v13 ⟨vt, rfl, h, k⟩
          rw [Eu.out] at h
          obtain ⟨pt, dt, e⟩ := h.shape
          subst e
          have HV := hid h
          have HU := hid (HU.out.kept k)
          clear h
          have HA := hid (HA.out.step k)
          have D1 := hid (D1.out.kept k (fun h => h))
          clear C k
          go_wp2_with fail
          have C := rsm_any _ _ u u v13 HU.out HV.out (by have := LNu.out; omega)
          rw [decide_eq_true rfl] at C
          refine C.mono ?_
          rintro r v14 ⟨rfl, k⟩
          clear HU HV Eu LNu
          have HA := hid (HA.out.step k)
          have D1 := hid (D1.out.kept k (fun h => h))
          clear C k
          go_wp2_with fail
          have C := mmeet_any _ _ xs ys v14 (HA.out.1 (.slice pa nA da, xs) (by simp)).1 (HA.out.1 (.slice pb nB db, ys) (by simp)).1 (by have := HB.out; have := HNA.out; have := HNB.out; omega) (by have := HB.out; have := HNA.out; have := HNB.out; omega) (HA.out.1 (.slice pa nA da, xs) (by simp)).2 (HA.out.1 (.slice pb nB db, ys) (by simp)).2
          refine C.mono ?_
          rintro r v15 ⟨vu, rfl, h, ho, k⟩
          obtain ⟨u, eu⟩ : ∃ l, thoseT false false true xs ys = l := ⟨_, rfl⟩
          have LNu : Hid (u.length ≤ 400) := hid (by rw [← eu]; exact Nat.le_trans (those_len _ _ _ _ _) (by have := HB.out; have := HNA.out; have := HNB.out; omega))
          rw [eu] at h
          have Eu := hid eu
          obtain ⟨pu, du, e⟩ := h.shape
          subst e
          have HU := hid h
          clear h ho eu
          have HA := hid (HA.out.step k)
          have D1 := hid (D1.out.kept k (fun h => h))
          clear C k
          go_wp2_with fail
          have C := rpick2_any _ _ xs ys false false true v15 (HA.out.1 (.slice pa nA da, xs) (by simp)).1 (HA.out.1 (.slice pb nB db, ys) (by simp)).1 (by have := HB.out; have := HNA.out; have := HNB.out; omega) (by have := HB.out; have := HNA.out; have := HNB.out; omega)
          refine C.mono ?_
          rintro r v16 ⟨vt, rfl, h, k⟩
          rw [Eu.out] at h
          obtain ⟨pt, dt, e⟩ := h.shape
          subst e
          have HV := hid h
          have HU := hid (HU.out.kept k)
          clear h
          have HA := hid (HA.out.step k)
          have D1 := hid (D1.out.kept k (fun h => h))
          clear C k
          go_wp2_with fail
          have C := rsm_any _ _ u u v16 HU.out HV.out (by have := LNu.out; omega)
          rw [decide_eq_true rfl] at C
          refine C.mono ?_
          rintro r v17 ⟨rfl, k⟩
          clear HU HV Eu LNu
          have HA := hid (HA.out.step k)
          have D1 := hid (D1.out.kept k (fun h => h))
          clear C k
          go_wp2_with fail
          have C := mfold_any _ xs v17 (HA.out.1 (.slice pa nA da, xs) (by simp)).1 (by have := HB.out; have := HNA.out; have := HNB.out; omega)
          refine C.mono ?_
          rintro r v18 ⟨rfl, k⟩
          obtain ⟨f, hf⟩ : ∃ f, foldM xs = f := ⟨_, rfl⟩
          have HF := hid hf
          have OF : Hid (MarkOk f) := hid (by rw [← hf]; exact foldM_ok xs)
          rw [hf]
          have HA := hid (HA.out.step k)
          have D1 := hid (D1.out.kept k (fun h => h))
          clear C k
          go_wp2_with fail
          have C := rfold_any _ xs v18 (HA.out.1 (.slice pa nA da, xs) (by simp)).1
          rw [HF.out] at C
          refine C.mono ?_
          rintro r v19 ⟨rfl, k⟩
          clear hf
          have HA := hid (HA.out.step k)
          have D1 := hid (D1.out.kept k (fun h => h))
          clear C k
          go_wp2_with (refine wpList_valG (by rfl) _ _ (exec_eqM (bb := true) rfl (by rfl) (by rfl) OF.out OF.out (by simp)) ?_)
          have C := msame_any _ _ xs ys v19 (HA.out.1 (.slice pa nA da, xs) (by simp)).1 (HA.out.1 (.slice pb nB db, ys) (by simp)).1 (by have := HB.out; have := HNA.out; have := HNB.out; omega) (by have := HB.out; have := HNA.out; have := HNB.out; omega)
          refine C.mono ?_
          rintro r v20 ⟨rfl, k⟩
          obtain ⟨q, hq⟩ : ∃ b, decide (xs = ys) = b := ⟨_, rfl⟩
          have HQ := hid hq
          rw [hq]
          clear hq
          have HA := hid (HA.out.step k)
          have D1 := hid (D1.out.kept k (fun h => h))
          clear C k
          go_wp2_with fail
          have C := rsm_any _ _ xs ys v20 (HA.out.1 (.slice pa nA da, xs) (by simp)).1 (HA.out.1 (.slice pb nB db, ys) (by simp)).1 (by have := HB.out; have := HNA.out; have := HNB.out; omega)
          rw [HQ.out] at C
          refine C.mono ?_
          rintro r v21 ⟨rfl, k⟩
          have HA := hid (HA.out.step k)
          have D1 := hid (D1.out.kept k (fun h => h))
          clear C k
          cases q with
          | true =>
            go_wp2
            go_ret
            exact ⟨rfl, HA.out.2⟩
          | false =>
            go_wp2
            go_ret
            exact ⟨rfl, HA.out.2⟩
        | false =>
          go_wp2_with fail
          have C := munion_any _ _ xs ys v8 (HA.out.1 (.slice pa nA da, xs) (by simp)).1 (HA.out.1 (.slice pb nB db, ys) (by simp)).1 (by have := HB.out; have := HNA.out; have := HNB.out; omega) (by have := HB.out; have := HNA.out; have := HNB.out; omega) (HA.out.1 (.slice pa nA da, xs) (by simp)).2 (HA.out.1 (.slice pb nB db, ys) (by simp)).2
          refine C.mono ?_
          rintro r v9 ⟨vu, rfl, h, ho, k⟩
          obtain ⟨u, eu⟩ : ∃ l, thoseT true true true xs ys = l := ⟨_, rfl⟩
          have LNu : Hid (u.length ≤ 400) := hid (by rw [← eu]; exact Nat.le_trans (those_len _ _ _ _ _) (by have := HB.out; have := HNA.out; have := HNB.out; omega))
          rw [eu] at h
          have Eu := hid eu
          obtain ⟨pu, du, e⟩ := h.shape
          subst e
          have HU := hid h
          clear h ho eu
          have HA := hid (HA.out.step k)
          have D1 := hid (D1.out.kept k (fun h => h))
          clear C k
          go_wp2_with fail
          have C := rpick2_any _ _ xs ys true true true v9 (HA.out.1 (.slice pa nA da, xs) (by simp)).1 (HA.out.1 (.slice pb nB db, ys) (by simp)).1 (by have := HB.out; have := HNA.out; have := HNB.out; omega) (by have := HB.out; have := HNA.out; have := HNB.out; omega)
          refine C.mono ?_
          rintro r v10 ⟨vt, rfl, h, k⟩
          rw [Eu.out] at h
          obtain ⟨pt, dt, e⟩ := h.shape
          subst e
          have HV := hid h
          have HU := hid (HU.out.kept k)
          clear h
          have HA := hid (HA.out.step k)
          have D1 := hid (D1.out.kept k (fun h => h))
          clear C k
          go_wp2_with fail
          have C := rsm_any _ _ u u v10 HU.out HV.out (by have := LNu.out; omega)
          rw [decide_eq_true rfl] at C
          refine C.mono ?_
          rintro r v11 ⟨rfl, k⟩
          clear HU HV Eu LNu
          have HA := hid (HA.out.step k)
          have D1 := hid (D1.out.kept k (fun h => h))
          clear C k
          go_wp2_with fail
          have C := mminus_any _ _ xs ys v11 (HA.out.1 (.slice pa nA da, xs) (by simp)).1 (HA.out.1 (.slice pb nB db, ys) (by simp)).1 (by have := HB.out; have := HNA.out; have := HNB.out; omega) (by have := HB.out; have := HNA.out; have := HNB.out; omega) (HA.out.1 (.slice pa nA da, xs) (by simp)).2 (HA.out.1 (.slice pb nB db, ys) (by simp)).2
          refine C.mono ?_
          rintro r v12 ⟨vu, rfl, h, ho, k⟩
          obtain ⟨u, eu⟩ : ∃ l, thoseT true false false xs ys = l := ⟨_, rfl⟩
          have LNu : Hid (u.length ≤ 400) := hid (by rw [← eu]; exact Nat.le_trans (those_len _ _ _ _ _) (by have := HB.out; have := HNA.out; have := HNB.out; omega))
          rw [eu] at h
          have Eu := hid eu
          obtain ⟨pu, du, e⟩ := h.shape
          subst e
          have HU := hid h
          clear h ho eu
          have HA := hid (HA.out.step k)
          have D1 := hid (D1.out.kept k (fun h => h))
          clear C k
          go_wp2_with fail
          have C := rpick2_any _ _ xs ys true false false v12 (HA.out.1 (.slice pa nA da, xs) (by simp)).1 (HA.out.1 (.slice pb nB db, ys) (by simp)).1 (by have := HB.out; have := HNA.out; have := HNB.out; omega) (by have := HB.out; have := HNA.out; have := HNB.out; omega)
          refine C.mono ?_
          rintro r v13 ⟨vt, rfl, h, k⟩
          rw [Eu.out] at h
          obtain ⟨pt, dt, e⟩ := h.shape
          subst e
          have HV := hid h
          have HU := hid (HU.out.kept k)
          clear h
          have HA := hid (HA.out.step k)
          have D1 := hid (D1.out.kept k (fun h => h))
          clear C k
          go_wp2_with fail
          have C := rsm_any _ _ u u v13 HU.out HV.out (by have := LNu.out; omega)
          rw [decide_eq_true rfl] at C
          refine C.mono ?_
          rintro r v14 ⟨rfl, k⟩
          clear HU HV Eu LNu
          have HA := hid (HA.out.step k)
          have D1 := hid (D1.out.kept k (fun h => h))
          clear C k
          go_wp2_with fail
          have C := mmeet_any _ _ xs ys v14 (HA.out.1 (.slice pa nA da, xs) (by simp)).1 (HA.out.1 (.slice pb nB db, ys) (by simp)).1 (by have := HB.out; have := HNA.out; have := HNB.out; omega) (by have := HB.out; have := HNA.out; have := HNB.out; omega) (HA.out.1 (.slice pa nA da, xs) (by simp)).2 (HA.out.1 (.slice pb nB db, ys) (by simp)).2
          refine C.mono ?_
          rintro r v15 ⟨vu, rfl, h, ho, k⟩
          obtain ⟨u, eu⟩ : ∃ l, thoseT false false true xs ys = l := ⟨_, rfl⟩
          have LNu : Hid (u.length ≤ 400) := hid (by rw [← eu]; exact Nat.le_trans (those_len _ _ _ _ _) (by have := HB.out; have := HNA.out; have := HNB.out; omega))
          rw [eu] at h
          have Eu := hid eu
          obtain ⟨pu, du, e⟩ := h.shape
          subst e
          have HU := hid h
          clear h ho eu
          have HA := hid (HA.out.step k)
          have D1 := hid (D1.out.kept k (fun h => h))
          clear C k
          go_wp2_with fail
          have C := rpick2_any _ _ xs ys false false true v15 (HA.out.1 (.slice pa nA da, xs) (by simp)).1 (HA.out.1 (.slice pb nB db, ys) (by simp)).1 (by have := HB.out; have := HNA.out; have := HNB.out; omega) (by have := HB.out; have := HNA.out; have := HNB.out; omega)
          refine C.mono ?_
          rintro r v16 ⟨vt, rfl, h, k⟩
          rw [Eu.out] at h
          obtain ⟨pt, dt, e⟩ := h.shape
          subst e
          have HV := hid h
          have HU := hid (HU.out.kept k)
          clear h
          have HA := hid (HA.out.step k)
          have D1 := hid (D1.out.kept k (fun h => h))
          clear C k
          go_wp2_with fail
          have C := rsm_any _ _ u u v16 HU.out HV.out (by have := LNu.out; omega)
          rw [decide_eq_true rfl] at C
          refine C.mono ?_
          rintro r v17 ⟨rfl, k⟩
          clear HU HV Eu LNu
          have HA := hid (HA.out.step k)
          have D1 := hid (D1.out.kept k (fun h => h))
          clear C k
          go_wp2_with fail
          have C := mfold_any _ xs v17 (HA.out.1 (.slice pa nA da, xs) (by simp)).1 (by have := HB.out; have := HNA.out; have := HNB.out; omega)
          refine C.mono ?_
          rintro r v18 ⟨rfl, k⟩
          obtain ⟨f, hf⟩ : ∃ f, foldM xs = f := ⟨_, rfl⟩
          have HF := hid hf
          have OF : Hid (MarkOk f) := hid (by rw [← hf]; exact foldM_ok xs)
          rw [hf]
          have HA := hid (HA.out.step k)
          have D1 := hid (D1.out.kept k (fun h => h))
          clear C k
          go_wp2_with fail
          have C := rfold_any _ xs v18 (HA.out.1 (.slice pa nA da, xs) (by simp)).1
          rw [HF.out] at C
          refine C.mono ?_
          rintro r v19 ⟨rfl, k⟩
          clear hf
          have HA := hid (HA.out.step k)
          have D1 := hid (D1.out.kept k (fun h => h))
          clear C k
          go_wp2_with (refine wpList_valG (by rfl) _ _ (exec_eqM (bb := true) rfl (by rfl) (by rfl) OF.out OF.out (by simp)) ?_)
          have C := msame_any _ _ xs ys v19 (HA.out.1 (.slice pa nA da, xs) (by simp)).1 (HA.out.1 (.slice pb nB db, ys) (by simp)).1 (by have := HB.out; have := HNA.out; have := HNB.out; omega) (by have := HB.out; have := HNA.out; have := HNB.out; omega)
          refine C.mono ?_
          rintro r v20 ⟨rfl, k⟩
          obtain ⟨q, hq⟩ : ∃ b, decide (xs = ys) = b := ⟨_, rfl⟩
          have HQ := hid hq
          rw [hq]
          clear hq
          have HA := hid (HA.out.step k)
          have D1 := hid (D1.out.kept k (fun h => h))
          clear C k
          go_wp2_with fail
          have C := rsm_any _ _ xs ys v20 (HA.out.1 (.slice pa nA da, xs) (by simp)).1 (HA.out.1 (.slice pb nB db, ys) (by simp)).1 (by have := HB.out; have := HNA.out; have := HNB.out; omega)
          rw [HQ.out] at C
          refine C.mono ?_
          rintro r v21 ⟨rfl, k⟩
          have HA := hid (HA.out.step k)
          have D1 := hid (D1.out.kept k (fun h => h))
          clear C k
          cases q with
          | true =>
            go_wp2
            go_ret
            exact ⟨rfl, HA.out.2⟩
          | false =>
            go_wp2
            go_ret
            exact ⟨rfl, HA.out.2⟩
      | false =>
        simp only [Bool.false_and]
        go_wp2_with fail
        have C := munion_any _ _ xs ys v7 (HA.out.1 (.slice pa nA da, xs) (by simp)).1 (HA.out.1 (.slice pb nB db, ys) (by simp)).1 (by have := HB.out; have := HNA.out; have := HNB.out; omega) (by have := HB.out; have := HNA.out; have := HNB.out; omega) (HA.out.1 (.slice pa nA da, xs) (by simp)).2 (HA.out.1 (.slice pb nB db, ys) (by simp)).2
        refine C.mono ?_
        rintro r v8 ⟨vu, rfl, h, ho, k⟩
        obtain ⟨u, eu⟩ : ∃ l, thoseT true true true xs ys = l := ⟨_, rfl⟩
        have LNu : Hid (u.length ≤ 400) := hid (by rw [← eu]; exact Nat.le_trans (those_len _ _ _ _ _) (by have := HB.out; have := HNA.out; have := HNB.out; omega))
        rw [eu] at h
        have Eu := hid eu
        obtain ⟨pu, du, e⟩ := h.shape
        subst e
        have HU := hid h
        clear h ho eu
        have HA := hid (HA.out.step k)
        have D1 := hid (D1.out.kept k (fun h => h))
        clear C k
        go_wp2_with fail
        have C := rpick2_any _ _ xs ys true true true v8 (HA.out.1 (.slice pa nA da, xs) (by simp)).1 (HA.out.1 (.slice pb nB db, ys) (by simp)).1 (by have := HB.out; have := HNA.out; have := HNB.out; omega) (by have := HB.out; have := HNA.out; have := HNB.out; omega)
        refine C.mono ?_
        rintro r v9 ⟨vt, rfl, h, k⟩
        rw [Eu.out] at h
        obtain ⟨pt, dt, e⟩ := h.shape
        subst e
        have HV := hid h
        have HU := hid (HU.out.kept k)
        clear h
        have HA := hid (HA.out.step k)
        have D1 := hid (D1.out.kept k (fun h => h))
        clear C k
        go_wp2_with fail
        have C := rsm_any _ _ u u v9 HU.out HV.out (by have := LNu.out; omega)
        rw [decide_eq_true rfl] at C
        refine C.mono ?_
        rintro r v10 ⟨rfl, k⟩
        clear HU HV Eu LNu
        have HA := hid (HA.out.step k)
        have D1 := hid (D1.out.kept k (fun h => h))
        clear C k
        go_wp2_with fail
        have C := mminus_any _ _ xs ys v10 (HA.out.1 (.slice pa nA da, xs) (by simp)).1 (HA.out.1 (.slice pb nB db, ys) (by simp)).1 (by have := HB.out; have := HNA.out; have := HNB.out; omega) (by have := HB.out; have := HNA.out; have := HNB.out; omega) (HA.out.1 (.slice pa nA da, xs) (by simp)).2 (HA.out.1 (.slice pb nB db, ys) (by simp)).2
        refine C.mono ?_
        rintro r v11 ⟨vu, rfl, h, ho, k⟩
        obtain ⟨u, eu⟩ : ∃ l, thoseT true false false xs ys = l := ⟨_, rfl⟩
        have LNu : Hid (u.length ≤ 400) := hid (by rw [← eu]; exact Nat.le_trans (those_len _ _ _ _ _) (by have := HB.out; have := HNA.out; have := HNB.out; omega))
        rw [eu] at h
        have Eu := hid eu
        obtain ⟨pu, du, e⟩ := h.shape
        subst e
        have HU := hid h
        clear h ho eu
        have HA := hid (HA.out.step k)
        have D1 := hid (D1.out.kept k (fun h => h))
        clear C k
        go_wp2_with fail
        have C := rpick2_any _ _ xs ys true false false v11 (HA.out.1 (.slice pa nA da, xs) (by simp)).1 (HA.out.1 (.slice pb nB db, ys) (by simp)).1 (by have := HB.out; have := HNA.out; have := HNB.out; omega) (by have := HB.out; have := HNA.out; have := HNB.out; omega)
        refine C.mono ?_
        rintro r v12 ⟨vt, rfl, h, k⟩
        rw [Eu.out] at h
        obtain ⟨pt, dt, e⟩ := h.shape
        subst e
        have HV := hid h
        have HU := hid (HU.out.kept k)
        clear h
        have HA := hid (HA.out.step k)
        have D1 := hid (D1.out.kept k (fun h => h))
        clear C k
        go_wp2_with fail
        have C := rsm_any _ _ u u v12 HU.out HV.out (by have := LNu.out; omega)
        rw [decide_eq_true rfl] at C
        refine C.mono ?_
        rintro r v13 ⟨rfl, k⟩
        clear HU HV Eu LNu
        have HA := hid (HA.out.step k)
        have D1 := hid (D1.out.kept k (fun h => h))
        clear C k
        go_wp2_with fail
        have C := mmeet_any _ _ xs ys v13 (HA.out.1 (.slice pa nA da, xs) (by simp)).1 (HA.out.1 (.slice pb nB db, ys) (by simp)).1 (by have := HB.out; have := HNA.out; have := HNB.out; omega) (by have := HB.out; have := HNA.out; have := HNB.out; omega) (HA.out.1 (.slice pa nA da, xs) (by simp)).2 (HA.out.1 (.slice pb nB db, ys) (by simp)).2
        refine C.mono ?_
        rintro r v14 ⟨vu, rfl, h, ho, k⟩
        obtain ⟨u, eu⟩ : ∃ l, thoseT false false true xs ys = l := ⟨_, rfl⟩
        have LNu : Hid (u.length ≤ 400) := hid (by rw [← eu]; exact Nat.le_trans (those_len _ _ _ _ _) (by have := HB.out; have := HNA.out; have := HNB.out; omega))
        rw [eu] at h
        have Eu := hid eu
        obtain ⟨pu, du, e⟩ := h.shape
        subst e
        have HU := hid h
        clear h ho eu
        have HA := hid (HA.out.step k)
        have D1 := hid (D1.out.kept k (fun h => h))
        clear C k
        go_wp2_with fail
        have C := rpick2_any _ _ xs ys false false true v14 (HA.out.1 (.slice pa nA da, xs) (by simp)).1 (HA.out.1 (.slice pb nB db, ys) (by simp)).1 (by have := HB.out; have := HNA.out; have := HNB.out; omega) (by have := HB.out; have := HNA.out; have := HNB.out; omega)
        refine C.mono ?_
        rintro r v15 ⟨vt, rfl, h, k⟩
        rw [Eu.out] at h
        obtain ⟨pt, dt, e⟩ := h.shape
        subst e
        have HV := hid h
        have HU := hid (HU.out.kept k)
        clear h
        have HA := hid (HA.out.step k)
        have D1 := hid (D1.out.kept k (fun h => h))
        clear C k
        go_wp2_with fail
        have C := rsm_any _ _ u u v15 HU.out HV.out (by have := LNu.out; omega)
        rw [decide_eq_true rfl] at C
        refine C.mono ?_
        rintro r v16 ⟨rfl, k⟩
        clear HU HV Eu LNu
        have HA := hid (HA.out.step k)
        have D1 := hid (D1.out.kept k (fun h => h))
        clear C k
        go_wp2_with fail
        have C := mfold_any _ xs v16 (HA.out.1 (.slice pa nA da, xs) (by simp)).1 (by have := HB.out; have := HNA.out; have := HNB.out; omega)
        refine C.mono ?_
        rintro r v17 ⟨rfl, k⟩
        obtain ⟨f, hf⟩ : ∃ f, foldM xs = f := ⟨_, rfl⟩
        have HF := hid hf
        have OF : Hid (MarkOk f) := hid (by rw [← hf]; exact foldM_ok xs)
        rw [hf]
        have HA := hid (HA.out.step k)
        have D1 := hid (D1.out.kept k (fun h => h))
        clear C k
        go_wp2_with fail
        have C := rfold_any _ xs v17 (HA.out.1 (.slice pa nA da, xs) (by simp)).1
        rw [HF.out] at C
        refine C.mono ?_
        rintro r v18 ⟨rfl, k⟩
        clear hf
        have HA := hid (HA.out.step k)
        have D1 := hid (D1.out.kept k (fun h => h))
        clear C k
        go_wp2_with (refine wpList_valG (by rfl) _ _ (exec_eqM (bb := true) rfl (by rfl) (by rfl) OF.out OF.out (by simp)) ?_)
        have C := msame_any _ _ xs ys v18 (HA.out.1 (.slice pa nA da, xs) (by simp)).1 (HA.out.1 (.slice pb nB db, ys) (by simp)).1 (by have := HB.out; have := HNA.out; have := HNB.out; omega) (by have := HB.out; have := HNA.out; have := HNB.out; omega)
        refine C.mono ?_
        rintro r v19 ⟨rfl, k⟩
        obtain ⟨q, hq⟩ : ∃ b, decide (xs = ys) = b := ⟨_, rfl⟩
        have HQ := hid hq
        rw [hq]
        clear hq
        have HA := hid (HA.out.step k)
        have D1 := hid (D1.out.kept k (fun h => h))
        clear C k
        go_wp2_with fail
        have C := rsm_any _ _ xs ys v19 (HA.out.1 (.slice pa nA da, xs) (by simp)).1 (HA.out.1 (.slice pb nB db, ys) (by simp)).1 (by have := HB.out; have := HNA.out; have := HNB.out; omega)
        rw [HQ.out] at C
        refine C.mono ?_
        rintro r v20 ⟨rfl, k⟩
        have HA := hid (HA.out.step k)
        have D1 := hid (D1.out.kept k (fun h => h))
        clear C k
        cases q with
        | true =>
          go_wp2
          go_ret
          exact ⟨rfl, HA.out.2⟩
        | false =>
          go_wp2
          go_ret
          exact ⟨rfl, HA.out.2⟩

end Go.Proofs.Ytijlmfmpfjjlpaa
