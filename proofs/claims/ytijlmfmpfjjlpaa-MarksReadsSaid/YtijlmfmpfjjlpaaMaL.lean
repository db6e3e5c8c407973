/-
  Layer 9: slices.BinarySearchFunc at marks; Has. Conditions: marks of 16 bytes; at most 100,000.
-/
import Derived.Test.YtijlmfmpfjjlpaaMaK
namespace Go.Proofs.Ytijlmfmpfjjlpaa
open Go.RowKit Go.Shelf
attribute [local go_sem] Oper.semAt_some

/-- Between i and j. -/
def BsR (w : World) (ms : List (List Int)) (t : List Int) (N M : Nat) (a b : Value) (wr : World) : Prop := ∃ i j : Nat, i ≤ j ∧ j ≤ N ∧ a = .int .i64 i ∧ b = .int .i64 j ∧
  Hid (∀ k, k < i → lexI (markAt ms k) t = true) ∧ Hid (∀ k, j ≤ k → k < N → lexI (markAt ms k) t = false) ∧ Hid (Blk wr M 24 (markL t)) ∧ Hid (Kp Nb w wr)
theorem mid_facts (i j h N : Nat) (h1 : i < j) (h2 : j ≤ N) (h3 : N ≤ 100000) (hh : (i + j) / 2 = h) : IntKind.u64.wrap ((i : Int) + (j : Int)) = (i : Int) + j ∧ IntKind.i64.wrap ((i : Int) + (j : Int)) = (i : Int) + j ∧ ((i : Int) + (j : Int)) / 2 = (h : Int) ∧ wrap64 (h : Int) = (h : Int) ∧ i ≤ h ∧ h < j := by
  have e1 : (0 : Int) ≤ (i : Int) + j := by omega
  have e2 : (i : Int) + j ≤ 200000 := by omega
  have e3 : i ≤ h ∧ h < j := by omega
  have e4 : (h : Int) ≤ 100000 := by omega
  have e5 : ((i : Int) + (j : Int)) / 2 = (h : Int) := by rw [← hh]; rfl
  clear hh
  refine ⟨IntWalk.u64_in _ ⟨e1, Int.le_trans e2 (by decide)⟩, IntWalk.i64_in _ ⟨Int.le_trans (by decide) e1, Int.le_trans e2 (by decide)⟩, e5, IntWalk.wrap64_in _ ⟨Int.le_trans (by decide) (Int.natCast_nonneg h), Int.le_trans e4 (by decide)⟩, e3.1, e3.2⟩
set_option maxRecDepth 100000 in
set_option maxHeartbeats 4000000 in
theorem bsearch_any (v : Value) (ms : List (List Int)) (t : List Int) (w : World) (h : MkSl w v ms) (ht : MarkOk t) (hbig : ms.length ≤ 100000) (hr : Rise ms) :
    Calls Try.prog 39 #[v, markV t, .func (.func 9) #[] #[]] w fun e w' => ∃ i : Int, e = .returned (.tuple #[.int .i64 i, .bool (decide (t ∈ ms))]) ∧ Kp Nb w w' := by
  by_cases hne : ms = []
  · subst hne
    obtain ⟨y, d, rfl⟩ := h.shape
    obtain ⟨M, hM⟩ : ∃ M, w.heap.size = M := ⟨_, rfl⟩
    have K0 := hid ((Kp.refl Nb w).alloc (.cells (markL t).toArray 24))
    obtain ⟨W0, hW0⟩ : ∃ W, W = w.alloc (.cells (markL t).toArray 24) := ⟨_, rfl⟩
    rw [← hW0] at K0
    clear h hr ht hbig
    simp only [List.length_nil]
    go_enter Try.func39, Try.ntmps39
    go_wp2
    rw [← hW0]
    try simp only [hM]
    clear hW0 hM
    go_loopw [9, 10] (fun a b wr => a = .int .i64 0 ∧ b = .int .i64 0 ∧ Hid (Kp Nb w wr)) (fun _ _ _ => 0)
    case atStart => exact ⟨rfl, rfl, K0⟩
    case round =>
      clear K0
      obtain ⟨rfl, rfl, HK⟩ := hrel
      go_wp2_with fail
      refine region_vals2 [none, none, none, none, none, none, some 14, some 15, none, none, none, none, none, none, none, none, none, none, none, none, none, none, none, none, none, none, none, none, none, none, none, none, none, none, none, some 0, some 1, some 2, some 3, some 4, some 5, some 6, some 7, some 8, some 9, some 10, some 11, some 12, some 13] [[(9, none)], [(9, none)], [(8, none)], [(36, some 1), (37, some 2)], [(38, some 3)], [(2, none)], [(0, none)], [(9, none)], [(41, some 6), (42, some 7)], [(43, some 8)], [(4, none)], [(40, some 5), (44, some 9), (45, some 10)], [(46, some 11)], [(39, some 4), (47, some 12)], [(35, some 0)], [(48, some 13)]] [some 35, some 36, some 37, some 38, some 39, some 40, some 41, some 42, some 43, some 44, some 45, some 46, some 47, some 48, some 6, some 7] [.int .i64 0, .int .i64 0, .int .i64 0, .bool false, .bool false, undef, undef, undef, undef, undef, undef, undef, undef, .bool false, .int .i64 0, .bool false] (fun w' => Hid (Kp Nb wr w')) (by kernel_rfl) (by kernel_rfl) (by kernel_rfl) ?hS (VFrom.all (n := 16) (by kernel_rfl) ?hstep) ?hend
      case hstep =>
        refine VFrom.cons (VStep.val _ rfl _ rfl (.int .i64 0) rfl trivial (fun ev wq hS he hr => ?_)) ?_
        · have r0 : ev (.tmp 9) = .int .i64 0 := hr (9, none) (by simp); have hk := he.1; clear hr he
          go_simp
        refine VFrom.cons (VStep.val _ rfl _ rfl (.int .i64 0) rfl trivial (fun ev wq hS he hr => ?_)) ?_
        · have r0 : ev (.tmp 9) = .int .i64 0 := hr (9, none) (by simp); have hk := he.1; clear hr he
          go_simp
        refine VFrom.cons (VStep.val _ rfl _ rfl (.int .i64 0) rfl trivial (fun ev wq hS he hr => ?_)) ?_
        · have r0 : ev (.tmp 8) = .int .i64 0 := hr (8, none) (by simp); have hk := he.1; clear hr he
          go_simp
        refine VFrom.cons (VStep.val _ rfl _ rfl (.bool false) rfl trivial (fun ev wq hS he hr => ?_)) ?_
        · have r0 : ev (.tmp 36) = .int .i64 0 := hr (36, some 1) (by simp); have r1 : ev (.tmp 37) = .int .i64 0 := hr (37, some 2) (by simp); have hk := he.1; clear hr he
          go_simp
        refine VFrom.cons (VStep.val _ rfl _ rfl (.bool false) rfl trivial (fun ev wq hS he hr => ?_)) ?_
        · have r0 : ev (.tmp 38) = .bool false := hr (38, some 3) (by simp); have hk := he.1; clear hr he
          go_simp
        refine VFrom.cons (VStep.skip _ rfl rfl rfl) ?_
        refine VFrom.cons (VStep.skip _ rfl rfl rfl) ?_
        refine VFrom.cons (VStep.skip _ rfl rfl rfl) ?_
        refine VFrom.cons (VStep.skip _ rfl rfl rfl) ?_
        refine VFrom.cons (VStep.skip _ rfl rfl rfl) ?_
        refine VFrom.cons (VStep.skip _ rfl rfl rfl) ?_
        refine VFrom.cons (VStep.skip _ rfl rfl rfl) ?_
        refine VFrom.cons (VStep.skip _ rfl rfl rfl) ?_
        refine VFrom.cons (VStep.val _ rfl _ rfl (.bool false) rfl trivial (fun ev wq hS he hr => ?_)) ?_
        · have r0 : ev (.tmp 39) = .bool false := hr (39, some 4) (by simp); have r1 : ev (.tmp 47) = undef := hr (47, some 12) (by simp); have hk := he.1; clear hr he
          go_simp
        refine VFrom.cons (VStep.val _ rfl _ rfl (.int .i64 0) rfl trivial (fun ev wq hS he hr => ?_)) ?_
        · have r0 : ev (.tmp 35) = .int .i64 0 := hr (35, some 0) (by simp); have hk := he.1; clear hr he
          go_simp
        refine VFrom.cons (VStep.val _ rfl _ rfl (.bool false) rfl trivial (fun ev wq hS he hr => ?_)) ?_
        · have r0 : ev (.tmp 48) = .bool false := hr (48, some 13) (by simp); have hk := he.1; clear hr he
          go_simp
        exact VFrom.nil
      case hS => exact hid (Kp.refl Nb wr).drew
      case hend =>
        intro wy hy
        have KY := hid (HK.out.trans hy.out (fun _ _ h => h))
        clear hy
        simp only [putAll, List.zip_cons_cons, List.zip_nil_right, List.foldl_cons, List.foldl_nil, Act.put, List.setIfInBounds_toArray, List.set_cons_zero, List.set_cons_succ]
        go_wp2
        go_ret2
        exact ⟨0, by simp, KY.out⟩
  obtain ⟨blk, off, cap, rfl, hc, hcm, hcell⟩ := mk_shape h hne
  obtain ⟨N, hN⟩ : ∃ N, ms.length = N := ⟨_, rfl⟩
  have HN := hid hN
  have HCELL := hid hcell
  rw [hN] at hc hbig HCELL ⊢
  have HCM := hid (show N ≤ cap ∧ N ≤ 100000 ∧ 1 ≤ N from ⟨hc, hbig, by rw [← hN]; exact List.length_pos_iff.2 hne⟩)
  have HRI := hid hr
  have HTO := hid ht
  obtain ⟨M, hM⟩ : ∃ M, w.heap.size = M := ⟨_, rfl⟩
  have HM := hid hM
  have D0 : Hid (Blk (w.alloc (.cells (markL t).toArray 24)) M 24 (markL t)) := hid (by rw [← hM]; exact Blk.new w _ _)
  have K0 := hid ((Kp.refl Nb w).alloc (.cells (markL t).toArray 24))
  obtain ⟨W0, hW0⟩ : ∃ W, W = w.alloc (.cells (markL t).toArray 24) := ⟨_, rfl⟩
  rw [← hW0] at D0 K0
  have T0 : Hid (∀ k, k < 0 → lexI (markAt ms k) t = true) := hid (fun k hk => by omega)
  have T1 : Hid (∀ k, N ≤ k → k < N → lexI (markAt ms k) t = false) := hid (fun k h1 h2 => by omega)
  clear h ht hbig hr hne hcell hN
  go_enter Try.func39, Try.ntmps39
  go_wp2
  rw [← hW0]
  try simp only [hM]
  clear hW0 hM
  go_loopw [9, 10] (BsR w ms t N M) (fun a b _ => (intOf b).toNat - (intOf a).toNat)
  case atStart => exact ⟨0, N, Nat.zero_le _, Nat.le_refl _, rfl, rfl, T0, T1, D0, K0⟩
  case round =>
    clear T0 T1 D0 K0
    obtain ⟨i, j, hij, hj, rfl, rfl, HLO, HHI, HD, HK⟩ := hrel
    by_cases hlt : i < j
    · have HLT := hid hlt
      obtain ⟨h, hh⟩ : ∃ h, (i + j) / 2 = h := ⟨_, rfl⟩
      obtain ⟨hu, hb, hd, hw, hih, hhj⟩ := mid_facts i j h N hlt hj HCM.out.2.1 hh
      have HH : Hid (i ≤ h ∧ h < j) := hid ⟨hih, hhj⟩
      clear hh hih
      have hhN : h < N := Nat.lt_of_lt_of_le hhj hj
      obtain ⟨x, hx⟩ : ∃ x, markAt ms h = x := ⟨_, rfl⟩
      have h1 := HCELL.out h hhN
      rw [hx] at h1
      have HX := hid hx
      have HLX : Hid (MarkOk x ∧ wr.rangeAt blk (off + h * 16) (markL x)) := hid ⟨h1.1, range_kept h1.2 HK.out⟩
      have HLT : Hid (MarkOk t ∧ wr.rangeAt M 0 (markL t)) := hid ⟨HTO.out, range_of HD.out⟩
      obtain ⟨r, hr⟩ : ∃ r, cmpM x t = r := ⟨_, rfl⟩
      have CC : Hid (∀ w, Calls Try.prog 9 #[markV x, markV t] w fun e w' => e = .returned (.int .i64 r) ∧ Kp Nb w w') := hid (fun w => by rw [← hr]; exact cmpg_kp x t w h1.1 HTO.out)
      obtain ⟨bb, hbb⟩ : ∃ b, decide (r < 0) = b := ⟨_, rfl⟩
      have HBB := hid hbb
      have HR : Hid (lexI x t = bb) := hid (by
        have := cmpM_lt x t
        rw [hr] at this
        rw [← hbb]
        cases e : lexI x t with
        | true => rw [e] at this; exact (decide_eq_true (this.2 rfl)).symm
        | false => rw [e] at this; exact (decide_eq_false (fun h => by have := this.1 h; cases this)).symm)
      have HB1 : Hid ((h : Int) < (N : Int) ∧ 0 ≤ (h : Int)) := hid ⟨Int.ofNat_lt.2 hhN, Int.natCast_nonneg h⟩
      clear hhj hx h1 hr hbb
      go_wp2_with fail
      simp only [hw]
      clear hu hb hd hw
      refine region_vals2 [none, none, none, none, none, none, none, none, none, none, none, none, none, none, none, none, none, none, none, none, none, none, none, none, some 0, some 1, some 2, some 3, some 4, some 5, some 6, some 7, none, none, none, none, none, none, none, none, none, none, none, none, none, none, none, none, none] [[(2, none)], [(0, none)], [(11, none)], [(25, some 1), (26, some 2)], [(27, some 3)], [(4, none)], [(24, some 0), (28, some 4), (29, some 5)], [(30, some 6)]] [some 24, some 25, some 26, some 27, some 28, some 29, some 30, some 31] [.func (.func 9) #[] #[], .slice (some ⟨blk, off, none⟩) N cap, .int .i64 (h : Int), .pointer (some ⟨blk, off + h * 16, none⟩), markV x, markV t, .int .i64 r, .bool bb] (fun w' => Hid (Kp Nb wr w')) (by kernel_rfl) (by kernel_rfl) (by kernel_rfl) ?hS (VFrom.all (n := 8) (by kernel_rfl) ?hstep) ?hend
      case hstep =>
        refine VFrom.cons (VStep.val _ rfl _ rfl (.func (.func 9) #[] #[]) rfl trivial (fun ev wq hS he hr => ?_)) ?_
        · have r0 : ev (.tmp 2) = .func (.func 9) #[] #[] := hr (2, none) (by simp); have hk := he.1; clear hr he
          go_simp
        refine VFrom.cons (VStep.val _ rfl _ rfl (.slice (some ⟨blk, off, none⟩) N cap) rfl trivial (fun ev wq hS he hr => ?_)) ?_
        · have r0 : ev (.tmp 0) = .slice (some ⟨blk, off, none⟩) N cap := hr (0, none) (by simp); have hk := he.1; clear hr he
          go_simp
        refine VFrom.cons (VStep.val _ rfl _ rfl (.int .i64 (h : Int)) rfl trivial (fun ev wq hS he hr => ?_)) ?_
        · have r0 : ev (.tmp 11) = .int .i64 (h : Int) := hr (11, none) (by simp); have hk := he.1; clear hr he
          go_simp
        refine VFrom.cons (VStep.val _ rfl _ rfl (.pointer (some ⟨blk, off + h * 16, none⟩)) rfl trivial (fun ev wq hS he hr => ?_)) ?_
        · have r0 : ev (.tmp 25) = .slice (some ⟨blk, off, none⟩) N cap := hr (25, some 1) (by simp); have r1 : ev (.tmp 26) = .int .i64 (h : Int) := hr (26, some 2) (by simp); have hk := he.1; clear hr he
          have e1 := HB1.out
          go_simp
        refine VFrom.cons (VStep.val _ rfl _ rfl (markV x) rfl trivial (fun ev wq hS he hr => ?_)) ?_
        · have r0 : ev (.tmp 27) = .pointer (some ⟨blk, off + h * 16, none⟩) := hr (27, some 3) (by simp); have hk := he.1; clear hr he
          exact exec_loadM rfl r0 (load_mark HLX.out.1 (range_kept HLX.out.2 hS.out))
        refine VFrom.cons (VStep.val _ rfl _ rfl (markV t) rfl trivial (fun ev wq hS he hr => ?_)) ?_
        · have r0 : ev (.tmp 4) = .pointer (some ⟨M, 0, none⟩) := hr (4, none) (by simp); have hk := he.1; clear hr he
          exact exec_loadM rfl r0 (load_mark HLT.out.1 (range_kept HLT.out.2 hS.out))
        refine VFrom.cons (VStep.call _ rfl _ rfl (.int .i64 r) rfl trivial 9 #[markV x, markV t] (fun ev wq hS he hr => ?_) (fun wq hS => ?_)) ?_
        · have r0 : ev (.tmp 24) = .func (.func 9) #[] #[] := hr (24, some 0) (by simp); have r1 : ev (.tmp 28) = markV x := hr (28, some 4) (by simp); have r2 : ev (.tmp 29) = markV t := hr (29, some 5) (by simp); have hk := he.1; have hf := he.2; clear hr he
          go_simp
        · exact (CC.out wq).mono fun e w' ⟨h1, h2⟩ => ⟨h1, hid (hS.out.trans h2 (fun _ _ h => h))⟩
        refine VFrom.cons (VStep.val _ rfl _ rfl (.bool bb) rfl trivial (fun ev wq hS he hr => ?_)) ?_
        · have r0 : ev (.tmp 30) = .int .i64 r := hr (30, some 6) (by simp); have hk := he.1; clear hr he
          have e1 := HBB.out
          go_simp
        exact VFrom.nil
      case hS => exact hid (Kp.refl Nb wr).drew
      case hend =>
        intro wy hy
        have KY := hid (HK.out.trans hy.out (fun _ _ h => h))
        have DY := hid (HD.out.kept hy.out (fun h => h))
        clear hy
        simp only [putAll, List.zip_cons_cons, List.zip_nil_right, List.foldl_cons, List.foldl_nil, Act.put, List.setIfInBounds_toArray, List.set_cons_zero, List.set_cons_succ]
        cases bb with
        | true =>
          have HLO2 : Hid (∀ k, k < h + 1 → lexI (markAt ms k) t = true) := hid (fun k hk => by
            by_cases e : k = h
            · rw [e, HX.out]; exact HR.out
            · refine lexI_trans _ _ _ (HRI.out k h (by omega) (by rw [HN.out]; have := HB1.out; omega)) ?_
              rw [HX.out]; exact HR.out)
          have hw1 : wrap64 ((h : Int) + 1) = (h : Int) + 1 := IntWalk.wrap64_in _ ⟨by omega, by have := HB1.out.1; have := HCM.out.2.1; omega⟩
          have HW1 := hid hw1
          clear hw1
          go_wp2
          simp only [HW1.out]
          go_roundw
          case rel => exact ⟨h + 1, j, by have := HH.out; omega, hj, by go_num, rfl, HLO2, HHI, DY, KY⟩
          case measure => have := HH.out; simp [intOf]; omega
        | false =>
          have HHI2 : Hid (∀ k, h ≤ k → k < N → lexI (markAt ms k) t = false) := hid (fun k hk hkN => by
            by_cases e : k = h
            · rw [e, HX.out]; exact HR.out
            · cases e2 : lexI (markAt ms k) t with
              | false => rfl
              | true =>
                have := lexI_trans _ _ _ (HRI.out h k (by omega) (by rw [HN.out]; exact hkN)) e2
                rw [HX.out, HR.out] at this
                cases this)
          go_wp2
          go_roundw
          case rel => exact ⟨i, h, HH.out.1, by have := HB1.out; omega, rfl, rfl, HLO, HHI2, DY, KY⟩
          case measure => have := HH.out; simp [intOf]; omega
    · obtain rfl : i = j := by omega
      by_cases hiN : i < N
      · obtain ⟨x, hx⟩ : ∃ x, markAt ms i = x := ⟨_, rfl⟩
        have h1 := HCELL.out i hiN
        rw [hx] at h1
        have HX := hid hx
        have HLX : Hid (MarkOk x ∧ wr.rangeAt blk (off + i * 16) (markL x)) := hid ⟨h1.1, range_kept h1.2 HK.out⟩
        have HLT : Hid (MarkOk t ∧ wr.rangeAt M 0 (markL t)) := hid ⟨HTO.out, range_of HD.out⟩
        obtain ⟨r, hr⟩ : ∃ r, cmpM x t = r := ⟨_, rfl⟩
        have CC : Hid (∀ w, Calls Try.prog 9 #[markV x, markV t] w fun e w' => e = .returned (.int .i64 r) ∧ Kp Nb w w') := hid (fun w => by rw [← hr]; exact cmpg_kp x t w h1.1 HTO.out)
        obtain ⟨bb, hbb⟩ : ∃ b, (r == 0) = b := ⟨_, rfl⟩
        have HBB := hid hbb
        have HB1 : Hid ((i : Int) < (N : Int) ∧ 0 ≤ (i : Int)) := hid (by omega)
        have HRES : Hid (decide (t ∈ ms) = bb) := hid (by
          have he := cmpM_eq x t
          rw [hr] at he
          by_cases e : r = 0
          · have hxt := he.1 e
            rw [← hbb, e]
            exact decide_eq_true (by rw [← hxt, ← HX.out]; exact markAt_mem (by rw [HN.out]; exact hiN))
          · rw [← hbb, show (r == 0) = false from beq_eq_false_iff_ne.2 e]
            refine decide_eq_false fun hm => ?_
            obtain ⟨k, hk, hkt⟩ := mem_markAt hm
            rw [HN.out] at hk
            by_cases h1 : k < i
            · have := HLO.out k h1; rw [hkt, lexI_irr] at this; cases this
            · by_cases h2 : k = i
              · rw [h2, HX.out] at hkt; exact e (he.2 hkt)
              · have := HRI.out i k (by omega) (by rw [HN.out]; exact hk)
                rw [hkt, HHI.out i (Nat.le_refl _) hiN] at this
                cases this)
        obtain ⟨res, hres⟩ : ∃ b, decide (t ∈ ms) = b := ⟨_, rfl⟩
        have HE := hid hres
        clear hx h1 hr hbb hres
        go_wp2_with fail
        refine region_vals2 [none, none, none, none, none, none, some 14, some 15, none, none, none, none, none, none, none, none, none, none, none, none, none, none, none, none, none, none, none, none, none, none, none, none, none, none, none, some 0, some 1, some 2, some 3, some 4, some 5, some 6, some 7, some 8, some 9, some 10, some 11, some 12, some 13] [[(9, none)], [(9, none)], [(8, none)], [(36, some 1), (37, some 2)], [(38, some 3)], [(2, none)], [(0, none)], [(9, none)], [(41, some 6), (42, some 7)], [(43, some 8)], [(4, none)], [(40, some 5), (44, some 9), (45, some 10)], [(46, some 11)], [(39, some 4), (47, some 12)], [(35, some 0)], [(48, some 13)]] [some 35, some 36, some 37, some 38, some 39, some 40, some 41, some 42, some 43, some 44, some 45, some 46, some 47, some 48, some 6, some 7] [.int .i64 (i : Int), .int .i64 (i : Int), .int .i64 (N : Int), .bool true, .bool true, .func (.func 9) #[] #[], .slice (some ⟨blk, off, none⟩) N cap, .int .i64 (i : Int), .pointer (some ⟨blk, off + i * 16, none⟩), markV x, markV t, .int .i64 r, .bool bb, .bool bb, .int .i64 (i : Int), .bool bb] (fun w' => Hid (Kp Nb wr w')) (by kernel_rfl) (by kernel_rfl) (by kernel_rfl) ?hS (VFrom.all (n := 16) (by kernel_rfl) ?hstep) ?hend
        case hstep =>
          refine VFrom.cons (VStep.val _ rfl _ rfl (.int .i64 (i : Int)) rfl trivial (fun ev wq hS he hr => ?_)) ?_
          · have r0 : ev (.tmp 9) = .int .i64 (i : Int) := hr (9, none) (by simp); have hk := he.1; clear hr he
            go_simp
          refine VFrom.cons (VStep.val _ rfl _ rfl (.int .i64 (i : Int)) rfl trivial (fun ev wq hS he hr => ?_)) ?_
          · have r0 : ev (.tmp 9) = .int .i64 (i : Int) := hr (9, none) (by simp); have hk := he.1; clear hr he
            go_simp
          refine VFrom.cons (VStep.val _ rfl _ rfl (.int .i64 (N : Int)) rfl trivial (fun ev wq hS he hr => ?_)) ?_
          · have r0 : ev (.tmp 8) = .int .i64 (N : Int) := hr (8, none) (by simp); have hk := he.1; clear hr he
            go_simp
          refine VFrom.cons (VStep.val _ rfl _ rfl (.bool true) rfl trivial (fun ev wq hS he hr => ?_)) ?_
          · have r0 : ev (.tmp 36) = .int .i64 (i : Int) := hr (36, some 1) (by simp); have r1 : ev (.tmp 37) = .int .i64 (N : Int) := hr (37, some 2) (by simp); have hk := he.1; clear hr he
            have e1 := HB1.out
            go_simp
          refine VFrom.cons (VStep.val _ rfl _ rfl (.bool true) rfl trivial (fun ev wq hS he hr => ?_)) ?_
          · have r0 : ev (.tmp 38) = .bool true := hr (38, some 3) (by simp); have hk := he.1; clear hr he
            go_simp
          refine VFrom.cons (VStep.val _ rfl _ rfl (.func (.func 9) #[] #[]) rfl rfl (fun ev wq hS he hr => ?_)) ?_
          · have r0 : ev (.tmp 2) = .func (.func 9) #[] #[] := hr (2, none) (by simp); have hk := he.1; clear hr he
            go_simp
          refine VFrom.cons (VStep.val _ rfl _ rfl (.slice (some ⟨blk, off, none⟩) N cap) rfl rfl (fun ev wq hS he hr => ?_)) ?_
          · have r0 : ev (.tmp 0) = .slice (some ⟨blk, off, none⟩) N cap := hr (0, none) (by simp); have hk := he.1; clear hr he
            go_simp
          refine VFrom.cons (VStep.val _ rfl _ rfl (.int .i64 (i : Int)) rfl rfl (fun ev wq hS he hr => ?_)) ?_
          · have r0 : ev (.tmp 9) = .int .i64 (i : Int) := hr (9, none) (by simp); have hk := he.1; clear hr he
            go_simp
          refine VFrom.cons (VStep.val _ rfl _ rfl (.pointer (some ⟨blk, off + i * 16, none⟩)) rfl rfl (fun ev wq hS he hr => ?_)) ?_
          · have r0 : ev (.tmp 41) = .slice (some ⟨blk, off, none⟩) N cap := hr (41, some 6) (by simp); have r1 : ev (.tmp 42) = .int .i64 (i : Int) := hr (42, some 7) (by simp); have hk := he.1; clear hr he
            have e1 := HB1.out
            go_simp
          refine VFrom.cons (VStep.val _ rfl _ rfl (markV x) rfl rfl (fun ev wq hS he hr => ?_)) ?_
          · have r0 : ev (.tmp 43) = .pointer (some ⟨blk, off + i * 16, none⟩) := hr (43, some 8) (by simp); have hk := he.1; clear hr he
            exact exec_loadM rfl r0 (load_mark HLX.out.1 (range_kept HLX.out.2 hS.out))
          refine VFrom.cons (VStep.val _ rfl _ rfl (markV t) rfl rfl (fun ev wq hS he hr => ?_)) ?_
          · have r0 : ev (.tmp 4) = .pointer (some ⟨M, 0, none⟩) := hr (4, none) (by simp); have hk := he.1; clear hr he
            exact exec_loadM rfl r0 (load_mark HLT.out.1 (range_kept HLT.out.2 hS.out))
          refine VFrom.cons (VStep.call _ rfl _ rfl (.int .i64 r) rfl rfl 9 #[markV x, markV t] (fun ev wq hS he hr => ?_) (fun wq hS => ?_)) ?_
          · have r0 : ev (.tmp 40) = .func (.func 9) #[] #[] := hr (40, some 5) (by simp); have r1 : ev (.tmp 44) = markV x := hr (44, some 9) (by simp); have r2 : ev (.tmp 45) = markV t := hr (45, some 10) (by simp); have hk := he.1; have hf := he.2; clear hr he
            go_simp
          · exact (CC.out wq).mono fun e w' ⟨h1, h2⟩ => ⟨h1, hid (hS.out.trans h2 (fun _ _ h => h))⟩
          refine VFrom.cons (VStep.val _ rfl _ rfl (.bool bb) rfl rfl (fun ev wq hS he hr => ?_)) ?_
          · have r0 : ev (.tmp 46) = .int .i64 r := hr (46, some 11) (by simp); have hk := he.1; clear hr he
            have e1 := HBB.out
            go_simp
          refine VFrom.cons (VStep.val _ rfl _ rfl (.bool bb) rfl trivial (fun ev wq hS he hr => ?_)) ?_
          · have r0 : ev (.tmp 39) = .bool true := hr (39, some 4) (by simp); have r1 : ev (.tmp 47) = .bool bb := hr (47, some 12) (by simp); have hk := he.1; clear hr he
            go_simp
          refine VFrom.cons (VStep.val _ rfl _ rfl (.int .i64 (i : Int)) rfl trivial (fun ev wq hS he hr => ?_)) ?_
          · have r0 : ev (.tmp 35) = .int .i64 (i : Int) := hr (35, some 0) (by simp); have hk := he.1; clear hr he
            go_simp
          refine VFrom.cons (VStep.val _ rfl _ rfl (.bool bb) rfl trivial (fun ev wq hS he hr => ?_)) ?_
          · have r0 : ev (.tmp 48) = .bool bb := hr (48, some 13) (by simp); have hk := he.1; clear hr he
            go_simp
          exact VFrom.nil
        case hS => exact hid (Kp.refl Nb wr).drew
        case hend =>
          intro wy hy
          have KY := hid (HK.out.trans hy.out (fun _ _ h => h))
          clear hy
          simp only [putAll, List.zip_cons_cons, List.zip_nil_right, List.foldl_cons, List.foldl_nil, Act.put, List.setIfInBounds_toArray, List.set_cons_zero, List.set_cons_succ]
          go_wp2
          go_ret2
          exact ⟨(i : Int), by rw [HRES.out]; rfl, KY.out⟩
      · have HB1 : Hid (¬ (i : Int) < (N : Int)) := hid (by omega)
        have HRES : Hid (decide (t ∈ ms) = false) := hid (decide_eq_false fun hm => by
          obtain ⟨k, hk, hkt⟩ := mem_markAt hm
          rw [HN.out] at hk
          have := HLO.out k (by omega)
          rw [hkt, lexI_irr] at this
          cases this)
        go_wp2_with fail
        refine region_vals2 [none, none, none, none, none, none, some 14, some 15, none, none, none, none, none, none, none, none, none, none, none, none, none, none, none, none, none, none, none, none, none, none, none, none, none, none, none, some 0, some 1, some 2, some 3, some 4, some 5, some 6, some 7, some 8, some 9, some 10, some 11, some 12, some 13] [[(9, none)], [(9, none)], [(8, none)], [(36, some 1), (37, some 2)], [(38, some 3)], [(2, none)], [(0, none)], [(9, none)], [(41, some 6), (42, some 7)], [(43, some 8)], [(4, none)], [(40, some 5), (44, some 9), (45, some 10)], [(46, some 11)], [(39, some 4), (47, some 12)], [(35, some 0)], [(48, some 13)]] [some 35, some 36, some 37, some 38, some 39, some 40, some 41, some 42, some 43, some 44, some 45, some 46, some 47, some 48, some 6, some 7] [.int .i64 (i : Int), .int .i64 (i : Int), .int .i64 (N : Int), .bool false, .bool false, undef, undef, undef, undef, undef, undef, undef, undef, .bool false, .int .i64 (i : Int), .bool false] (fun w' => Hid (Kp Nb wr w')) (by kernel_rfl) (by kernel_rfl) (by kernel_rfl) ?hS (VFrom.all (n := 16) (by kernel_rfl) ?hstep) ?hend
        case hstep =>
          refine VFrom.cons (VStep.val _ rfl _ rfl (.int .i64 (i : Int)) rfl trivial (fun ev wq hS he hr => ?_)) ?_
          · have r0 : ev (.tmp 9) = .int .i64 (i : Int) := hr (9, none) (by simp); have hk := he.1; clear hr he
            go_simp
          refine VFrom.cons (VStep.val _ rfl _ rfl (.int .i64 (i : Int)) rfl trivial (fun ev wq hS he hr => ?_)) ?_
          · have r0 : ev (.tmp 9) = .int .i64 (i : Int) := hr (9, none) (by simp); have hk := he.1; clear hr he
            go_simp
          refine VFrom.cons (VStep.val _ rfl _ rfl (.int .i64 (N : Int)) rfl trivial (fun ev wq hS he hr => ?_)) ?_
          · have r0 : ev (.tmp 8) = .int .i64 (N : Int) := hr (8, none) (by simp); have hk := he.1; clear hr he
            go_simp
          refine VFrom.cons (VStep.val _ rfl _ rfl (.bool false) rfl trivial (fun ev wq hS he hr => ?_)) ?_
          · have r0 : ev (.tmp 36) = .int .i64 (i : Int) := hr (36, some 1) (by simp); have r1 : ev (.tmp 37) = .int .i64 (N : Int) := hr (37, some 2) (by simp); have hk := he.1; clear hr he
            have e1 := HB1.out
            go_simp
          refine VFrom.cons (VStep.val _ rfl _ rfl (.bool false) rfl trivial (fun ev wq hS he hr => ?_)) ?_
          · have r0 : ev (.tmp 38) = .bool false := hr (38, some 3) (by simp); have hk := he.1; clear hr he
            go_simp
          refine VFrom.cons (VStep.skip _ rfl rfl rfl) ?_
          refine VFrom.cons (VStep.skip _ rfl rfl rfl) ?_
          refine VFrom.cons (VStep.skip _ rfl rfl rfl) ?_
          refine VFrom.cons (VStep.skip _ rfl rfl rfl) ?_
          refine VFrom.cons (VStep.skip _ rfl rfl rfl) ?_
          refine VFrom.cons (VStep.skip _ rfl rfl rfl) ?_
          refine VFrom.cons (VStep.skip _ rfl rfl rfl) ?_
          refine VFrom.cons (VStep.skip _ rfl rfl rfl) ?_
          refine VFrom.cons (VStep.val _ rfl _ rfl (.bool false) rfl trivial (fun ev wq hS he hr => ?_)) ?_
          · have r0 : ev (.tmp 39) = .bool false := hr (39, some 4) (by simp); have r1 : ev (.tmp 47) = undef := hr (47, some 12) (by simp); have hk := he.1; clear hr he
            go_simp
          refine VFrom.cons (VStep.val _ rfl _ rfl (.int .i64 (i : Int)) rfl trivial (fun ev wq hS he hr => ?_)) ?_
          · have r0 : ev (.tmp 35) = .int .i64 (i : Int) := hr (35, some 0) (by simp); have hk := he.1; clear hr he
            go_simp
          refine VFrom.cons (VStep.val _ rfl _ rfl (.bool false) rfl trivial (fun ev wq hS he hr => ?_)) ?_
          · have r0 : ev (.tmp 48) = .bool false := hr (48, some 13) (by simp); have hk := he.1; clear hr he
            go_simp
          exact VFrom.nil
        case hS => exact hid (Kp.refl Nb wr).drew
        case hend =>
          intro wy hy
          have KY := hid (HK.out.trans hy.out (fun _ _ h => h))
          clear hy
          simp only [putAll, List.zip_cons_cons, List.zip_nil_right, List.foldl_cons, List.foldl_nil, Act.put, List.setIfInBounds_toArray, List.set_cons_zero, List.set_cons_succ]
          go_wp2
          go_ret2
          exact ⟨(i : Int), by rw [HRES.out]; rfl, KY.out⟩

set_option maxRecDepth 100000 in
set_option maxHeartbeats 1000000 in
theorem mhas_any (v : Value) (ms : List (List Int)) (t : List Int) (w : World) (h : MkSl w v ms) (ht : MarkOk t) (hbig : ms.length ≤ 100000) :
    Calls Try.prog 16 #[v, markV t] w fun e w' => e = .returned (.bool (rightB ms && decide (t ∈ ms))) ∧ Kp Nb w w' := by
  obtain ⟨M, hM⟩ : ∃ M, w.heap.size = M := ⟨_, rfl⟩
  obtain ⟨W0, hW0⟩ : ∃ W, W = w.alloc (.cells (markL t).toArray 24) := ⟨_, rfl⟩
  have D0 : Hid (Blk W0 M 24 (markL t)) := hid (by rw [hW0, ← hM]; exact Blk.new w _ _)
  have K0 : Hid (Kp Nb w W0) := hid (by rw [hW0]; exact (Kp.refl Nb w).alloc _)
  have CR := hid (mright_any v ms W0 (h.kept K0.out) hbig)
  have HTO := hid ht
  obtain ⟨b, hb⟩ : ∃ b, rightB ms = b := ⟨_, rfl⟩
  rw [hb] at CR ⊢
  cases b with
  | false =>
    obtain ⟨y, d, rfl⟩ := h.shape
    clear h ht hb
    go_enter Try.func16, Try.ntmps16
    go_upto_region 1 with fail
    rw [← hW0]
    clear hW0
    go_wp2_with (go_at_call 11; refine CR.out.mono ?_; rintro r w1 ⟨rfl, k1⟩; have K1 := hid (K0.out.trans k1 (fun _ _ h => h)); clear k1)
    go_ret
    exact ⟨rfl, K1.out⟩
  | true =>
    have CS : Hid (∀ wx, Kp Nb w wx → Calls Try.prog 39 #[v, markV t, .func (.func 9) #[] #[]] wx fun e w' => ∃ i : Int, e = .returned (.tuple #[.int .i64 i, .bool (decide (t ∈ ms))]) ∧ Kp Nb wx w') :=
      hid (fun wx k => bsearch_any v ms t wx (h.kept k) ht hbig (rise_of hb))
    obtain ⟨res, hres⟩ : ∃ q, decide (t ∈ ms) = q := ⟨_, rfl⟩
    rw [hres] at CS ⊢
    obtain ⟨y, d, rfl⟩ := h.shape
    clear h ht hb hres
    go_enter Try.func16, Try.ntmps16
    go_upto_region 1 with fail
    rw [← hW0]
    try simp only [hM]
    clear hW0
    go_wp2_with (first
      | (go_at_call 11; refine CR.out.mono ?_; rintro r w1 ⟨rfl, k1⟩; have K1 := hid (K0.out.trans k1 (fun _ _ h => h)); have HL1 := hid (load_mark HTO.out (range_of (D0.out.kept k1 (fun h => h)))); clear k1)
      | (refine wpList_val (by rfl) _ _ (exec_loadM (a := ⟨M, 0, none⟩) rfl (by rfl) HL1.out) ?_)
      | (go_at_call 39; refine (CS.out _ K1.out).mono ?_; rintro r w2 ⟨i, rfl, k2⟩; have K2 := hid (K1.out.trans k2 (fun _ _ h => h)); clear k2))
    go_ret
    exact ⟨by simp, K2.out⟩

end Go.Proofs.Ytijlmfmpfjjlpaa
