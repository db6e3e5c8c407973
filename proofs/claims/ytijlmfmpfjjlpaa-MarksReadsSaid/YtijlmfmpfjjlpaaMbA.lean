/-
  Layer 9: ref09.Same. Conditions: marks of 16 bytes; at most a million a list.
-/
import Derived.Test.YtijlmfmpfjjlpaaMaH
namespace Go.Proofs.Ytijlmfmpfjjlpaa
open Go.RowKit Go.Shelf

theorem eq_of_marks {xs ys : List (List Int)} (hl : xs.length = ys.length) (h : ∀ j, j < xs.length → markAt xs j = markAt ys j) : xs = ys := by
  apply List.ext_getElem hl
  intro i h1 h2
  have := h i h1
  unfold markAt at this
  rwa [List.getElem?_eq_getElem h1, List.getElem?_eq_getElem h2] at this
def RsS (w : World) (xs ys : List (List Int)) (N : Nat) (i : Value) (wr : World) : Prop := ∃ k : Nat, k ≤ N ∧ i = .int .i64 k ∧ Hid (∀ j, j < k → markAt xs j = markAt ys j) ∧ Hid (Kp Nb w wr)
set_option maxRecDepth 100000 in
set_option maxHeartbeats 4000000 in
theorem rsm_any (va vb : Value) (xs ys : List (List Int)) (w : World) (ha : MkSl w va xs) (hb : MkSl w vb ys) (hbig : xs.length ≤ 1000000) :
    Calls Try.prog 13 #[va, vb] w fun e w' => e = .returned (.bool (decide (xs = ys))) ∧ Kp Nb w w' := by
  obtain ⟨pa, da, rfl⟩ := ha.shape
  obtain ⟨pb, db, rfl⟩ := hb.shape
  by_cases hl : xs.length = ys.length
  · obtain ⟨N, hN⟩ : ∃ N, xs.length = N := ⟨_, rfl⟩
    rw [hN] at hbig
    by_cases h0 : N = 0
    · have e1 : xs = [] := List.length_eq_zero_iff.1 (by omega)
      have e2 : ys = [] := List.length_eq_zero_iff.1 (by omega)
      subst e1 e2
      clear ha hb hl hN h0 hbig
      simp only [List.length_nil]
      go_enter Try.func13, Try.ntmps13
      go_wp2
      go_loopw [13] (fun i wr => i = .int .i64 0 ∧ wr = w) (fun i _ => 0)
      case atStart => exact ⟨rfl, rfl⟩
      case round =>
        obtain ⟨rfl, rfl⟩ := hrel
        go_wp2
        go_ret
        exact ⟨rfl, Kp.refl _ _⟩
    · obtain ⟨ga, oa, ca, ea, hca, hma, hcella⟩ := mk_shape ha (by intro h; rw [h] at hN; exact h0 hN.symm)
      obtain ⟨gb, ob, cb, eb, hcb, hmb, hcellb⟩ := mk_shape hb (by intro h; rw [h] at hl; rw [hN] at hl; exact h0 hl)
      rw [ea, eb]
      clear ea eb
      rw [hN] at hca hcella
      rw [← hl, hN] at hcb hcellb
      rw [← hl, hN]
      have HN := hid hN
      have HL := hid hl
      have HCA := hid hcella
      have HCB := hid hcellb
      have HC := hid (show N ≤ ca ∧ N ≤ cb ∧ N ≤ 1000000 from ⟨hca, hcb, hbig⟩)
      have T0 : Hid (∀ j, j < 0 → markAt xs j = markAt ys j) := hid (fun j hj => absurd hj (Nat.not_lt_zero _))
      have T1 := hid (Kp.refl Nb w)
      clear ha hb hl hN hcella hcellb hma hmb h0
      go_enter Try.func13, Try.ntmps13
      go_wp2
      go_loopw [13] (RsS w xs ys N) (fun i _ => N - (intOf i).toNat)
      case atStart => exact ⟨0, Nat.zero_le _, rfl, T0, T1⟩
      case round =>
        clear T0 T1
        obtain ⟨k, hk, rfl, HJ, HK⟩ := hrel
        by_cases hlt : k < N
        · have HLT := hid hlt
          obtain ⟨x, hx⟩ : ∃ a, markAt xs k = a := ⟨_, rfl⟩
          obtain ⟨y, hy⟩ : ∃ a, markAt ys k = a := ⟨_, rfl⟩
          have hA := HCA.out k hlt
          have hB := HCB.out k hlt
          rw [hx] at hA
          rw [hy] at hB
          have HLX := hid (show MarkOk x ∧ wr.rangeAt ga (oa + k * 16) (markL x) from ⟨hA.1, range_kept hA.2 HK.out⟩)
          have HLY := hid (show MarkOk y ∧ wr.rangeAt gb (ob + k * 16) (markL y) from ⟨hB.1, range_kept hB.2 HK.out⟩)
          obtain ⟨bb, hbb⟩ : ∃ b, decide (x = y) = b := ⟨_, rfl⟩
          have HBB := hid hbb
          have HB1 : Hid ((k : Int) < (N : Int) ∧ 0 ≤ (k : Int)) := hid (by omega)
          have HXY := hid (show markAt xs k = x ∧ markAt ys k = y from ⟨hx, hy⟩)
          clear hx hy hA hB hbb
          go_wp2_with fail
          refine region_vals2 [none, none, none, none, none, none, none, none, none, none, none, none, none, none, none, none, some 0, some 1, some 2, some 3, some 4, some 5, some 6, some 7, some 8, none] [[(0, none)], [(5, none)], [(16, some 0), (17, some 1)], [(18, some 2)], [(1, none)], [(5, none)], [(20, some 4), (21, some 5)], [(22, some 6)], [(19, some 3), (23, some 7)]] [some 16, some 17, some 18, some 19, some 20, some 21, some 22, some 23, some 24] [.slice (some ⟨ga, oa, none⟩) N ca, .int .i64 (k : Int), .pointer (some ⟨ga, oa + k * 16, none⟩), markV x, .slice (some ⟨gb, ob, none⟩) N cb, .int .i64 (k : Int), .pointer (some ⟨gb, ob + k * 16, none⟩), markV y, .bool (!bb)] (fun w' => Hid (Kp Nb wr w')) (by kernel_rfl) (by kernel_rfl) (by kernel_rfl) ?hS (VFrom.all (n := 9) (by kernel_rfl) ?hstep) ?hend
          case hstep =>
            refine VFrom.cons (VStep.val _ rfl _ rfl (.slice (some ⟨ga, oa, none⟩) N ca) rfl trivial (fun ev wq hS he hr => ?_)) ?_
            · have r0 : ev (.tmp 0) = .slice (some ⟨ga, oa, none⟩) N ca := hr (0, none) (by simp); have hk := he.1; clear hr he
              go_simp
            refine VFrom.cons (VStep.val _ rfl _ rfl (.int .i64 (k : Int)) rfl trivial (fun ev wq hS he hr => ?_)) ?_
            · have r0 : ev (.tmp 5) = .int .i64 (k : Int) := hr (5, none) (by simp); have hk := he.1; clear hr he
              go_simp
            refine VFrom.cons (VStep.val _ rfl _ rfl (.pointer (some ⟨ga, oa + k * 16, none⟩)) rfl trivial (fun ev wq hS he hr => ?_)) ?_
            · have r0 : ev (.tmp 16) = .slice (some ⟨ga, oa, none⟩) N ca := hr (16, some 0) (by simp); have r1 : ev (.tmp 17) = .int .i64 (k : Int) := hr (17, some 1) (by simp); have hk := he.1; clear hr he
              have e1 := HB1.out
              go_simp
            refine VFrom.cons (VStep.val _ rfl _ rfl (markV x) rfl trivial (fun ev wq hS he hr => ?_)) ?_
            · have r0 : ev (.tmp 18) = .pointer (some ⟨ga, oa + k * 16, none⟩) := hr (18, some 2) (by simp); have hk := he.1; clear hr he
              exact exec_loadM rfl r0 (load_mark HLX.out.1 (range_kept HLX.out.2 hS.out))
            refine VFrom.cons (VStep.val _ rfl _ rfl (.slice (some ⟨gb, ob, none⟩) N cb) rfl trivial (fun ev wq hS he hr => ?_)) ?_
            · have r0 : ev (.tmp 1) = .slice (some ⟨gb, ob, none⟩) N cb := hr (1, none) (by simp); have hk := he.1; clear hr he
              go_simp
            refine VFrom.cons (VStep.val _ rfl _ rfl (.int .i64 (k : Int)) rfl trivial (fun ev wq hS he hr => ?_)) ?_
            · have r0 : ev (.tmp 5) = .int .i64 (k : Int) := hr (5, none) (by simp); have hk := he.1; clear hr he
              go_simp
            refine VFrom.cons (VStep.val _ rfl _ rfl (.pointer (some ⟨gb, ob + k * 16, none⟩)) rfl trivial (fun ev wq hS he hr => ?_)) ?_
            · have r0 : ev (.tmp 20) = .slice (some ⟨gb, ob, none⟩) N cb := hr (20, some 4) (by simp); have r1 : ev (.tmp 21) = .int .i64 (k : Int) := hr (21, some 5) (by simp); have hk := he.1; clear hr he
              have e1 := HB1.out
              go_simp
            refine VFrom.cons (VStep.val _ rfl _ rfl (markV y) rfl trivial (fun ev wq hS he hr => ?_)) ?_
            · have r0 : ev (.tmp 22) = .pointer (some ⟨gb, ob + k * 16, none⟩) := hr (22, some 6) (by simp); have hk := he.1; clear hr he
              exact exec_loadM rfl r0 (load_mark HLY.out.1 (range_kept HLY.out.2 hS.out))
            refine VFrom.cons (VStep.val _ rfl _ rfl (.bool (!bb)) rfl trivial (fun ev wq hS he hr => ?_)) ?_
            · have r0 : ev (.tmp 19) = markV x := hr (19, some 3) (by simp); have r1 : ev (.tmp 23) = markV y := hr (23, some 7) (by simp); have hk := he.1; clear hr he
              exact exec_neqM rfl r0 r1 HLX.out.1 HLY.out.1 HBB.out
            exact VFrom.nil
          case hS => exact hid (Kp.refl Nb wr).drew
          case hend =>
            intro wy hy
            have KY := hid (HK.out.trans hy.out (fun _ _ h => h))
            clear hy
            simp only [putAll, List.zip_cons_cons, List.zip_nil_right, List.foldl_cons, List.foldl_nil, Act.put, List.setIfInBounds_toArray, List.set_cons_zero, List.set_cons_succ]
            cases bb with
            | true =>
              have HE : Hid (x = y) := hid (of_decide_eq_true HBB.out)
              go_wp2
              go_roundw
              case rel =>
                refine ⟨k + 1, by omega, by go_num, hid (fun j hj => ?_), KY⟩
                by_cases hj2 : j < k
                · exact HJ.out j hj2
                · obtain rfl : j = k := by omega
                  rw [HXY.out.1, HXY.out.2]
                  exact HE.out
              case measure => have := HLT.out; simp [intOf]; omega
            | false =>
              have HF : Hid (decide (xs = ys) = false) := hid (decide_eq_false fun e => of_decide_eq_false HBB.out (by rw [← HXY.out.1, ← HXY.out.2, e]))
              go_wp2
              go_ret
              exact ⟨by rw [HF.out]; rfl, KY.out⟩
        · obtain rfl : k = N := by omega
          have HT : Hid (decide (xs = ys) = true) := hid (decide_eq_true (eq_of_marks HL.out (fun j hj => HJ.out j (by rw [HN.out] at hj; exact hj))))
          go_wp2
          go_ret
          exact ⟨by rw [HT.out]; rfl, HK.out⟩
  · obtain ⟨n, hn⟩ : ∃ n, xs.length = n := ⟨_, rfl⟩
    obtain ⟨m, hm⟩ : ∃ m, ys.length = m := ⟨_, rfl⟩
    have HF : Hid (decide (xs = ys) = false) := hid (decide_eq_false fun e => hl (by rw [e]))
    rw [hn, hm] at hl
    rw [hn, hm]
    have hl' : (n : Int) ≠ (m : Int) := by omega
    clear ha hb hn hm
    go_enter Try.func13, Try.ntmps13
    go_wp2
    go_ret
    exact ⟨by rw [HF.out]; rfl, Kp.refl _ _⟩

end Go.Proofs.Ytijlmfmpfjjlpaa
