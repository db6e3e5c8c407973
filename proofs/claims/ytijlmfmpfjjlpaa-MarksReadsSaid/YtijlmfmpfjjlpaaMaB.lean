/-
  Layer 9: Right, least. Conditions: marks of 16 bytes.
-/
import Derived.Test.YtijlmfmpfjjlpaaMaA
namespace Go.Proofs.Ytijlmfmpfjjlpaa
open Go.RowKit Go.Shelf

theorem exec_loadM {P : Program} {ev : Operand → Value} {o : Oper} {T : TypeId} {x : Operand} {a : Addr} {v : Value} {w : World} (ho : o.op = .load T x) (hx : ev x = .pointer (some a)) (hl : (Instr.loadAt T (.pointer (some a))).run P w = .ok v w) : (execOp ev o).run P w = .ok (.value v) w := by
  unfold execOp
  simp only [ho, hx, Sem.run_bind, Sem.run_pure, Result.andThen_ok, hl]
/-- A set's slice, with its place. -/
theorem mk_shape {w : World} {v : Value} {ms : List (List Int)} (h : MkSl w v ms) (h0 : ms ≠ []) : ∃ blk off cap, v = .slice (some ⟨blk, off, none⟩) ms.length cap ∧ ms.length ≤ cap ∧ cap ≤ maxLen ∧ ∀ i, i < ms.length → MarkOk (markAt ms i) ∧ w.rangeAt blk (off + i * 16) (markL (markAt ms i)) := by
  rcases h.2 with ⟨_, e⟩ | ⟨blk, off, cap, e, h1, h2, h3⟩
  · exact absurd e h0
  · exact ⟨blk, off, cap, e, h1, h2, fun i hi => ⟨h.1 i, h3 i hi⟩⟩
def RiR (w : World) (ms : List (List Int)) (N : Nat) (i : Value) (wr : World) : Prop := ∃ k : Nat, 1 ≤ k ∧ k ≤ N + 1 ∧ i = .int .i64 k ∧ Hid (∀ j, j + 1 < k → lexI (markAt ms j) (markAt ms (j + 1)) = true) ∧ Hid (Kp Nb w wr)
set_option maxRecDepth 100000 in
set_option maxHeartbeats 4000000 in
theorem mright_any (v : Value) (ms : List (List Int)) (w : World) (hs : MkSl w v ms) (hbig : ms.length ≤ 100000) : Calls Try.prog 11 #[v] w fun e w' => e = .returned (.bool (rightB ms)) ∧ Kp Nb w w' := by
  by_cases h0 : ms = []
  · subst h0
    obtain ⟨y, d, rfl⟩ := hs.shape
    go_enter Try.func11, Try.ntmps11
    go_wp2
    go_loopw [3] (fun i wr => i = .int .i64 1 ∧ wr = w) (fun i _ => 0)
    case atStart => exact ⟨rfl, rfl⟩
    case round =>
      obtain ⟨rfl, rfl⟩ := hrel
      have e0 : (([] : List (List Int)).length : Int) = 0 := rfl
      go_wp2
      go_ret
      exact ⟨rfl, Kp.refl _ _⟩
  · obtain ⟨blk, off, cap, rfl, hc, hm, hcell⟩ := mk_shape hs h0
    obtain ⟨N, hN⟩ : ∃ N, ms.length = N := ⟨_, rfl⟩
    have HN := hid hN
    have HN1 : Hid (1 ≤ N) := hid (by rw [← hN]; have := List.length_pos_iff.2 h0; omega)
    have HCELL := hid hcell
    rw [hN] at hc HCELL ⊢
    rw [hN] at hbig
    have HCM := hid (show N ≤ cap ∧ N ≤ 100000 from ⟨hc, hbig⟩)
    have T0 : Hid (∀ j, j + 1 < 1 → lexI (markAt ms j) (markAt ms (j + 1)) = true) := hid (fun j hj => by omega)
    have T1 := hid (Kp.refl Nb w)
    clear hs h0 hcell hN
    go_enter Try.func11, Try.ntmps11
    go_wp2
    go_loopw [3] (RiR w ms N) (fun i _ => N - (intOf i).toNat)
    case atStart => exact ⟨1, Nat.le_refl _, by omega, rfl, T0, T1⟩
    case round =>
      clear T0 T1
      obtain ⟨k, hk1, hk, rfl, HJ, HK⟩ := hrel
      by_cases hlt : k < N
      · have HLT := hid hlt
        obtain ⟨k0, rfl⟩ : ∃ k0, k = k0 + 1 := ⟨k - 1, by omega⟩
        obtain ⟨k, hkk⟩ : ∃ k, k0 + 1 = k := ⟨_, rfl⟩
        rw [hkk] at hlt hk1 hk ⊢
        have HKK := hid hkk
        obtain ⟨a, ha⟩ : ∃ a, markAt ms k0 = a := ⟨_, rfl⟩
        obtain ⟨b, hb⟩ : ∃ b, markAt ms k = b := ⟨_, rfl⟩
        have hA := HCELL.out k0 (by omega)
        have hB := HCELL.out k hlt
        rw [ha] at hA
        rw [hb] at hB
        have HLA := hid (show MarkOk a ∧ wr.rangeAt blk (off + k0 * 16) (markL a) from ⟨hA.1, range_kept hA.2 HK.out⟩)
        have HLB := hid (show MarkOk b ∧ wr.rangeAt blk (off + k * 16) (markL b) from ⟨hB.1, range_kept hB.2 HK.out⟩)
        obtain ⟨r, hr⟩ : ∃ r, cmpM a b = r := ⟨_, rfl⟩
        have CC : Hid (∀ w, Calls Try.prog 9 #[markV a, markV b] w fun e w' => e = .returned (.int .i64 r) ∧ Kp Nb w w') := hid (fun w => by rw [← hr]; exact cmpg_kp a b w hA.1 hB.1)
        have HR : Hid ((r ≥ 0) ↔ lexI a b = false) := hid (by rw [← hr]; exact cmpM_ge a b)
        obtain ⟨bb, hbb⟩ : ∃ b, decide (r ≥ 0) = b := ⟨_, rfl⟩
        have HBB := hid hbb
        have HK0 : Hid (IntKind.i64.wrap ((k : Int) - 1) = (k0 : Int)) := hid (by rw [IntWalk.i64_in _ (by have := HCM.out; omega)]; omega)
        have HB0 : Hid ((k0 : Int) < (N : Int) ∧ 0 ≤ (k0 : Int)) := hid (by omega)
        have HB1 : Hid ((k : Int) < (N : Int) ∧ 0 ≤ (k : Int)) := hid (by omega)
        have HAB := hid (show markAt ms k0 = a ∧ markAt ms k = b from ⟨ha, hb⟩)
        clear ha hb hA hB hr hkk hbb
        go_wp2_with fail
        refine region_vals2 [none, none, none, none, none, none, none, none, none, none, some 0, some 1, some 2, some 3, some 4, some 5, some 6, some 7, some 8, some 9, some 10] [[(0, none)], [(3, none)], [(11, some 1)], [(10, some 0), (12, some 2)], [(13, some 3)], [(0, none)], [(3, none)], [(15, some 5), (16, some 6)], [(17, some 7)], [(14, some 4), (18, some 8)], [(19, some 9)]] [some 10, some 11, some 12, some 13, some 14, some 15, some 16, some 17, some 18, some 19, some 20] [.slice (some ⟨blk, off, none⟩) N cap, .int .i64 (k : Int), .int .i64 (k0 : Int), .pointer (some ⟨blk, off + k0 * 16, none⟩), markV a, .slice (some ⟨blk, off, none⟩) N cap, .int .i64 (k : Int), .pointer (some ⟨blk, off + k * 16, none⟩), markV b, .int .i64 r, .bool bb] (fun w' => Hid (Kp Nb wr w')) (by kernel_rfl) (by kernel_rfl) (by kernel_rfl) ?hS (VFrom.all (n := 11) (by kernel_rfl) ?hstep) ?hend
        case hstep =>
          refine VFrom.cons (VStep.val _ rfl _ rfl (.slice (some ⟨blk, off, none⟩) N cap) rfl trivial (fun ev wq hS he hr => ?_)) ?_
          · have r0 : ev (.tmp 0) = .slice (some ⟨blk, off, none⟩) N cap := hr (0, none) (by simp); have hk := he.1; clear hr he
            go_simp
          refine VFrom.cons (VStep.val _ rfl _ rfl (.int .i64 (k : Int)) rfl trivial (fun ev wq hS he hr => ?_)) ?_
          · have r0 : ev (.tmp 3) = .int .i64 (k : Int) := hr (3, none) (by simp); have hk := he.1; clear hr he
            go_simp
          refine VFrom.cons (VStep.val _ rfl _ rfl (.int .i64 (k0 : Int)) rfl trivial (fun ev wq hS he hr => ?_)) ?_
          · have r0 : ev (.tmp 11) = .int .i64 (k : Int) := hr (11, some 1) (by simp); have hk := he.1; clear hr he
            have e1 := HK0.out
            go_simp
          refine VFrom.cons (VStep.val _ rfl _ rfl (.pointer (some ⟨blk, off + k0 * 16, none⟩)) rfl trivial (fun ev wq hS he hr => ?_)) ?_
          · have r0 : ev (.tmp 10) = .slice (some ⟨blk, off, none⟩) N cap := hr (10, some 0) (by simp); have r1 : ev (.tmp 12) = .int .i64 (k0 : Int) := hr (12, some 2) (by simp); have hk := he.1; clear hr he
            have e1 := HB0.out
            go_simp
          refine VFrom.cons (VStep.val _ rfl _ rfl (markV a) rfl trivial (fun ev wq hS he hr => ?_)) ?_
          · have r0 : ev (.tmp 13) = .pointer (some ⟨blk, off + k0 * 16, none⟩) := hr (13, some 3) (by simp); have hk := he.1; clear hr he
            exact exec_loadM rfl r0 (load_mark HLA.out.1 (range_kept HLA.out.2 hS.out))
          refine VFrom.cons (VStep.val _ rfl _ rfl (.slice (some ⟨blk, off, none⟩) N cap) rfl trivial (fun ev wq hS he hr => ?_)) ?_
          · have r0 : ev (.tmp 0) = .slice (some ⟨blk, off, none⟩) N cap := hr (0, none) (by simp); have hk := he.1; clear hr he
            go_simp
          refine VFrom.cons (VStep.val _ rfl _ rfl (.int .i64 (k : Int)) rfl trivial (fun ev wq hS he hr => ?_)) ?_
          · have r0 : ev (.tmp 3) = .int .i64 (k : Int) := hr (3, none) (by simp); have hk := he.1; clear hr he
            go_simp
          refine VFrom.cons (VStep.val _ rfl _ rfl (.pointer (some ⟨blk, off + k * 16, none⟩)) rfl trivial (fun ev wq hS he hr => ?_)) ?_
          · have r0 : ev (.tmp 15) = .slice (some ⟨blk, off, none⟩) N cap := hr (15, some 5) (by simp); have r1 : ev (.tmp 16) = .int .i64 (k : Int) := hr (16, some 6) (by simp); have hk := he.1; clear hr he
            have e1 := HB1.out
            go_simp
          refine VFrom.cons (VStep.val _ rfl _ rfl (markV b) rfl trivial (fun ev wq hS he hr => ?_)) ?_
          · have r0 : ev (.tmp 17) = .pointer (some ⟨blk, off + k * 16, none⟩) := hr (17, some 7) (by simp); have hk := he.1; clear hr he
            exact exec_loadM rfl r0 (load_mark HLB.out.1 (range_kept HLB.out.2 hS.out))
          refine VFrom.cons (VStep.call _ rfl _ rfl (.int .i64 r) rfl trivial 9 #[markV a, markV b] (fun ev wq hS he hr => ?_) (fun wq hS => ?_)) ?_
          · have r0 : ev (.tmp 14) = markV a := hr (14, some 4) (by simp); have r1 : ev (.tmp 18) = markV b := hr (18, some 8) (by simp); have hk := he.1; have hf := he.2; clear hr he
            go_simp
          · exact (CC.out wq).mono fun e w' ⟨h1, h2⟩ => ⟨h1, hid (hS.out.trans h2 (fun _ _ h => h))⟩
          refine VFrom.cons (VStep.val _ rfl _ rfl (.bool bb) rfl trivial (fun ev wq hS he hr => ?_)) ?_
          · have r0 : ev (.tmp 19) = .int .i64 r := hr (19, some 9) (by simp); have hk := he.1; clear hr he
            have e1 := HBB.out
            go_simp
          exact VFrom.nil
        case hS => exact hid (Kp.refl Nb wr).drew
        case hend =>
          intro wy hy
          have KY := hid (HK.out.trans hy.out (fun _ _ h => h))
          clear hy
          simp only [putAll, List.zip_cons_cons, List.zip_nil_right, List.foldl_cons, List.foldl_nil, Act.put, List.setIfInBounds_toArray, List.set_cons_zero, List.set_cons_succ]
          cases bb with
          | true =>
            have hr := of_decide_eq_true HBB.out
            have HF : Hid (rightB ms = false) := hid (rightB_false k0 (by rw [HN.out, HKK.out]; exact hlt) (by rw [HKK.out, HAB.out.1, HAB.out.2]; exact HR.out.1 hr))
            clear hr
            go_wp2
            go_ret
            exact ⟨by rw [HF.out]; rfl, KY.out⟩
          | false =>
            have hr := of_decide_eq_false HBB.out
            have HL2 : Hid (lexI a b = true) := hid (by
              cases h : lexI a b with
              | true => rfl
              | false => exact absurd (HR.out.2 h) hr)
            clear hr
            go_wp2
            go_roundw
            case rel =>
              refine ⟨k + 1, by omega, by omega, by go_num, hid (fun j hj => ?_), KY⟩
              by_cases hj2 : j + 1 < k
              · exact HJ.out j (by rw [HKK.out]; exact hj2)
              · obtain rfl : j = k0 := by have := HKK.out; omega
                rw [HKK.out, HAB.out.1, HAB.out.2]
                exact HL2.out
            case measure => have := HLT.out; have := HKK.out; simp [intOf]; omega
      · have HT : Hid (rightB ms = true) := hid (rightB_of fun j hj => HJ.out j (by rw [HN.out] at hj; omega))
        go_wp2
        go_ret
        exact ⟨by rw [HT.out]; rfl, HK.out⟩

/-- Which mark comes first, and whose it is. -/
def leastM (xs ys : List (List Int)) : List Int × Int :=
  match xs, ys with
  | [], [] => (List.replicate 16 0, 0)
  | a :: _, [] => (a, 1)
  | [], b :: _ => (b, 2)
  | a :: _, b :: _ => if lexI a b then (a, 1) else if lexI b a then (b, 2) else (a, 3)

end Go.Proofs.Ytijlmfmpfjjlpaa
