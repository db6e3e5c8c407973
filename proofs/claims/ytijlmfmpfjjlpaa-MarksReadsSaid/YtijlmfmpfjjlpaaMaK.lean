/-
  Layer 9: Fold. Conditions: marks of 16 bytes; at most 100,000.
-/
import Derived.Test.YtijlmfmpfjjlpaaMaJ
import Derived.Test.YtijlmfmpfjjlpaaMkf
namespace Go.Proofs.Ytijlmfmpfjjlpaa
open Go.RowKit Go.Shelf
attribute [local go_sem] Oper.semAt_some

theorem foldM_len (ms : List (List Int)) : (foldM ms).length = 16 := by simp [foldM]
theorem foldM_nil : foldM [] = List.replicate 16 0 := by decide
theorem foldM_snoc (ms : List (List Int)) (k : Nat) (hk : k < ms.length) : foldM (ms.take (k + 1)) = layL (foldM (ms.take k)) (markAt ms k) := by
  refine mark_ext (foldM_len _) (layL_length _ _) fun i h => ?_
  rw [layL_get _ _ i h]
  unfold foldM
  rw [List.getElem?_map, List.getElem?_range h, List.getElem?_map, List.getElem?_range h]
  exact foldAt_snoc ms i k hk
theorem foldM_ok (ms : List (List Int)) : MarkOk (foldM ms) := by
  have h : ∀ k, k ≤ ms.length → MarkOk (foldM (ms.take k)) := fun k => by
    cases k with
    | zero => intro _; rw [List.take_zero, foldM_nil]; exact zero_ok
    | succ k => intro hk; rw [foldM_snoc ms k (by omega)]; exact layL_ok _ _
  have := h ms.length (Nat.le_refl _)
  rwa [List.take_length] at this
def FdO (w : World) (M : Nat) (ms : List (List Int)) (i : Value) (wr : World) : Prop := ∃ k : Nat, k ≤ ms.length ∧ i = .int .i64 k ∧ Hid (Blk wr (M + 1) 24 (markL (foldM (ms.take k)))) ∧ Hid (Blk wr M 24 (markL (List.replicate 16 0))) ∧ Hid (Kp Nb w wr)
def FdI (w : World) (M : Nat) (a b : List Int) (i : Value) (wr : World) : Prop := ∃ j : Nat, j ≤ 16 ∧ i = .int .i64 j ∧ Hid (Blk wr (M + 1) 24 (markL (layK a b j))) ∧ Hid (Blk wr M 24 (markL (List.replicate 16 0))) ∧ Hid (Kp Nb w wr)
set_option maxRecDepth 100000 in
set_option maxHeartbeats 4000000 in
theorem mfold_any (v : Value) (ms : List (List Int)) (w : World) (h : MkSl w v ms) (hbig : ms.length ≤ 100000) :
    Calls Try.prog 22 #[v] w fun e w' => e = .returned (markV (foldM ms)) ∧ Kp Nb w w' := by
  have HM := hid h
  obtain ⟨y, d, rfl⟩ := h.shape
  obtain ⟨N, hN⟩ : ∃ N, ms.length = N := ⟨_, rfl⟩
  have HN := hid hN
  rw [hN] at HM hbig ⊢
  obtain ⟨M, hMM⟩ : ∃ M, w.heap.size = M := ⟨_, rfl⟩
  have HS := hid hMM
  obtain ⟨V1, hV1⟩ : ∃ V, V = w.alloc (.cells (markL (List.replicate 16 0)).toArray 24) := ⟨_, rfl⟩
  have hs1 : V1.heap.size = M + 1 := by rw [hV1, ← hMM]; simp
  obtain ⟨V2, hV2⟩ : ∃ V, V = V1.alloc (.cells (markL (List.replicate 16 0)).toArray 24) := ⟨_, rfl⟩
  have A1 : Hid ((Instr.alloc 24 true (.tuple #[])).run Try.prog w = .ok (.pointer (some ⟨M, 0, none⟩)) V1) := hid (by rw [hV1, ← hMM]; exact mk_new w)
  have A2 : Hid ((Instr.alloc 24 true (.tuple #[])).run Try.prog V1 = .ok (.pointer (some ⟨M + 1, 0, none⟩)) V2) := hid (by rw [hV2, ← hs1]; exact mk_new V1)
  have D1 : Hid (Blk V2 M 24 (markL (List.replicate 16 0))) := hid (by rw [hV2, hV1, ← hMM]; exact (Blk.new w _ _).alloc _)
  have D2 : Hid (Blk V2 (M + 1) 24 (markL (foldM (ms.take 0)))) := hid (by rw [List.take_zero, foldM_nil, hV2, ← hs1]; exact Blk.new V1 _ _)
  have K2 : Hid (Kp Nb w V2) := hid (by rw [hV2, hV1]; exact ((Kp.refl Nb w).alloc _).alloc _)
  clear h hN hMM hV1 hV2 hs1
  go_enter Try.func22, Try.ntmps22
  go_wp2_with (first
    | (refine wpList_val (by rfl) _ _ (exec_allocM rfl A1.out) ?_)
    | (refine wpList_val (by rfl) _ _ (exec_allocM rfl A2.out) ?_))
  go_loopw [10] (FdO w M ms) (fun i _ => N - (intOf i).toNat)
  case atStart => exact ⟨0, Nat.zero_le _, rfl, D2, D1, K2⟩
  case round =>
    clear D1 D2 K2 A1 A2
    obtain ⟨k, hk, rfl, HF, HR, HK⟩ := hrel
    rw [HN.out] at hk
    by_cases hlt : k < N
    · have HLT := hid hlt
      have hm := HM.out.kept HK.out
      obtain ⟨blk, off, cap, e, hc, hcm, hcell⟩ := mk_shape hm (by intro e; have := HN.out; rw [e] at this; simp at this; omega)
      rw [HN.out] at e
      cases e
      have h0 := hcell k (by rw [HN.out]; exact hlt)
      obtain ⟨b, hb⟩ : ∃ b, markAt ms k = b := ⟨_, rfl⟩
      rw [hb] at h0
      have HB := hid hb
      have HBO := hid h0.1
      have LD := hid (load_mark h0.1 h0.2)
      obtain ⟨W5, s1, s2, s3⟩ := mk_fresh wr h0.1
      obtain ⟨V, hV⟩ : ∃ V, V = wr.alloc (.cells (markL (List.replicate 16 0)).toArray 24) := ⟨_, rfl⟩
      obtain ⟨M5, hM5⟩ : ∃ M5, wr.heap.size = M5 := ⟨_, rfl⟩
      have AL : Hid ((Instr.alloc 24 true (.tuple #[])).run Try.prog wr = .ok (.pointer (some ⟨M5, 0, none⟩)) V) := hid (by rw [hV, ← hM5]; exact mk_new wr)
      rw [← hV, hM5] at s1
      rw [hM5] at s2
      have ST := hid s1
      have LD5 := hid (load_mark h0.1 (range_of s2))
      have HF5 := hid (HF.out.kept s3 (fun h => h))
      have HR5 := hid (HR.out.kept s3 (fun h => h))
      have HK5 := hid (HK.out.trans s3 (fun _ _ h => h))
      obtain ⟨a, ha⟩ : ∃ a, foldM (ms.take k) = a := ⟨_, rfl⟩
      rw [ha] at HF5
      have HAL : Hid (a.length = 16) := hid (by rw [← ha]; exact foldM_len _)
      have HA := hid ha
      have HZ : Hid (Blk W5 (M + 1) 24 (markL (layK a b 0))) := hid (by rw [layK_zero a b HAL.out]; exact HF5.out)
      clear hm hcell h0 hb s1 s2 s3 hV hM5 ha HF HR HF5
      go_wp2_with (first
        | (refine wpList_val (by rfl) _ _ (exec_loadM (a := ⟨blk, off + k * 16, none⟩) rfl (by rfl) LD.out) ?_)
        | (refine wpList_val (by rfl) _ _ (exec_allocM rfl AL.out) ?_)
        | (refine wpList_storeM rfl 24 (.tmp 5) (.tmp 13) rfl (p := ⟨M5, 0, none⟩) (by rfl) (v := markV b) (by rfl) ST.out ?_)
        | (refine wpList_val (by rfl) _ _ (exec_loadM (a := ⟨M5, 0, none⟩) rfl (by rfl) LD5.out) ?_))
      go_loopw [15] (FdI w M a b) (fun i _ => 16 - (intOf i).toNat)
      case atStart => exact ⟨0, by omega, rfl, HZ, HR5, HK5⟩
      case round =>
        clear HZ HR5 HK5 HK LD AL ST LD5
        obtain ⟨j, hj, rfl, HX, HR, HK⟩ := hrel
        by_cases hjl : j < 16
        · obtain ⟨x, hx⟩ : ∃ x, (layK a b j)[j]?.getD 0 = x := ⟨_, rfl⟩
          obtain ⟨y, hy⟩ : ∃ y, b[j]?.getD 0 = y := ⟨_, rfl⟩
          have c0 := (HX.out.cell j).trans (markL_get _ j (by rw [layK_length]; exact hjl))
          rw [hx] at c0
          have f0 := HX.out.frozen j
          have hi : ∀ w, (Instr.index 24 (.agg (markL b).toArray) (.int .i64 (j : Int))).run Try.prog w = .ok (.int .u8 y) w := fun w => by rw [← hy]; exact idx_mark b HBO.out.len j hjl w
          have HXN : Hid (Blk (wr.setCell ⟨M + 1, j, none⟩ (.int .u8 (bits .xor .u8 x y))) (M + 1) 24 (markL (layK a b (j + 1)))) := hid (by
            have h := HX.out.set j (.int .u8 (bits .xor .u8 x y))
            rw [← hx, layK_get a b j j hjl, if_neg (Nat.lt_irrefl j), ← hy, layK_succ a b j hjl] at h
            rw [← hx, layK_get a b j j hjl, if_neg (Nat.lt_irrefl j), ← hy]
            exact h)
          have HRN := hid (HR.out.other ⟨M + 1, j, none⟩ (by dsimp only; omega) (.int .u8 (bits .xor .u8 x y)))
          have HKN := hid (HK.out.new (B := M + 1) (by have := HS.out; omega) j (.int .u8 (bits .xor .u8 x y)))
          clear hx hy
          go_wp2
          go_roundw
          case rel => exact ⟨j + 1, by omega, by go_num, HXN, HRN, HKN⟩
          case measure => simp [intOf]; omega
        · obtain rfl : j = 16 := by omega
          have HF3 : Hid (Blk wr (M + 1) 24 (markL (foldM (ms.take (k + 1))))) := hid (by
            rw [foldM_snoc ms k (by rw [HN.out]; exact HLT.out), HA.out, HB.out]; exact HX.out)
          clear HX
          go_wp2
          go_roundw
          case rel => exact ⟨k + 1, by rw [HN.out]; exact HLT.out, by go_num, HF3, HR, HK⟩
          case measure => have := HLT.out; simp [intOf]; omega
    · obtain rfl : k = N := by omega
      have HF2 : Hid (Blk wr (M + 1) 24 (markL (foldM ms))) := hid (by rw [← HN.out, List.take_length] at HF; exact HF.out)
      have OK := hid (foldM_ok ms)
      obtain ⟨m, hm⟩ : ∃ m, foldM ms = m := ⟨_, rfl⟩
      rw [hm] at HF2 OK
      have HMM := hid hm
      have LD := hid (load_mark OK.out (range_of HF2.out))
      obtain ⟨W', s1, s2, s3⟩ := mk_put (by simp [markL]) HR.out OK.out
      have ST := hid s1
      have S2 := hid s2
      have HKF : Hid (Kp Nb w W') := hid (HK.out.trans (S' := Jb M) s3 (fun i hi h => by have : i = M := h; have := HS.out; omega))
      clear HF HF2 hm s1 s2 s3
      go_wp2_with (first
        | (refine wpList_val (by rfl) _ _ (exec_loadM (a := ⟨M + 1, 0, none⟩) rfl (by rfl) LD.out) ?_)
        | (refine wpList_storeM rfl 24 (.tmp 2) (.tmp 27) rfl (p := ⟨M, 0, none⟩) (by rfl) (v := markV m) (by rfl) ST.out ?_))
      refine bodyPost_ret (v := markV m) (results_cell rfl _ M (by rfl) _ (mark_loadVar OK.out S2.out)) rfl ⟨by rw [HMM.out], HKF.out⟩

end Go.Proofs.Ytijlmfmpfjjlpaa
