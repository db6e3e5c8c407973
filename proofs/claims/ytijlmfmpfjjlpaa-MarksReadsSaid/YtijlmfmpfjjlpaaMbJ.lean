/-
  Layer 9: ref09.Bytes. Conditions: marks of 16 bytes; at most 4,096 of them.
-/
import Derived.Test.YtijlmfmpfjjlpaaMbI
import Derived.Test.YtijlmfmpfjjlpaaMaM
namespace Go.Proofs.Ytijlmfmpfjjlpaa
open Go.RowKit Go.Shelf

def RbR (w1 : World) (ms : List (List Int)) (s i : Value) (wr : World) : Prop := ∃ k : Nat, k ≤ ms.length ∧ s = .string (st (numBytes (ms.length : Int) ++ (ms.take k).flatten)) ∧ i = .int .i64 k ∧ Hid (Kp Nb w1 wr)
set_option maxRecDepth 100000 in
set_option maxHeartbeats 4000000 in
theorem rbm_any (v : Value) (ms : List (List Int)) (w : World) (h : MkSl w v ms) (hl : ms.length ≤ 4096) :
    Calls Try.prog 28 #[v] w fun e w' => e = .returned (.string (st (bytesM ms))) ∧ Kp Nb w w' := by
  obtain ⟨y, d, rfl⟩ := h.shape
  obtain ⟨n, hn⟩ : ∃ n, ms.length = n := ⟨_, rfl⟩
  have HN := hid hn
  have H := hid h
  have CN : Hid (∀ w, Calls Try.prog 46 #[.int .u64 (n : Int)] w fun e w' => e = .returned (.string (st (numBytes (ms.length : Int)))) ∧ Kp Nb w w') := hid (fun w => by
    have h := refn_number (n : Int) w (by omega) (by omega)
    rw [hn]
    exact h)
  have HNL : Hid ((numBytes (ms.length : Int)).length ≤ 9) := hid numBytes_length (ms.length : Int) (by omega)
  have HMO : Hid (∀ m ∈ ms, MarkOk m) := hid h.ok
  rw [hn] at H hl
  have HLN := hid hl
  have hnb : n ≤ 4096 := hl
  rw [hn]
  clear h hn hl
  go_enter Try.func28, Try.ntmps28
  go_wp2_with fail
  refine (CN.out _).mono ?_
  rintro e w1 ⟨rfl, k1⟩
  have K1 := hid k1
  have T0 : Hid (Kp Nb w1 w1) := hid (Kp.refl _ _)
  clear k1
  go_wp2
  go_loopw [3, 12] (RbR w1 ms) (fun _ i _ => n - (intOf i).toNat)
  case atStart => exact ⟨0, Nat.zero_le _, by rw [List.take_zero, List.flatten_nil, List.append_nil], rfl, T0⟩
  case round =>
    clear T0
    obtain ⟨k, hk, rfl, rfl, KO⟩ := hrel
    rw [HN.out] at hk
    obtain ⟨S, hS⟩ : ∃ S, st (numBytes (ms.length : Int) ++ (ms.take k).flatten) = S := ⟨_, rfl⟩
    rw [hS]
    by_cases hlt : k < n
    · have HSZ : S.size ≤ 70000 := by
        rw [← hS, st_size, List.length_append, flat_len (fun m hm => HMO.out m (List.mem_of_mem_take hm)), List.length_take]
        have := HNL.out; have := HLN.out; omega
      have hC := H.out.kept (K1.out.trans KO.out (fun _ _ h => h))
      rcases hC.2 with ⟨_, e0⟩ | ⟨blk, off, cap, e1, hc, hx, hcell⟩
      · exfalso
        have := HN.out
        rw [e0, List.length_nil] at this
        omega
      rw [HN.out] at e1 hc hcell
      injection e1 with e1 _ e2
      subst e1 e2
      have HR := hid (hcell k hlt)
      have MZ := hid (hC.1 k)
      have hfs := flat_snoc ms k (by rw [HN.out]; exact hlt)
      obtain ⟨z, hz⟩ : ∃ z, markAt ms k = z := ⟨_, rfl⟩
      rw [hz] at HR MZ hfs
      have HSA : Hid (S ++ st z = st (numBytes (ms.length : Int) ++ (ms.take (k + 1)).flatten)) := hid (by
        rw [← hS, ← st_append, hfs, List.append_assoc])
      have hz0 := Blk.new wr 24 (markL (List.replicate 16 0))
      obtain ⟨W2, hW2⟩ : ∃ W, W = (wr.alloc (.cells (markL (List.replicate 16 0)).toArray 24)).setCells wr.heap.size 0 (markL z) := ⟨_, rfl⟩
      have kW : Kp Nb wr W2 := by rw [hW2]; exact Kp.setCells (fun h => absurd h (Nat.lt_irrefl _)) _ 0 _ ((Kp.refl Nb wr).alloc _)
      have TH := hid (mark_there hz0 (by rw [markL_length]; rfl) MZ.out)
      have SI := hid (mark_sized MZ.out)
      have ON := hid (all_oneCell_toArray (markL_one z))
      have HZ : Blk W2 wr.heap.size 24 (markL z) := by rw [hW2]; exact row_set hz0 (by rw [markL_length, markL_length, MZ.out.len]; rfl)
      have HK1 := hid (KO.out.trans kW (fun _ _ h => h))
      obtain ⟨T, hT⟩ : ∃ T, st z = T := ⟨_, rfl⟩
      have CV : (convert 45 9 (.slice (some ⟨wr.heap.size, 0, none⟩) 16 16)).run Try.prog W2 = .ok (.string T) W2 := by rw [← hT]; exact conv_any (by_mark HZ MZ.out)
      have g2 : ¬ (9223372036854775807 < S.size + T.size) := by rw [← hT, st_size, MZ.out.len]; omega
      rw [hT] at HSA
      clear hz0 kW hcell hC hfs hz hT HZ hS hx
      go_upto_region 5 with (first
        | (refine wpList_load_mid (by rfl) 24 (.tmp 14) (by rfl) blk (off + k * 16) (by rfl) (markL z) _ HR.out under_mark rfl (mark_infoL z MZ.out.len) ?_)
        | (refine wpList_store_mid (by rfl) 24 (.tmp 5) (.tmp 15) (by rfl) wr.heap.size 0 (markL z).toArray (by rfl) (by rfl) TH.out SI.out ON.out ?_))
      rw [show (wr.alloc (.cells #[.int .u8 0, .int .u8 0, .int .u8 0, .int .u8 0, .int .u8 0, .int .u8 0, .int .u8 0, .int .u8 0, .int .u8 0, .int .u8 0, .int .u8 0, .int .u8 0, .int .u8 0, .int .u8 0, .int .u8 0, .int .u8 0] 24)).setCells wr.heap.size 0 (markL z) = W2 from hW2.symm]
      clear hW2 TH SI ON
      go_wp2
      go_roundw
      case rel => exact ⟨k + 1, by rw [HN.out]; omega, by rw [HSA.out], by go_num, HK1⟩
      case measure => simp [intOf]; omega
    · obtain rfl : k = n := by omega
      have HE : Hid (S = st (bytesM ms)) := hid (by rw [← hS]; unfold bytesM; rw [List.take_of_length_le (by rw [HN.out]; exact Nat.le_refl _)])
      clear hS
      go_wp2
      go_ret
      exact ⟨by rw [HE.out]; rfl, K1.out.trans KO.out (fun _ _ h => h)⟩

end Go.Proofs.Ytijlmfmpfjjlpaa
