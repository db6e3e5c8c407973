/-
  Layer 9: ref09.Mark. Condition: at most 16 bytes.
-/
import Derived.Test.YtijlmfmpfjjlpaaMkr
import Derived.Test.YtijlmfmpfjjlpaaMkf
import Derived.Test.YtijlmfmpfjjlpaaMaC
namespace Go.Proofs.Ytijlmfmpfjjlpaa
open Go.RowKit Go.Shelf

theorem markOf_at (ys : List Int) (k : Nat) (hk : k < ys.length) (hl : ys.length ≤ 16) : (markL (markOf (ys.take k))).set k (.int .u8 (ys[k]?.getD 0)) = markL (markOf (ys.take (k + 1))) := by
  unfold markL markOf
  apply List.ext_getElem?
  intro j
  have h1 : (ys.take k).length = k := by rw [List.length_take]; omega
  have h2 : (ys.take (k + 1)).length = k + 1 := by rw [List.length_take]; omega
  rw [h1, h2]
  by_cases hj : k = j
  · subst hj
    rw [List.getElem?_set_self (by simp; omega), List.getElem?_map, List.getElem?_append_left (by omega), List.getElem?_take_of_lt (by omega), List.getElem?_eq_getElem hk]
    rfl
  · rw [List.getElem?_set_ne hj, List.getElem?_map, List.getElem?_map]
    congr 1
    rcases Nat.lt_or_ge j k with h | h
    · rw [List.getElem?_append_left (by omega), List.getElem?_append_left (by omega), List.getElem?_take_of_lt h, List.getElem?_take_of_lt (by omega)]
    · rw [List.getElem?_append_right (by omega), List.getElem?_append_right (by omega), h1, h2, List.getElem?_drop, List.getElem?_drop]
      congr 1
      omega
def MkR (N : Nat) (w : World) (ys : List Int) (v : Value) (wr : World) : Prop := ∃ k : Nat, k ≤ ys.length ∧ v = .int .i64 k ∧ Hid (Blk wr (N + 1) 24 (markL (markOf (ys.take k)))) ∧ Hid (Blk wr N 24 (markL (List.replicate 16 0))) ∧ Hid (Kp Nb w wr)
set_option maxRecDepth 100000 in
set_option maxHeartbeats 1000000 in
theorem rmk_any (ys : List Int) (w : World) (hy : IsBytes ys) (hl : ys.length ≤ 16) :
    Calls Try.prog 52 #[.string (st ys)] w fun e w' => e = .returned (markV (markOf ys)) ∧ Kp Nb w w' := by
  obtain ⟨zs, hz⟩ : ∃ zs, zs = markL (List.replicate 16 0) := ⟨_, rfl⟩
  obtain ⟨N, hN⟩ : ∃ N, w.heap.size = N := ⟨_, rfl⟩
  obtain ⟨W, hW⟩ : ∃ W, W = (w.alloc (.cells zs.toArray 24)).alloc (.cells zs.toArray 24) := ⟨_, rfl⟩
  have H0 : Hid (Blk W N 24 zs) := hid (by rw [hW, ← hN]; exact (Blk.new w _ _).alloc _)
  have H1 : Hid (Blk W (N + 1) 24 zs) := hid (by
    have h := Blk.new (w.alloc (.cells zs.toArray 24)) 24 zs
    simp only [World.size_alloc] at h
    rw [hW, ← hN]
    exact h)
  have KW : Hid (Kp Nb w W) := hid (by rw [hW]; exact ((Kp.refl Nb w).alloc _).alloc _)
  rw [hz] at hW H0 H1
  clear hz
  have HX := hid (fun (w : World) i hi => idx_any ys w hy i hi)
  obtain ⟨sy, hsy⟩ : ∃ s, st ys = s := ⟨_, rfl⟩
  have hsz : sy.size = ys.length := by rw [← hsy, st_size]
  rw [hsy] at HX ⊢
  have HY := hid hy
  have HL := hid hl
  have HN := hid hN
  clear hy hl hsy
  go_enter Try.func52, Try.ntmps52
  go_wp2_with fail
  rw [show (w.alloc (.cells #[.int .u8 0, .int .u8 0, .int .u8 0, .int .u8 0, .int .u8 0, .int .u8 0, .int .u8 0, .int .u8 0, .int .u8 0, .int .u8 0, .int .u8 0, .int .u8 0, .int .u8 0, .int .u8 0, .int .u8 0, .int .u8 0] 24)).alloc (.cells #[.int .u8 0, .int .u8 0, .int .u8 0, .int .u8 0, .int .u8 0, .int .u8 0, .int .u8 0, .int .u8 0, .int .u8 0, .int .u8 0, .int .u8 0, .int .u8 0, .int .u8 0, .int .u8 0, .int .u8 0, .int .u8 0] 24) = W from hW.symm]
  clear hW
  go_loopw [4] (MkR N w ys) (fun i _ => ys.length - (intOf i).toNat)
  case atStart => exact ⟨0, Nat.zero_le _, rfl, hid (by have : markOf (ys.take 0) = List.replicate 16 0 := rfl
                                                        rw [this]; exact H1.out), H0, KW⟩
  case round =>
    clear H0 H1 KW
    obtain ⟨k, hk, rfl, HA, HR, HK⟩ := hrel
    have hL16 := HL.out
    by_cases hlt : k < ys.length
    · have IX : ∀ w : World, (Instr.index 9 (.string sy) (.int .i64 (k : Int))).run Try.prog w = .ok (.int .u8 (ys[k]?.getD 0)) w := fun w => HX.out w k hlt
      obtain ⟨x, hx⟩ : ∃ x, ys[k]?.getD 0 = x := ⟨_, rfl⟩
      have hSet := HA.out.set k (.int .u8 x)
      rw [← hx, markOf_at ys k hlt hL16, hx] at hSet
      rw [hx] at IX
      have HA3 := hid hSet
      have HR3 : Hid (Blk (wr.setCell ⟨N + 1, k, none⟩ (.int .u8 x)) N 24 (markL (List.replicate 16 0))) := hid (HR.out.other _ (by dsimp only; omega) _)
      have HK3 : Hid (Kp Nb w (wr.setCell ⟨N + 1, k, none⟩ (.int .u8 x))) := hid (HK.out.new (B := N + 1) (by have := HN.out; omega) k (.int .u8 x))
      have ST := hid (store_u8 HA.out (i := k) (by rw [markL_length, markOf_length _ (by rw [List.length_take]; omega)]; omega) x)
      clear hSet hx
      go_wp2_with (refine wpList_storeM rfl 5 (.tmp 15) (.tmp 14) rfl (p := ⟨N + 1, k, none⟩) (v := .int .u8 x) (by rfl) (by rfl) ST.out ?_)
      go_roundw
      case rel => exact ⟨k + 1, by omega, by go_num, HA3, HR3, HK3⟩
      case measure => simp [intOf]; omega
    · obtain rfl : k = ys.length := by omega
      rw [List.take_length] at HA
      have HLM : Hid ((markOf ys).length = 16) := hid (markOf_length ys HL.out)
      obtain ⟨m, hm⟩ : ∃ m, markOf ys = m := ⟨_, rfl⟩
      rw [hm] at HA HLM
      have HM := hid hm
      clear hm
      have hsz2 : (markL m).toArray.size = 16 := by rw [List.size_toArray, markL_length, HLM.out]
      have TH : Hid (wr.there N 0 (markL m).toArray.size) := hid (by rw [hsz2]; exact HR.out.there 0 16 (by simp [markL_length]))
      clear hsz2
      have SI : Hid ((Try.prog.info? 24).map (·.size) = some (markL m).toArray.size) := hid (by rw [List.size_toArray, markL_length, HLM.out]; exact mark_info)
      have ON := hid (all_oneCell_toArray (markL_one m))
      have HF : Hid (Blk (wr.setCells N 0 (markL m)) N 24 (markL m)) := hid (row_set HR.out (by simp [markL_length, HLM.out]))
      have HKF : Hid (Kp Nb w (wr.setCells N 0 (markL m))) := hid (Kp.setCells (fun h => by have := HN.out; omega) _ 0 wr HK.out)
      go_wp2_with (first
        | (refine wpList_load_mid (by rfl) 24 (.tmp 3) (by rfl) (N + 1) 0 (by rfl) (markL m) _ (range_of HA.out) under_mark rfl (mark_infoL m HLM.out) ?_)
        | (refine wpList_store_mid (by rfl) 24 (.tmp 2) (.tmp 16) (by rfl) N 0 (markL m).toArray (by rfl) (by rfl) TH.out SI.out ON.out ?_))
      refine bodyPost_ret (v := markV m) (results_cell rfl _ N (by rfl) _ (row_loadVar under_mark rfl (mark_infoL m HLM.out) HF.out 0 (fun j _ => by rw [Nat.zero_add]))) rfl ⟨by rw [HM.out], HKF.out⟩

end Go.Proofs.Ytijlmfmpfjjlpaa
