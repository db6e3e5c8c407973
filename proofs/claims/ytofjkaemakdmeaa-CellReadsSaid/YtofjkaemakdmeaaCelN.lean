/-
  Layers 9 and 10: walks of the reference's Mark, Bytes and Get, and of a Put that refuses. Conditions: fewer than 2^47 bytes. (Printed by gen_reads10.py.)
-/
import Derived.Test.YtofjkaemakdmeaaCelL
import Derived.Test.YtofjkaemakdmeaaRefI
import Derived.Test.YtofjkaemakdmeaaRefE
namespace Go.Proofs.Ytofjkaemakdmeaa
open Go.RowKit

theorem BySl.beside {S : Nat → Prop} {w w' : World} {X : Nat} {v : Value} {zs ys : List Int} {f : Int} (h : BySl S w v zs) (g : RefAt w X ys f) (k : Kp (Jb X) w w') : BySl S w' v zs := by
  obtain ⟨hz, hv⟩ := h
  refine ⟨hz, ?_⟩
  rcases hv with hv | ⟨blk, off, cap, rfl, hc, hm, hcell, hn⟩
  · exact .inl hv
  · by_cases h0 : zs.length = 0
    · obtain rfl := List.eq_nil_of_length_eq_zero h0
      exact .inl ⟨⟨_, _, rfl⟩, rfl⟩
    · have hX : blk ≠ X := by
        intro hX
        subst hX
        have c := hcell 0 (by omega)
        rw [Blk.cell g] at c
        rcases Nat.lt_trichotomy (off + 0) 1 with h | h | h
        · rw [show off + 0 = 0 by omega] at c; simp at c
        · rw [h] at c; simp at c
        · rw [List.getElem?_eq_none (by simp; omega)] at c; cases c
      exact .inr ⟨blk, off, cap, rfl, hc, hm, fun i hi => k.cell (hcell i hi) hX, hn⟩
theorem EyeAt.beside {w w' : World} {E X : Nat} {zs ys : List Int} {e f : Int} (h : EyeAt w E zs e) (g : RefAt w X ys f) (hne : E ≠ X) (k : Kp (Jb X) w w') : EyeAt w' E zs e := by
  obtain ⟨v, hb, hv⟩ := h
  exact ⟨v, hb.kept k hne, hv.beside g k⟩

set_option maxHeartbeats 400000 in
theorem cput_no (B : Nat) (x : Cel) (w : World) (hx : CelOk x) (hr : crightB x.1 = false) :
    Calls Try.prog 21 #[.pointer (some ⟨B, 0, none⟩), cv x] w fun e w' => e = .returned (.bool false) ∧ Kp Nb w w' := by
  have HO := hid hx
  obtain ⟨du, hu, hd⟩ := cell_under
  have HU := hid hu
  have CX := hid (cell_infoL x.1 x.2.1 x.2.2 hx.mark.len)
  have CR : Hid (∀ w, Calls Try.prog 19 #[cv x] w fun e w' => e = .returned (.bool false) ∧ Kp Nb w w') := hid (fun w => by rw [← hr]; exact cright_any x.1 x.2.1 x.2.2 w)
  have HB := hid (Blk.new w 26 (cl x))
  have K0 := hid ((Kp.refl Nb w).alloc (.cells (cl x).toArray 26))
  clear hx hr hu
  go_enter Try.func21, Try.ntmps21
  go_wp2_with (refine wpList_load_mid (by rfl) 26 (.tmp 3) (by rfl) w.heap.size 0 (by rfl) (cl x) du (range_of HB.out) HU.out hd CX.out ?_)
  refine (CR.out _).mono ?_
  rintro e w1 ⟨rfl, k1⟩
  have K9 := hid (K0.out.trans k1 (fun _ _ h => h))
  clear k1
  go_wp2
  go_ret
  exact ⟨rfl, K9.out⟩

/-- The first k of sixteen bytes. -/
def markK (zs : List Int) (k : Nat) : List Int := zs.take k ++ List.replicate (16 - k) 0
theorem markK_length (zs : List Int) (k : Nat) (hk : k ≤ zs.length) (hz : zs.length ≤ 16) : (markK zs k).length = 16 := by unfold markK; simp; omega
theorem markK_end (zs : List Int) : markK zs zs.length = markOf zs := by
  unfold markK markOf; rw [List.take_length, List.drop_replicate]
theorem markK_set (zs : List Int) (k : Nat) (hk : k < zs.length) (hz : zs.length ≤ 16) : (markL (markK zs k)).set k (.int .u8 (zs[k]?.getD 0)) = markL (markK zs (k + 1)) := by
  unfold markL markK
  apply List.ext_getElem?
  intro j
  by_cases hkj : k = j
  · subst hkj
    rw [List.getElem?_set_self (by simp; omega), List.getElem?_map, List.getElem?_append_left (by simp; omega), List.getElem?_take_of_lt (by omega), List.getElem?_eq_getElem hk]
    rfl
  · rw [List.getElem?_set_ne hkj, List.getElem?_map, List.getElem?_map]
    congr 1
    rcases Nat.lt_or_ge j k with h | h
    · rw [List.getElem?_append_left (by simp; omega), List.getElem?_append_left (by simp; omega), List.getElem?_take_of_lt h, List.getElem?_take_of_lt (by omega)]
    · rw [List.getElem?_append_right (by simp; omega), List.getElem?_append_right (by simp; omega), List.getElem?_replicate, List.getElem?_replicate]
      simp only [List.length_take]
      rw [Nat.min_eq_left (by omega), Nat.min_eq_left (by omega)]
      by_cases h2 : j < 16
      · rw [if_pos (by omega), if_pos (by omega)]
      · rw [if_neg (by omega), if_neg (by omega)]
def RmkR (w : World) (zs : List Int) (i : Value) (wr : World) : Prop :=
  ∃ k : Nat, k ≤ zs.length ∧ i = .int .i64 k ∧ Hid (Blk wr (w.heap.size + 1) 23 (markL (markK zs k))) ∧ Hid (Blk wr w.heap.size 23 (markL (List.replicate 16 0))) ∧ Hid (Kp Nb w wr)
set_option maxRecDepth 100000 in
set_option maxHeartbeats 2000000 in
theorem rmark_any (zs : List Int) (w : World) (hz : IsBytes zs) (hl : zs.length ≤ 16) :
    Calls Try.prog 52 #[.string (st zs)] w fun e w' => e = .returned (markV (markOf zs)) ∧ Kp Nb w w' := by
  have HZ := hid hz
  have HL := hid hl
  have HS := hid (st_size zs)
  obtain ⟨s, hs⟩ : ∃ s, st zs = s := ⟨_, rfl⟩
  have HI : Hid (∀ (i : Nat), i < zs.length → ∀ w, (Instr.index 9 (.string s) (.int .i64 (i : Int))).run Try.prog w = .ok (.int .u8 (zs[i]?.getD 0)) w) := hid (fun i hi w => by rw [← hs]; exact idx_any zs w hz i hi)
  rw [hs] at HS ⊢
  obtain ⟨W, hW⟩ : ∃ W, W = (w.alloc (.cells (markL (List.replicate 16 0)).toArray 23)).alloc (.cells (markL (List.replicate 16 0)).toArray 23) := ⟨_, rfl⟩
  have H0 : Hid (Blk W w.heap.size 23 (markL (List.replicate 16 0))) := hid (by rw [hW]; exact (Blk.new w _ _).alloc _)
  have H1 : Hid (Blk W (w.heap.size + 1) 23 (markL (List.replicate 16 0))) := hid (by
    have h := Blk.new (w.alloc (.cells (markL (List.replicate 16 0)).toArray 23)) 23 (markL (List.replicate 16 0))
    simp only [World.size_alloc] at h
    rw [hW]
    exact h)
  have KW : Hid (Kp Nb w W) := hid (by rw [hW]; exact ((Kp.refl Nb w).alloc _).alloc _)
  clear hs hz hl
  go_enter Try.func52, Try.ntmps52
  go_wp2_with fail
  rw [show (w.alloc (.cells #[.int .u8 0, .int .u8 0, .int .u8 0, .int .u8 0, .int .u8 0, .int .u8 0, .int .u8 0, .int .u8 0, .int .u8 0, .int .u8 0, .int .u8 0, .int .u8 0, .int .u8 0, .int .u8 0, .int .u8 0, .int .u8 0] 23)).alloc (.cells #[.int .u8 0, .int .u8 0, .int .u8 0, .int .u8 0, .int .u8 0, .int .u8 0, .int .u8 0, .int .u8 0, .int .u8 0, .int .u8 0, .int .u8 0, .int .u8 0, .int .u8 0, .int .u8 0, .int .u8 0, .int .u8 0] 23) = W from hW.symm]
  clear hW
  go_loopw [4] (RmkR w zs) (fun i _ => zs.length - (intOf i).toNat)
  case atStart => exact ⟨0, by omega, rfl, H1, H0, KW⟩
  case round =>
    clear H0 H1 KW
    obtain ⟨k, hk, rfl, HA, HR, HK⟩ := hrel
    have hsz := HS.out
    by_cases hlt : k < zs.length
    · have d1 : decide ((k : Int) < (zs.length : Int)) = true := decide_eq_true (by omega)
      have e1 := HI.out k hlt
      have HQ := hid (markK_set zs k hlt HL.out)
      have HLk : Hid ((markL (markK zs k)).length = 16) := hid (by rw [markL_length, markK_length zs k hk HL.out])
      obtain ⟨x, hx⟩ : ∃ x, zs[k]?.getD 0 = x := ⟨_, rfl⟩
      rw [hx] at e1 HQ
      obtain ⟨u0, c0⟩ : ∃ u0, wr.cell? ⟨w.heap.size + 1, k, none⟩ = some u0 := ⟨_, (HA.out.cell k).trans (List.getElem?_eq_getElem (by rw [HLk.out]; have := HL.out; omega))⟩
      have f0 := HA.out.frozen k
      have PZ : (0 : Int) ≤ (k : Int) := by omega
      have PL : (k : Int) < 16 := by have := HL.out; omega
      have PT : ((k : Nat) : Int).toNat = k := by omega
      have HA3 : Hid (Blk (wr.setCell ⟨w.heap.size + 1, k, none⟩ (.int .u8 x)) (w.heap.size + 1) 23 (markL (markK zs (k + 1)))) := hid (by rw [← HQ.out]; exact HA.out.set k _)
      have HR3 : Hid (Blk (wr.setCell ⟨w.heap.size + 1, k, none⟩ (.int .u8 x)) w.heap.size 23 (markL (List.replicate 16 0))) := hid (HR.out.other _ (by dsimp only; omega) _)
      have HK3 := hid (HK.out.new (B := w.heap.size + 1) (by omega) k (.int .u8 x))
      clear hx
      go_wp2
      go_roundw
      case rel => exact ⟨k + 1, by omega, by go_num, HA3, HR3, HK3⟩
      case measure => simp [intOf]; omega
    · obtain rfl : k = zs.length := by omega
      rw [markK_end zs] at HA
      have HLm : Hid ((markOf zs).length = 16) := hid (markOf_length zs HL.out)
      obtain ⟨m, hm⟩ : ∃ m, markOf zs = m := ⟨_, rfl⟩
      rw [hm] at HA HLm
      have HM := hid hm
      have hzz : (markL m).toArray.size = 16 := by rw [List.size_toArray, markL_length, HLm.out]
      have TH : Hid (wr.there w.heap.size 0 (markL m).toArray.size) := hid (by rw [hzz]; exact HR.out.there 0 16 (by simp [markL_length]))
      have SI : Hid ((Try.prog.info? 23).map (·.size) = some (markL m).toArray.size) := hid (by rw [hzz]; exact mark_info)
      have ON := hid (all_oneCell_toArray (markL_one m))
      have HF : Hid (Blk (wr.setCells w.heap.size 0 (markL m)) w.heap.size 23 (markL m)) := hid (row_set HR.out (by simp [markL_length, HLm.out]))
      have HKF : Hid (Kp Nb w (wr.setCells w.heap.size 0 (markL m))) := hid (Kp.setCells (fun h => by omega) _ 0 wr HK.out)
      clear hm hzz
      go_wp2_with (first
        | (refine wpList_load_mid (by rfl) 23 (.tmp 3) (by rfl) (w.heap.size + 1) 0 (by rfl) (markL m) _ (range_of HA.out) under_mark rfl (mark_infoL m HLm.out) ?_)
        | (refine wpList_store_mid (by rfl) 23 (.tmp 2) (.tmp 16) (by rfl) w.heap.size 0 (markL m).toArray (by rfl) (by rfl) TH.out SI.out ON.out ?_))
      refine bodyPost_ret (v := markV m) (results_cell rfl _ w.heap.size (by rfl) _ (row_loadVar under_mark rfl (mark_infoL m HLm.out) HF.out 0 (fun j _ => by rw [Nat.zero_add]))) rfl ⟨by rw [HM.out], HKF.out⟩

theorem eightOf_L (k : Int) : eightOf k = eightL k := by
  unfold eightOf eightL eightK
  apply List.map_congr_left
  intro j hj
  rw [if_pos (List.mem_range.1 hj)]
set_option maxRecDepth 100000 in
set_option maxHeartbeats 2000000 in
theorem rbytes_any (x : Cel) (w : World) (hx : CelOk x) :
    Calls Try.prog 22 #[cv x] w fun e w' => e = .returned (.string (st (cellBytes x.1 x.2.1 x.2.2))) ∧ Kp Nb w w' := by
  obtain ⟨c, m, k⟩ := x
  have HM := hid hx.mark
  dsimp only at HM
  obtain ⟨z, hz⟩ : ∃ z, zigI c = z := ⟨_, rfl⟩
  have hzr : 0 ≤ z ∧ z < 18446744073709551616 := by rw [← hz]; exact x64_rng _ _
  have CG : Hid (∀ w, Calls Try.prog 44 #[.int .i64 c] w fun e w' => e = .returned (.int .u64 z) ∧ Kp Nb w w') := hid (fun w => by rw [← hz]; exact (refn_zig c w hx.lo hx.hi).mono fun e w' ⟨h1, h2⟩ => ⟨h1, by rw [h2]; exact Kp.refl _ _⟩)
  obtain ⟨nb, hn⟩ : ∃ nb, numBytes z = nb := ⟨_, rfl⟩
  have CN : Hid (∀ w, Calls Try.prog 43 #[.int .u64 z] w fun e w' => e = .returned (.string (st nb)) ∧ Kp Nb w w') := hid (fun w => by rw [← hn]; exact refn_number z w hzr.1 hzr.2)
  obtain ⟨eb, he⟩ : ∃ eb, eightOf k = eb := ⟨_, rfl⟩
  have CE : Hid (∀ w, Calls Try.prog 45 #[.int .u64 k] w fun e w' => e = .returned (.string (st eb)) ∧ Kp Nb w w') := hid (fun w => by rw [← he]; exact ref_eight k w hx.klo hx.khi)
  have HV : Hid (cellBytes c m k = nb ++ (m ++ eb)) := hid (by unfold cellBytes; rw [hz, hn, ← eightOf_L, he])
  obtain ⟨s1, h1⟩ : ∃ s, st nb = s := ⟨_, rfl⟩
  obtain ⟨s2, h2⟩ : ∃ s, st m = s := ⟨_, rfl⟩
  obtain ⟨s3, h3⟩ : ∃ s, st eb = s := ⟨_, rfl⟩
  have HT : Hid (st (nb ++ (m ++ eb)) = s1 ++ s2 ++ s3) := hid (by rw [← List.append_assoc, st_append, st_append, h1, h2, h3])
  have q1 : s1.size ≤ 9 := by rw [← h1, st_size, ← hn]; exact numBytes_length z hzr.2
  have q2 : s2.size = 16 := by rw [← h2, st_size]; exact HM.out.len
  have q3 : s3.size = 8 := by rw [← h3, st_size, ← he]; exact eightOf_length k
  have SZ1 : Hid (s1.size + s2.size ≤ 9223372036854775807) := hid (by omega)
  have SZ2 : Hid (s1.size + s2.size + s3.size ≤ 9223372036854775807) := hid (by omega)
  have SZ3 : Hid ((s1 ++ s2).size + s3.size ≤ 9223372036854775807) := hid (by rw [ByteArray.size_append]; omega)
  rw [h1] at CN
  rw [h3] at CE
  clear q1 q2 q3
  have H2 := hid h2
  have HB := hid (Blk.new w 26 (cl (c, m, k)))
  have K0 := hid ((Kp.refl Nb w).alloc (.cells (cl (c, m, k)).toArray 26))
  clear hz hn he h1 h2 h3 hx hzr
  go_enter Try.func22, Try.ntmps22
  go_wp2_with fail
  obtain ⟨W, hW⟩ : ∃ W, W = w.alloc (.cells (cl (c, m, k)).toArray 26) := ⟨_, rfl⟩
  rw [← hW] at HB K0 ⊢
  clear hW
  generalize w.heap.size = N at *
  refine region_vals2 [none, none, some 12, some 0, some 1, some 2, some 3, some 4, some 5, some 6, some 7, some 8, some 9, some 10, some 11] [[(1, none)], [(3, some 0)], [(4, some 1)], [(5, some 2)], [(1, none)], [(7, some 4)], [(8, some 5)], [(6, some 3), (9, some 6)], [(1, none)], [(11, some 8)], [(12, some 9)], [(10, some 7), (13, some 10)], [(14, some 11)]] [some 3, some 4, some 5, some 6, some 7, some 8, some 9, some 10, some 11, some 12, some 13, some 14, some 2] [.pointer (some ⟨N, 0, none⟩), .int .i64 c, .int .u64 z, .string s1, .pointer (some ⟨N, 1, none⟩), .slice (some ⟨N, 1, none⟩) 16 16, .string s2, .string (s1 ++ s2), .pointer (some ⟨N, 17, none⟩), .int .u64 k, .string s3, .string (s1 ++ s2 ++ s3), .string (s1 ++ s2 ++ s3)] (fun w' => Hid (Kp Nb W w')) (by kernel_rfl) (by kernel_rfl) (by kernel_rfl) ?hS (VFrom.all (n := 13) (by kernel_rfl) ?hstep) ?hend
  case hstep =>
    refine VFrom.cons (VStep.val _ rfl _ rfl (.pointer (some ⟨N, 0, none⟩)) rfl trivial (fun ev wq hS he hr => ?_)) ?_
    · have r0 : ev (.tmp 1) = .pointer (some ⟨N, 0, none⟩) := hr (1, none) (by simp); have hk := he.1; clear hr he
      go_simp
    refine VFrom.cons (VStep.val _ rfl _ rfl (.int .i64 c) rfl trivial (fun ev wq hS he hr => ?_)) ?_
    · have r0 : ev (.tmp 3) = .pointer (some ⟨N, 0, none⟩) := hr (3, some 0) (by simp); have hk := he.1; clear hr he
      have c0 := cell_c (HB.out.kept hS.out (fun h => h))
      go_simp
    refine VFrom.cons (VStep.call _ rfl _ rfl (.int .u64 z) rfl trivial 44 #[.int .i64 c] (fun ev wq hS he hr => ?_) (fun wq hS => ?_)) ?_
    · have r0 : ev (.tmp 4) = .int .i64 c := hr (4, some 1) (by simp); have hk := he.1; have hf := he.2; clear hr he
      go_simp
    · exact (CG.out wq).mono fun e w' ⟨h1, h2⟩ => ⟨h1, hS.out.trans h2 (fun _ _ h => h)⟩
    refine VFrom.cons (VStep.call _ rfl _ rfl (.string s1) rfl trivial 43 #[.int .u64 z] (fun ev wq hS he hr => ?_) (fun wq hS => ?_)) ?_
    · have r0 : ev (.tmp 5) = .int .u64 z := hr (5, some 2) (by simp); have hk := he.1; have hf := he.2; clear hr he
      go_simp
    · exact (CN.out wq).mono fun e w' ⟨h1, h2⟩ => ⟨h1, hS.out.trans h2 (fun _ _ h => h)⟩
    refine VFrom.cons (VStep.val _ rfl _ rfl (.pointer (some ⟨N, 1, none⟩)) rfl trivial (fun ev wq hS he hr => ?_)) ?_
    · have r0 : ev (.tmp 1) = .pointer (some ⟨N, 0, none⟩) := hr (1, none) (by simp); have hk := he.1; clear hr he
      go_simp
    refine VFrom.cons (VStep.val _ rfl _ rfl (.slice (some ⟨N, 1, none⟩) 16 16) rfl trivial (fun ev wq hS he hr => ?_)) ?_
    · have r0 : ev (.tmp 7) = .pointer (some ⟨N, 1, none⟩) := hr (7, some 4) (by simp); have hk := he.1; clear hr he
      go_simp
    refine VFrom.cons (VStep.val _ rfl _ rfl (.string s2) rfl trivial (fun ev wq hS he hr => ?_)) ?_
    · have r0 : ev (.tmp 8) = .slice (some ⟨N, 1, none⟩) 16 16 := hr (8, some 5) (by simp); have hk := he.1; clear hr he
      have e1 := conv_any (by_markAt (S := Nb) (HB.out.kept hS.out (fun h => h)) HM.out (fun h => h))
      rw [H2.out] at e1
      go_simp
    refine VFrom.cons (VStep.val _ rfl _ rfl (.string (s1 ++ s2)) rfl trivial (fun ev wq hS he hr => ?_)) ?_
    · have r0 : ev (.tmp 6) = .string s1 := hr (6, some 3) (by simp); have r1 : ev (.tmp 9) = .string s2 := hr (9, some 6) (by simp); have hk := he.1; clear hr he
      have e1 := SZ1.out
      go_simp
    refine VFrom.cons (VStep.val _ rfl _ rfl (.pointer (some ⟨N, 17, none⟩)) rfl trivial (fun ev wq hS he hr => ?_)) ?_
    · have r0 : ev (.tmp 1) = .pointer (some ⟨N, 0, none⟩) := hr (1, none) (by simp); have hk := he.1; clear hr he
      go_simp
    refine VFrom.cons (VStep.val _ rfl _ rfl (.int .u64 k) rfl trivial (fun ev wq hS he hr => ?_)) ?_
    · have r0 : ev (.tmp 11) = .pointer (some ⟨N, 17, none⟩) := hr (11, some 8) (by simp); have hk := he.1; clear hr he
      have c0 := cell_k HM.out.len (HB.out.kept hS.out (fun h => h))
      go_simp
    refine VFrom.cons (VStep.call _ rfl _ rfl (.string s3) rfl trivial 45 #[.int .u64 k] (fun ev wq hS he hr => ?_) (fun wq hS => ?_)) ?_
    · have r0 : ev (.tmp 12) = .int .u64 k := hr (12, some 9) (by simp); have hk := he.1; have hf := he.2; clear hr he
      go_simp
    · exact (CE.out wq).mono fun e w' ⟨h1, h2⟩ => ⟨h1, hS.out.trans h2 (fun _ _ h => h)⟩
    refine VFrom.cons (VStep.val _ rfl _ rfl (.string (s1 ++ s2 ++ s3)) rfl trivial (fun ev wq hS he hr => ?_)) ?_
    · have r0 : ev (.tmp 10) = .string (s1 ++ s2) := hr (10, some 7) (by simp); have r1 : ev (.tmp 13) = .string s3 := hr (13, some 10) (by simp); have hk := he.1; clear hr he
      have e1 := SZ2.out
      have e2 := SZ3.out
      go_simp
    refine VFrom.cons (VStep.val _ rfl _ rfl (.string (s1 ++ s2 ++ s3)) rfl trivial (fun ev wq hS he hr => ?_)) ?_
    · have r0 : ev (.tmp 14) = .string (s1 ++ s2 ++ s3) := hr (14, some 11) (by simp); have hk := he.1; clear hr he
      go_simp
    exact VFrom.nil
  case hS => exact hid ((Kp.refl Nb W).drew)
  case hend =>
    intro wy kh
    have K9 := hid (K0.out.trans kh.out (fun _ _ h => h))
    clear kh
    simp only [putAll, List.zip_cons_cons, List.zip_nil_right, List.foldl_cons, List.foldl_nil, Act.put, List.setIfInBounds_toArray, List.set_cons_zero, List.set_cons_succ]
    go_wp2
    go_ret
    exact ⟨by rw [HV.out, HT.out]; rfl, K9.out⟩

end Go.Proofs.Ytofjkaemakdmeaa
