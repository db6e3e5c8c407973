/-
  Layer 10: the walk of CellOrder: whatever the cells and the place, it is true. Conditions: cells are what their kinds hold. (Printed by gen_order10.py.)
-/
import Derived.Test.YtofjkaemakdmeaaCelI
import Derived.Test.YtofjkaemakdmeaaRowCut
namespace Go.Proofs.Ytofjkaemakdmeaa
open Go.RowKit

abbrev CSl (w : World) (v : Value) (l : List Cel) : Prop := RowsSl cl c0 18 w v l
theorem celOk_of {l : List Cel} (ho : ∀ q ∈ l, CelOk q) (i : Nat) : CelOk (celAt l i) := by
  unfold celAt
  cases hi : l[i]? with
  | none => exact c0_ok
  | some m => exact ho m (List.mem_of_getElem? hi)
theorem csum_c (v : Value) (l : List Cel) (w : World) (h : CSl w v l) (ho : ∀ q ∈ l, CelOk q) : Calls Try.prog 16 #[v] w fun e w' => e = .returned (cv (sumC l)) ∧ Kp Nb w w' :=
  csum_any v l w ⟨fun i => (celOk_of ho i).mark.len, h⟩
theorem reverse_at (l : List Cel) (j : Nat) (hj : j < l.length) : l.reverse[j]?.getD c0 = celAt l (l.length - 1 - j) := by
  unfold celAt
  rw [List.getElem?_reverse hj]
  rfl
def BackP (l : List Cel) (k : Nat) (vs : List Value) : Prop := vs.length = l.length * 18 ∧ ∀ j, l.length - k ≤ j → j < l.length → ∀ i, i < 18 → vs[j * 18 + i]? = (cl (celAt l (l.length - 1 - j)))[i]?
theorem BackP.next {l : List Cel} {k p : Nat} {vs : List Value} {x : Cel} (h : BackP l k vs) (hk : k < l.length) (hp : p = l.length - 1 - k) (hx : x = celAt l k) (ox : CelOk x) : BackP l (k + 1) (vs.take (p * 18) ++ cl x ++ vs.drop (p * 18 + (cl x).length)) := by
  have hl : (cl x).length = 18 := cl_length ox
  have hle : p * 18 + (cl x).length ≤ vs.length := by rw [h.1, hl]; omega
  refine ⟨by rw [part_len hle]; exact h.1, fun j h1 h2 i hi => ?_⟩
  rw [part_set hle, hl]
  by_cases e : j = p
  · subst e
    rw [if_pos ⟨by omega, by omega⟩, show j * 18 + i - j * 18 = i from by omega, hx, show l.length - 1 - j = k from by omega]
  · rw [if_neg (by omega)]
    exact h.2 j (by omega) h2 i hi
def BackR (w : World) (Bk : Nat) (l : List Cel) (i : Value) (wr : World) : Prop := ∃ k : Nat, k ≤ l.length ∧ i = .int .i64 k ∧ (∃ vs, Hid (Blk wr Bk 26 vs) ∧ Hid (BackP l k vs)) ∧ Hid (Kp Nb w wr)
theorem cell_zero : ∃ i z, Try.prog.info? 26 = some i ∧ i.zero = some z ∧ i.size = 18 ∧ i.bytes = 32 := by
  have h : ((Try.prog.info? 26).map fun i => (i.zero.isSome, i.size, i.bytes)) = some (true, 18, 32) := by kernel_rfl
  obtain ⟨i, hi, h2⟩ := Option.map_eq_some_iff.1 h
  simp only [Prod.mk.injEq] at h2
  obtain ⟨z, hz⟩ := Option.isSome_iff_exists.1 h2.1
  exact ⟨i, z, hi, hz, h2.2.1, h2.2.2⟩
theorem make_cells (w : World) (n : Nat) (hn : n ≤ 1000000) : ∃ zs : List Value, zs.length = n * 18 ∧ (Instr.makeSlice 27 (.int .i64 (n : Int)) (.int .i64 (n : Int))).run Try.prog w = .ok (.slice (some ⟨w.heap.size, 0, none⟩) n n) (w.alloc (.cells zs.toArray 26)) := by
  obtain ⟨i, z, h1, h2, h3, h4⟩ := cell_zero
  refine ⟨(madeCells z.cells (n * 18)).toList, by rw [Array.length_toList, size_madeCells], ?_⟩
  have h := run_make (P := Try.prog) w _ _ i z Try.underlying27 h1 h2 .i64 .i64 n n (by omega) (Int.le_refl _) (by rw [h4]; omega) (by omega)
  rw [Int.toNat_natCast, h3] at h
  exact h

set_option maxRecDepth 100000 in
set_option maxHeartbeats 4000000 in
theorem corder_any (v : Value) (n0 : Int) (l : List Cel) (w : World) (h : CSl w v l) (ho : ∀ q ∈ l, CelOk q) :
    Calls Try.prog 6 #[v, .int .i64 n0] w fun e w' => e = .returned (.bool true) ∧ Kp Nb w w' := by
  obtain ⟨y, d, rfl⟩ := h.shape
  have HL := hid h
  have HO := hid ho
  clear h ho
  go_enter Try.func6, Try.ntmps6
  go_wp2_with fail
  refine (cfirst_any _).mono ?_
  rintro e w1 ⟨rfl, k1⟩
  have K1 := hid k1
  clear k1
  by_cases hl : 60 < l.length
  · have d1 : decide (60 < (l.length : Int)) = true := decide_eq_true (by omega)
    go_wp2
    go_ret
    exact ⟨rfl, K1.out⟩
  have d1 : decide (60 < (l.length : Int)) = false := decide_eq_false (by omega)
  have HN := hid (Nat.not_lt.1 hl)
  obtain ⟨kn, hk⟩ : ∃ kn : Nat, max 0 (min n0 (l.length : Int)) = (kn : Int) := ⟨(max 0 (min n0 (l.length : Int))).toNat, by omega⟩
  have KN : Hid (kn ≤ l.length) := hid (by omega)
  clear hl
  obtain ⟨zs, hz, MK⟩ := make_cells w1 l.length (by have := HN.out; omega)
  have B0 := hid (Blk.new w1 26 zs)
  have K2 := hid (K1.out.alloc (.cells zs.toArray 26))
  have HZ := hid hz
  clear hz
  go_wp2
  obtain ⟨Bk, hBk⟩ : ∃ Bk, w1.heap.size = Bk := ⟨_, rfl⟩
  rw [hBk] at B0 ⊢
  have LB : Hid (w.heap.size ≤ Bk) := hid (by rw [← hBk]; exact K1.out.size)
  clear MK hBk K1
  go_loopw [25] (BackR w Bk l) (fun i _ => l.length - (intOf i).toNat)
  case atStart => exact ⟨0, by omega, rfl, ⟨zs, B0, HZ.out, fun j h1 h2 => by omega⟩, K2⟩
  case round =>
    clear B0 K2 HZ
    obtain ⟨k, hk', rfl, ⟨vs, HV, HP⟩, HK⟩ := hrel
    by_cases hlt : k < l.length
    · rcases (HL.out.kept HK.out) with ⟨_, e0⟩ | ⟨blk, off, cap, e1, hc, hm, hcell⟩
      · rw [e0] at hlt
        exact absurd hlt (Nat.not_lt_zero _)
      · injection e1 with e1 _ e2
        subst e1 e2
        obtain ⟨p, hp⟩ : ∃ p, p = l.length - 1 - k := ⟨_, rfl⟩
        have hpl : p < l.length := by omega
        have HR := hid (show wr.rangeAt blk (off + k * 18) (cl (celAt l k)) from hcell k hlt)
        have O1 := hid (celOk_of HO.out k)
        obtain ⟨x, hx⟩ : ∃ x, x = celAt l k := ⟨_, rfl⟩
        have HP2 := hid (BackP.next HP.out hlt hp hx (by rw [hx]; exact O1.out))
        rw [← hx] at HR O1
        unfold maxLen at hm
        have E1 : IntKind.i64.wrap ((l.length : Int) - 1) = ((l.length - 1 : Nat) : Int) := by rw [IntKind.wrap_i64]; have := HN.out; omega
        have E2 : IntKind.i64.wrap (((l.length - 1 : Nat) : Int) - (k : Int)) = (p : Int) := by rw [IntKind.wrap_i64]; have := HN.out; omega
        have PZ : (0 : Int) ≤ (p : Int) := by omega
        have PL : (p : Int) < (l.length : Int) := by omega
        have PT : ((p : Nat) : Int).toNat = p := by omega
        have HVL : Hid (p * 18 + 18 ≤ vs.length) := hid (by rw [HP.out.1]; omega)
        generalize l.length - 1 = n1 at E1 E2
        obtain ⟨N, hN⟩ : ∃ N, N = wr.heap.size := ⟨_, rfl⟩
        have hz := Blk.new wr 26 (cl c0)
        obtain ⟨W, hW⟩ : ∃ W, W = (wr.alloc (.cells (cl c0).toArray 26)).setCells wr.heap.size 0 (cl x) := ⟨_, rfl⟩
        have kW : Kp Nb wr W := by rw [hW]; exact Kp.setCells (fun h => absurd h (Nat.lt_irrefl _)) _ 0 _ ((Kp.refl Nb wr).alloc _)
        have TH := hid (cell_there hz (cl_length c0_ok) O1.out)
        have SI := hid (cell_sized O1.out)
        have ON := hid (all_oneCell_toArray (cellL_one x.1 x.2.1 x.2.2))
        have HZ : Hid (Blk W N 26 (cl x)) := hid (by rw [hW, hN]; exact row_set hz (by rw [cl_length c0_ok, cl_length O1.out]))
        have HB1 := hid (HV.out.kept kW (fun h => h))
        have HK2 := hid (HK.out.trans kW (fun _ _ h => h))
        have TB : Hid (W.there Bk (p * 18) (cl x).toArray.size) := hid (by rw [List.size_toArray, cl_length O1.out]; exact HB1.out.there _ _ HVL.out)
        have HA3 := hid (Blk.setCells (cl x) (p * 18) W vs HB1.out (by rw [cl_length O1.out]; exact HVL.out))
        have HK3 : Hid (Kp Nb w (W.setCells Bk (p * 18) (cl x))) := hid (Kp.setCells (fun h => by have := LB.out; omega) _ _ _ HK2.out)
        have DU := cell_under
        obtain ⟨du, hu, hd⟩ := DU
        have HU := hid hu
        have CI := hid (cell_infoL x.1 x.2.1 x.2.2 O1.out.mark.len)
        clear hz kW hcell hp hpl hx hu
        go_upto_region 10 with (first
          | (refine wpList_load_mid (by rfl) 26 (.tmp 28) (by rfl) blk (off + k * 18) (by rfl) (cl x) du HR.out HU.out hd CI.out ?_)
          | (refine wpList_store_mid (by rfl) 26 (.tmp 8) (.tmp 29) (by rfl) wr.heap.size 0 (cl x).toArray (by rfl) (by rfl) TH.out SI.out ON.out ?_))
        rw [show (wr.alloc (.cells #[.int .i64 0, .int .u8 0, .int .u8 0, .int .u8 0, .int .u8 0, .int .u8 0, .int .u8 0, .int .u8 0, .int .u8 0, .int .u8 0, .int .u8 0, .int .u8 0, .int .u8 0, .int .u8 0, .int .u8 0, .int .u8 0, .int .u8 0, .int .u64 0] 26)).setCells wr.heap.size 0 (cl x) = W from hW.symm, ← hN]
        clear hW hN TH
        go_wp2_with (first
          | (refine wpList_load_mid (by rfl) 26 (.tmp 8) (by rfl) N 0 (by rfl) (cl x) du (range_of HZ.out) HU.out hd CI.out ?_)
          | (refine wpList_store_mid (by rfl) 26 (.tmp 37) (.tmp 36) (by rfl) Bk (p * 18) (cl x).toArray (by rfl) (by rfl) TB.out SI.out ON.out ?_))
        go_roundw
        case rel => exact ⟨k + 1, by omega, by go_num, ⟨_, HA3, HP2⟩, HK3⟩
        case measure => simp [intOf]; omega
    · obtain rfl : k = l.length := by omega
      clear hk' hlt
      have HS := hid (HL.out.kept HK.out)
      have HB : Hid (CSl wr (.slice (some ⟨Bk, 0, none⟩) l.length l.length) l.reverse) := hid (RowsSl.of_blk HV.out (by simp) (by unfold maxLen; have := HN.out; omega) (fun i hi j hj => by
        rw [reverse_at l i hi] at hj ⊢
        rw [cl_length (celOk_of HO.out _)] at hj
        exact HP.out.2 i (by omega) hi j hj))
      clear HV HP
      go_wp2_with fail
      obtain ⟨S, hS⟩ : ∃ S, S = sumC l := ⟨_, rfl⟩
      have SO : Hid (CelOk S) := hid (by rw [hS]; exact sumC_ok l)
      have h0 := csum_c _ l _ HS.out HO.out
      rw [← hS] at h0
      have HSE := hid hS
      clear hS
      refine h0.mono ?_
      clear h0
      rintro e w3 ⟨rfl, k3⟩
      have HS3 := hid (HS.out.kept k3)
      have HB3 := hid (HB.out.kept k3)
      have hz := Blk.new w3 26 (cl c0)
      obtain ⟨W, hW⟩ : ∃ W, W = (w3.alloc (.cells (cl c0).toArray 26)).setCells w3.heap.size 0 (cl S) := ⟨_, rfl⟩
      have kW : Kp Nb w3 W := by rw [hW]; exact Kp.setCells (fun h => absurd h (Nat.lt_irrefl _)) _ 0 _ ((Kp.refl Nb w3).alloc _)
      have TH := hid (cell_there hz (cl_length c0_ok) SO.out)
      have SI := hid (cell_sized SO.out)
      have ON := hid (all_oneCell_toArray (cellL_one S.1 S.2.1 S.2.2))
      have H9 : Hid (Blk W w3.heap.size 26 (cl S)) := hid (by rw [hW]; exact row_set hz (by rw [cl_length c0_ok, cl_length SO.out]))
      have HSW := hid (HS3.out.kept kW)
      have HBW := hid (HB3.out.kept kW)
      have KW := hid ((HK.out.trans k3 (fun _ _ h => h)).trans kW (fun _ _ h => h))
      clear k3 hz kW HS HB HS3 HB3 HK
      go_upto_region 13 with (refine wpList_store_mid (by rfl) 26 (.tmp 9) (.tmp 40) (by rfl) w3.heap.size 0 (cl S).toArray (by rfl) (by rfl) TH.out SI.out ON.out ?_)
      rw [show (w3.alloc (.cells #[.int .i64 0, .int .u8 0, .int .u8 0, .int .u8 0, .int .u8 0, .int .u8 0, .int .u8 0, .int .u8 0, .int .u8 0, .int .u8 0, .int .u8 0, .int .u8 0, .int .u8 0, .int .u8 0, .int .u8 0, .int .u8 0, .int .u8 0, .int .u64 0] 26)).setCells w3.heap.size 0 (cl S) = W from hW.symm]
      generalize w3.heap.size = N at *
      clear hW TH SI ON
      have hS := HSE.out
      obtain ⟨xh, dh, VH, RH⟩ := HSW.out.cutH Try.underlying27 cell_info kn KN.out
      obtain ⟨xl, dl, VL, RL⟩ := HSW.out.cutL Try.underlying27 cell_info kn KN.out
      have HVH := hid VH
      have HVL := hid VL
      have HRH := hid RH
      have HRL := hid RL
      have OT : ∀ q ∈ l.take kn, CelOk q := fun q hq => HO.out q (List.mem_of_mem_take hq)
      have OD : ∀ q ∈ l.drop kn, CelOk q := fun q hq => HO.out q (List.mem_of_mem_drop hq)
      have OR : ∀ q ∈ l.reverse, CelOk q := fun q hq => HO.out q (List.mem_reverse.1 hq)
      have eR : sumC l.reverse = S := by rw [hS]; exact sumC_reverse l HO.out
      obtain ⟨SH, hSH⟩ : ∃ z, z = sumC (l.take kn) := ⟨_, rfl⟩
      obtain ⟨SL, hSL⟩ : ∃ z, z = sumC (l.drop kn) := ⟨_, rfl⟩
      have OSH : CelOk SH := by rw [hSH]; exact sumC_ok _
      have OSL : CelOk SL := by rw [hSL]; exact sumC_ok _
      have eA : addC SH SL = S := by rw [hS, hSH, hSL, ← sumC_append _ _ OD, List.take_append_drop]
      have CSB : Hid (∀ wq, CSl wq (.slice (some ⟨Bk, 0, none⟩) l.length l.length) l.reverse → Calls Try.prog 16 #[.slice (some ⟨Bk, 0, none⟩) l.length l.length] wq fun e w' => e = .returned (cv S) ∧ Kp Nb wq w') := hid (fun wq hq => by have h := csum_c _ l.reverse wq hq OR; rw [eR] at h; exact h)
      have CSH : Hid (∀ wq, CSl wq (.slice xh kn dh) (l.take kn) → Calls Try.prog 16 #[.slice xh kn dh] wq fun e w' => e = .returned (cv SH) ∧ Kp Nb wq w') := hid (fun wq hq => by rw [hSH]; exact csum_c _ _ wq hq OT)
      have CSL : Hid (∀ wq, CSl wq (.slice xl (l.length - kn) dl) (l.drop kn) → Calls Try.prog 16 #[.slice xl (l.length - kn) dl] wq fun e w' => e = .returned (cv SL) ∧ Kp Nb wq w') := hid (fun wq hq => by rw [hSL]; exact csum_c _ _ wq hq OD)
      have CAD : Hid (∀ w, Calls Try.prog 14 #[cv SH, cv SL] w fun e w' => e = .returned (cv S) ∧ Kp Nb w w') := hid (fun w => by rw [← eA]; exact cadd_c SH SL w OSH OSL)
      have CSU : Hid (∀ w, Calls Try.prog 15 #[cv S, cv SL] w fun e w' => e = .returned (cv SH) ∧ Kp Nb w w') := hid (fun w => by have h := csub_c S SL w SO.out OSL; rw [show subC S SL = SH from by rw [← eA]; exact subC_back OSH OSL] at h; exact h)
      have ES := hid (eq_cell S SO.out)
      have EH := hid (eq_cell SH OSH)
      clear VH VL RH RL OT OD OR eR hSH hSL OSH OSL eA hS hk HL LB HN d1
      refine region_vals2 [none, none, none, none, some 30, none, none, none, none, none, none, none, none, none, none, none, none, none, none, none, none, none, none, none, none, none, none, none, none, none, none, none, none, none, none, none, none, none, none, none, none, some 0, some 1, some 2, some 3, some 4, some 5, some 6, some 7, some 8, some 9, some 10, some 11, some 12, some 13, some 14, some 15, some 16, some 17, some 18, some 19, some 20, some 21, some 22, some 23, some 24, some 25, some 26, some 27, some 28, some 29] [[(9, none)], [(6, none)], [(42, some 1)], [(41, some 0), (43, some 2)], [(44, some 3)], [(9, none)], [(0, none)], [(5, none)], [(47, some 6), (48, some 7)], [(49, some 8)], [(0, none)], [(5, none)], [(51, some 10), (52, some 11)], [(53, some 12)], [(50, some 9), (54, some 13)], [(46, some 5), (55, some 14)], [(45, some 4), (56, some 15)], [(57, some 16)], [(9, none)], [(0, none)], [(5, none)], [(60, some 19), (61, some 20)], [(62, some 21)], [(59, some 18), (63, some 22)], [(0, none)], [(5, none)], [(65, some 24), (66, some 25)], [(67, some 26)], [(64, some 23), (68, some 27)], [(58, some 17), (69, some 28)], [(70, some 29)]] [some 41, some 42, some 43, some 44, some 45, some 46, some 47, some 48, some 49, some 50, some 51, some 52, some 53, some 54, some 55, some 56, some 57, some 58, some 59, some 60, some 61, some 62, some 63, some 64, some 65, some 66, some 67, some 68, some 69, some 70, some 4] [cv S, .slice (some ⟨Bk, 0, none⟩) l.length l.length, cv S, .bool true, .bool true, cv S, .slice y l.length d, .int .i64 (kn : Int), .slice xh kn dh, cv SH, .slice y l.length d, .int .i64 (kn : Int), .slice xl (l.length - kn) dl, cv SL, cv S, .bool true, .bool true, .bool true, cv S, .slice y l.length d, .int .i64 (kn : Int), .slice xl (l.length - kn) dl, cv SL, cv SH, .slice y l.length d, .int .i64 (kn : Int), .slice xh kn dh, cv SH, .bool true, .bool true, .bool true] (fun w' => Hid (Kp Nb W w')) (by kernel_rfl) (by kernel_rfl) (by kernel_rfl) ?hS (VFrom.all (n := 31) (by kernel_rfl) ?hstep) ?hend
      case hstep =>
        refine VFrom.cons (VStep.val _ rfl _ rfl (cv S) rfl trivial (fun ev wq hS he hr => ?_)) ?_
        · have r0 : ev (.tmp 9) = .pointer (some ⟨N, 0, none⟩) := hr (9, none) (by simp); have hk := he.1; clear hr he
          exact exec_load rfl r0 (load_cell SO.out (range_of (H9.out.kept hS.out (fun h => h))))
        refine VFrom.cons (VStep.val _ rfl _ rfl (.slice (some ⟨Bk, 0, none⟩) l.length l.length) rfl trivial (fun ev wq hS he hr => ?_)) ?_
        · have r0 : ev (.tmp 6) = .slice (some ⟨Bk, 0, none⟩) l.length l.length := hr (6, none) (by simp); have hk := he.1; clear hr he
          go_simp
        refine VFrom.cons (VStep.call _ rfl _ rfl (cv S) rfl trivial 16 #[.slice (some ⟨Bk, 0, none⟩) l.length l.length] (fun ev wq hS he hr => ?_) (fun wq hS => ?_)) ?_
        · have r0 : ev (.tmp 42) = .slice (some ⟨Bk, 0, none⟩) l.length l.length := hr (42, some 1) (by simp); have hk := he.1; have hf := he.2; clear hr he
          go_simp
        · exact (CSB.out wq (HBW.out.kept hS.out)).mono fun e w' ⟨h1, h2⟩ => ⟨h1, hS.out.trans h2 (fun _ _ h => h)⟩
        refine VFrom.cons (VStep.val _ rfl _ rfl (.bool true) rfl trivial (fun ev wq hS he hr => ?_)) ?_
        · have r0 : ev (.tmp 41) = cv S := hr (41, some 0) (by simp); have r1 : ev (.tmp 43) = cv S := hr (43, some 2) (by simp); have hk := he.1; clear hr he
          exact exec_eqlCell rfl r0 r1 (ES.out wq)
        refine VFrom.cons (VStep.val _ rfl _ rfl (.bool true) rfl trivial (fun ev wq hS he hr => ?_)) ?_
        · have r0 : ev (.tmp 44) = .bool true := hr (44, some 3) (by simp); have hk := he.1; clear hr he
          go_simp
        refine VFrom.cons (VStep.val _ rfl _ rfl (cv S) rfl rfl (fun ev wq hS he hr => ?_)) ?_
        · have r0 : ev (.tmp 9) = .pointer (some ⟨N, 0, none⟩) := hr (9, none) (by simp); have hk := he.1; clear hr he
          exact exec_load rfl r0 (load_cell SO.out (range_of (H9.out.kept hS.out (fun h => h))))
        refine VFrom.cons (VStep.val _ rfl _ rfl (.slice y l.length d) rfl rfl (fun ev wq hS he hr => ?_)) ?_
        · have r0 : ev (.tmp 0) = .slice y l.length d := hr (0, none) (by simp); have hk := he.1; clear hr he
          go_simp
        refine VFrom.cons (VStep.val _ rfl _ rfl (.int .i64 (kn : Int)) rfl rfl (fun ev wq hS he hr => ?_)) ?_
        · have r0 : ev (.tmp 5) = .int .i64 (kn : Int) := hr (5, none) (by simp); have hk := he.1; clear hr he
          go_simp
        refine VFrom.cons (VStep.val _ rfl _ rfl (.slice xh kn dh) rfl rfl (fun ev wq hS he hr => ?_)) ?_
        · have r0 : ev (.tmp 47) = .slice y l.length d := hr (47, some 6) (by simp); have r1 : ev (.tmp 48) = .int .i64 (kn : Int) := hr (48, some 7) (by simp); have hk := he.1; clear hr he
          have e1 := HVH.out
          go_simp
        refine VFrom.cons (VStep.call _ rfl _ rfl (cv SH) rfl rfl 16 #[.slice xh kn dh] (fun ev wq hS he hr => ?_) (fun wq hS => ?_)) ?_
        · have r0 : ev (.tmp 49) = .slice xh kn dh := hr (49, some 8) (by simp); have hk := he.1; have hf := he.2; clear hr he
          go_simp
        · exact (CSH.out wq (HRH.out.kept hS.out)).mono fun e w' ⟨h1, h2⟩ => ⟨h1, hS.out.trans h2 (fun _ _ h => h)⟩
        refine VFrom.cons (VStep.val _ rfl _ rfl (.slice y l.length d) rfl rfl (fun ev wq hS he hr => ?_)) ?_
        · have r0 : ev (.tmp 0) = .slice y l.length d := hr (0, none) (by simp); have hk := he.1; clear hr he
          go_simp
        refine VFrom.cons (VStep.val _ rfl _ rfl (.int .i64 (kn : Int)) rfl rfl (fun ev wq hS he hr => ?_)) ?_
        · have r0 : ev (.tmp 5) = .int .i64 (kn : Int) := hr (5, none) (by simp); have hk := he.1; clear hr he
          go_simp
        refine VFrom.cons (VStep.val _ rfl _ rfl (.slice xl (l.length - kn) dl) rfl rfl (fun ev wq hS he hr => ?_)) ?_
        · have r0 : ev (.tmp 51) = .slice y l.length d := hr (51, some 10) (by simp); have r1 : ev (.tmp 52) = .int .i64 (kn : Int) := hr (52, some 11) (by simp); have hk := he.1; clear hr he
          have e1 := HVL.out
          go_simp
        refine VFrom.cons (VStep.call _ rfl _ rfl (cv SL) rfl rfl 16 #[.slice xl (l.length - kn) dl] (fun ev wq hS he hr => ?_) (fun wq hS => ?_)) ?_
        · have r0 : ev (.tmp 53) = .slice xl (l.length - kn) dl := hr (53, some 12) (by simp); have hk := he.1; have hf := he.2; clear hr he
          go_simp
        · exact (CSL.out wq (HRL.out.kept hS.out)).mono fun e w' ⟨h1, h2⟩ => ⟨h1, hS.out.trans h2 (fun _ _ h => h)⟩
        refine VFrom.cons (VStep.call _ rfl _ rfl (cv S) rfl rfl 14 #[cv SH, cv SL] (fun ev wq hS he hr => ?_) (fun wq hS => ?_)) ?_
        · have r0 : ev (.tmp 50) = cv SH := hr (50, some 9) (by simp); have r1 : ev (.tmp 54) = cv SL := hr (54, some 13) (by simp); have hk := he.1; have hf := he.2; clear hr he
          go_simp
        · exact (CAD.out wq).mono fun e w' ⟨h1, h2⟩ => ⟨h1, hS.out.trans h2 (fun _ _ h => h)⟩
        refine VFrom.cons (VStep.val _ rfl _ rfl (.bool true) rfl rfl (fun ev wq hS he hr => ?_)) ?_
        · have r0 : ev (.tmp 46) = cv S := hr (46, some 5) (by simp); have r1 : ev (.tmp 55) = cv S := hr (55, some 14) (by simp); have hk := he.1; clear hr he
          exact exec_eqlCell rfl r0 r1 (ES.out wq)
        refine VFrom.cons (VStep.val _ rfl _ rfl (.bool true) rfl trivial (fun ev wq hS he hr => ?_)) ?_
        · have r0 : ev (.tmp 45) = .bool true := hr (45, some 4) (by simp); have r1 : ev (.tmp 56) = .bool true := hr (56, some 15) (by simp); have hk := he.1; clear hr he
          go_simp
        refine VFrom.cons (VStep.val _ rfl _ rfl (.bool true) rfl trivial (fun ev wq hS he hr => ?_)) ?_
        · have r0 : ev (.tmp 57) = .bool true := hr (57, some 16) (by simp); have hk := he.1; clear hr he
          go_simp
        refine VFrom.cons (VStep.val _ rfl _ rfl (cv S) rfl rfl (fun ev wq hS he hr => ?_)) ?_
        · have r0 : ev (.tmp 9) = .pointer (some ⟨N, 0, none⟩) := hr (9, none) (by simp); have hk := he.1; clear hr he
          exact exec_load rfl r0 (load_cell SO.out (range_of (H9.out.kept hS.out (fun h => h))))
        refine VFrom.cons (VStep.val _ rfl _ rfl (.slice y l.length d) rfl rfl (fun ev wq hS he hr => ?_)) ?_
        · have r0 : ev (.tmp 0) = .slice y l.length d := hr (0, none) (by simp); have hk := he.1; clear hr he
          go_simp
        refine VFrom.cons (VStep.val _ rfl _ rfl (.int .i64 (kn : Int)) rfl rfl (fun ev wq hS he hr => ?_)) ?_
        · have r0 : ev (.tmp 5) = .int .i64 (kn : Int) := hr (5, none) (by simp); have hk := he.1; clear hr he
          go_simp
        refine VFrom.cons (VStep.val _ rfl _ rfl (.slice xl (l.length - kn) dl) rfl rfl (fun ev wq hS he hr => ?_)) ?_
        · have r0 : ev (.tmp 60) = .slice y l.length d := hr (60, some 19) (by simp); have r1 : ev (.tmp 61) = .int .i64 (kn : Int) := hr (61, some 20) (by simp); have hk := he.1; clear hr he
          have e1 := HVL.out
          go_simp
        refine VFrom.cons (VStep.call _ rfl _ rfl (cv SL) rfl rfl 16 #[.slice xl (l.length - kn) dl] (fun ev wq hS he hr => ?_) (fun wq hS => ?_)) ?_
        · have r0 : ev (.tmp 62) = .slice xl (l.length - kn) dl := hr (62, some 21) (by simp); have hk := he.1; have hf := he.2; clear hr he
          go_simp
        · exact (CSL.out wq (HRL.out.kept hS.out)).mono fun e w' ⟨h1, h2⟩ => ⟨h1, hS.out.trans h2 (fun _ _ h => h)⟩
        refine VFrom.cons (VStep.call _ rfl _ rfl (cv SH) rfl rfl 15 #[cv S, cv SL] (fun ev wq hS he hr => ?_) (fun wq hS => ?_)) ?_
        · have r0 : ev (.tmp 59) = cv S := hr (59, some 18) (by simp); have r1 : ev (.tmp 63) = cv SL := hr (63, some 22) (by simp); have hk := he.1; have hf := he.2; clear hr he
          go_simp
        · exact (CSU.out wq).mono fun e w' ⟨h1, h2⟩ => ⟨h1, hS.out.trans h2 (fun _ _ h => h)⟩
        refine VFrom.cons (VStep.val _ rfl _ rfl (.slice y l.length d) rfl rfl (fun ev wq hS he hr => ?_)) ?_
        · have r0 : ev (.tmp 0) = .slice y l.length d := hr (0, none) (by simp); have hk := he.1; clear hr he
          go_simp
        refine VFrom.cons (VStep.val _ rfl _ rfl (.int .i64 (kn : Int)) rfl rfl (fun ev wq hS he hr => ?_)) ?_
        · have r0 : ev (.tmp 5) = .int .i64 (kn : Int) := hr (5, none) (by simp); have hk := he.1; clear hr he
          go_simp
        refine VFrom.cons (VStep.val _ rfl _ rfl (.slice xh kn dh) rfl rfl (fun ev wq hS he hr => ?_)) ?_
        · have r0 : ev (.tmp 65) = .slice y l.length d := hr (65, some 24) (by simp); have r1 : ev (.tmp 66) = .int .i64 (kn : Int) := hr (66, some 25) (by simp); have hk := he.1; clear hr he
          have e1 := HVH.out
          go_simp
        refine VFrom.cons (VStep.call _ rfl _ rfl (cv SH) rfl rfl 16 #[.slice xh kn dh] (fun ev wq hS he hr => ?_) (fun wq hS => ?_)) ?_
        · have r0 : ev (.tmp 67) = .slice xh kn dh := hr (67, some 26) (by simp); have hk := he.1; have hf := he.2; clear hr he
          go_simp
        · exact (CSH.out wq (HRH.out.kept hS.out)).mono fun e w' ⟨h1, h2⟩ => ⟨h1, hS.out.trans h2 (fun _ _ h => h)⟩
        refine VFrom.cons (VStep.val _ rfl _ rfl (.bool true) rfl rfl (fun ev wq hS he hr => ?_)) ?_
        · have r0 : ev (.tmp 64) = cv SH := hr (64, some 23) (by simp); have r1 : ev (.tmp 68) = cv SH := hr (68, some 27) (by simp); have hk := he.1; clear hr he
          exact exec_eqlCell rfl r0 r1 (EH.out wq)
        refine VFrom.cons (VStep.val _ rfl _ rfl (.bool true) rfl trivial (fun ev wq hS he hr => ?_)) ?_
        · have r0 : ev (.tmp 58) = .bool true := hr (58, some 17) (by simp); have r1 : ev (.tmp 69) = .bool true := hr (69, some 28) (by simp); have hk := he.1; clear hr he
          go_simp
        refine VFrom.cons (VStep.val _ rfl _ rfl (.bool true) rfl trivial (fun ev wq hS he hr => ?_)) ?_
        · have r0 : ev (.tmp 70) = .bool true := hr (70, some 29) (by simp); have hk := he.1; clear hr he
          go_simp
        exact VFrom.nil
      case hS => exact hid ((Kp.refl Nb W).drew)
      case hend =>
        intro wy kh
        have K9 := hid (KW.out.trans kh.out (fun _ _ h => h))
        clear kh
        simp only [putAll, List.zip_cons_cons, List.zip_nil_right, List.foldl_cons, List.foldl_nil, Act.put, List.setIfInBounds_toArray, List.set_cons_zero, List.set_cons_succ]
        go_wp2
        go_ret
        exact ⟨rfl, K9.out⟩

end Go.Proofs.Ytofjkaemakdmeaa
