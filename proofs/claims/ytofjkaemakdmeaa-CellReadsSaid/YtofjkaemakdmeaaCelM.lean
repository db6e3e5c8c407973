/-
  Layer 10: the walk of CellTells: whatever the cells, the mark and the cells' list, it is true. Conditions: cells and marks are what their kinds hold. (Printed by gen_tells10.py.)
-/
import Derived.Test.YtofjkaemakdmeaaCelL
import Derived.Test.YtofjkaemakdmeaaCelJ
namespace Go.Proofs.Ytofjkaemakdmeaa
open Go.RowKit

theorem case_l {w : World} {B t : Nat} {a b c : Cel} {m : List Int} {vl vm : Value} (ha : CelOk a) (hb : CelOk b) (hc : CelOk c) (hm : MarkOk m) (h : Blk w B t (caseL a b c m vl vm)) : w.cell? ⟨B, 70, none⟩ = some vl := by
  have hr : w.rangeAt B 70 [vl, vm] := h.range 70 _ (app_right (k := 52) (cl_length ha) (app_right (k := 34) (cl_length hb) (app_right (k := 16) (cl_length hc) (app_right (n := 16) (k := 0) (by rw [markL_length, hm.len]) (fun j hj => by rw [Nat.zero_add])))))
  exact hr 0 vl rfl
def tellT : Nat → TypeId | 2 => 23 | _ => 26
def tellZ : Nat → List Value | 2 => markL (List.replicate 16 0) | _ => cl c0
def tellV (a b : Cel) (m : List Int) : Nat → List Value | 0 => cl a | 1 => cl b | _ => markL m
theorem sum_snoc (l : List Cel) (k : Nat) (h : k < l.length) : sumC (l.take (k + 1)) = signC 1 (sumC (l.take k)) (celAt l k) := by rw [signC_one]; exact sumC_snoc l k h
def TellR (w4 : World) (B : Nat) (l : List Cel) (i : Value) (wr : World) : Prop := ∃ k : Nat, k ≤ l.length ∧ i = .int .i64 k ∧ Hid (Blk wr B 26 (cl (sumC (l.take k)))) ∧ Hid (Kp (Jb B) w4 wr)

set_option maxRecDepth 100000 in
set_option maxHeartbeats 4000000 in
theorem ctells_any (a b c : Cel) (m : List Int) (vl vm : Value) (l : List Cel) (w : World) (ha : CelOk a) (hb : CelOk b) (hc : CelOk c) (hm : MarkOk m) (hs : CSl w vl l) (ho : ∀ q ∈ l, CelOk q) :
    Calls Try.prog 3 #[caseV a b c m vl vm] w fun e w' => e = .returned (.bool true) ∧ Kp Nb w w' := by
  obtain ⟨y, d, rfl⟩ := hs.shape
  have HA := hid ha
  have HB := hid hb
  have HC := hid hc
  have HM := hid hm
  have HS := hid hs
  have HO := hid ho
  clear ha hb hc hm hs ho
  obtain ⟨cs, hcs⟩ : ∃ cs, cs = caseL a b c m (.slice y l.length d) vm := ⟨_, rfl⟩
  rw [show caseV a b c m (.slice y l.length d) vm = .agg cs.toArray from by rw [hcs]]
  have HD := hid (Blk.new w 30 cs)
  have KD := hid ((Kp.refl Nb w).alloc (.cells cs.toArray 30))
  have HCS := hid hcs
  clear hcs
  go_enter Try.func3, Try.ntmps3
  go_wp2_with fail
  refine (cfirst_any _).mono ?_
  rintro e w1 ⟨rfl, k1⟩
  have h1 := HD.out.kept k1 (fun h => h)
  rw [HCS.out] at h1
  have H1 := hid h1
  have K1 := hid (KD.out.trans k1 (fun _ _ h => h))
  have HS1 := hid (HS.out.kept K1.out)
  clear HD KD k1 h1
  go_wp2_with fail
  obtain ⟨D, hD⟩ : ∃ D, w.heap.size = D := ⟨_, rfl⟩
  rw [hD] at H1 ⊢
  have HDD := hid hD
  clear hD
  refine region_ghost (g0 := (fun _ => 0)) [none, none, none, some 8, some 9, some 10, some 14, none, none, none, none, none, some 0, some 1, some 2, some 3, some 4, some 5, some 6, some 7, none, none, none, none, none, none, none, none, none, none, none, none, none, none, none, none, none, none, none, none, none, none, none, none, none, none, none, none, none, none, none, none, none, none, none, none, none, none, none, none, none, none, none, none, none, none, none, none, none, none, none, none, none, none, none, none, none, none, none, none, none, none, none] [[(1, none)], [(12, some 0)], [(1, none)], [(14, some 2)], [(1, none)], [(16, some 4)], [(1, none)], [(18, some 6)], [], [], [], [(3, some 8), (13, some 1)], [(4, some 9), (15, some 3)], [(5, some 10), (17, some 5)], [(19, some 7)]] [some 12, some 13, some 14, some 15, some 16, some 17, some 18, some 19, some 3, some 4, some 5, none, none, none, some 6] (fun g => [.pointer (some ⟨D, 0, none⟩), cv a, .pointer (some ⟨D, 18, none⟩), cv b, .pointer (some ⟨D, 54, none⟩), markV m, .pointer (some ⟨D, 70, none⟩), .slice y l.length d, .pointer (some ⟨(g 0), 0, none⟩), .pointer (some ⟨(g 1), 0, none⟩), .pointer (some ⟨(g 2), 0, none⟩), undef, undef, undef, .slice y l.length d]) [8, 9, 10, 11, 12, 13] (fun bs g wq => Hid (VarsS w1 3 tellT tellZ (tellV a b m) bs g wq)) (by kernel_rfl) (by kernel_rfl) (fun g => by kernel_rfl) (by kernel_rfl) ?hS (GFrom.all (n := 15) (by kernel_rfl) ?hstep) ?hend
  case hstep =>
    refine GFrom.cons (GStep.val _ rfl rfl _ rfl (fun g => .pointer (some ⟨D, 0, none⟩)) (fun _ => rfl) (fun _ => trivial) (fun bs g ev wq hS he hr => ?_)) ?_
    · have r0 : ev (.tmp 1) = .pointer (some ⟨D, 0, none⟩) := hr (1, none) (by simp); have hk := he.1; clear hr he
      go_simp
    refine GFrom.cons (GStep.val _ rfl rfl _ rfl (fun g => cv a) (fun _ => rfl) (fun _ => trivial) (fun bs g ev wq hS he hr => ?_)) ?_
    · have r0 : ev (.tmp 12) = .pointer (some ⟨D, 0, none⟩) := hr (12, some 0) (by simp); have hk := he.1; clear hr he
      exact exec_load rfl r0 (load_cell HA.out (case_a (H1.out.kept hS.out.kp (fun h => h))))
    refine GFrom.cons (GStep.val _ rfl rfl _ rfl (fun g => .pointer (some ⟨D, 18, none⟩)) (fun _ => rfl) (fun _ => trivial) (fun bs g ev wq hS he hr => ?_)) ?_
    · have r0 : ev (.tmp 1) = .pointer (some ⟨D, 0, none⟩) := hr (1, none) (by simp); have hk := he.1; clear hr he
      go_simp
    refine GFrom.cons (GStep.val _ rfl rfl _ rfl (fun g => cv b) (fun _ => rfl) (fun _ => trivial) (fun bs g ev wq hS he hr => ?_)) ?_
    · have r0 : ev (.tmp 14) = .pointer (some ⟨D, 18, none⟩) := hr (14, some 2) (by simp); have hk := he.1; clear hr he
      exact exec_load rfl r0 (load_cell HB.out (case_b HA.out (H1.out.kept hS.out.kp (fun h => h))))
    refine GFrom.cons (GStep.val _ rfl rfl _ rfl (fun g => .pointer (some ⟨D, 54, none⟩)) (fun _ => rfl) (fun _ => trivial) (fun bs g ev wq hS he hr => ?_)) ?_
    · have r0 : ev (.tmp 1) = .pointer (some ⟨D, 0, none⟩) := hr (1, none) (by simp); have hk := he.1; clear hr he
      go_simp
    refine GFrom.cons (GStep.val _ rfl rfl _ rfl (fun g => markV m) (fun _ => rfl) (fun _ => trivial) (fun bs g ev wq hS he hr => ?_)) ?_
    · have r0 : ev (.tmp 16) = .pointer (some ⟨D, 54, none⟩) := hr (16, some 4) (by simp); have hk := he.1; clear hr he
      exact exec_load rfl r0 (load_mark HM.out (case_m HA.out HB.out HC.out (H1.out.kept hS.out.kp (fun h => h))))
    refine GFrom.cons (GStep.val _ rfl rfl _ rfl (fun g => .pointer (some ⟨D, 70, none⟩)) (fun _ => rfl) (fun _ => trivial) (fun bs g ev wq hS he hr => ?_)) ?_
    · have r0 : ev (.tmp 1) = .pointer (some ⟨D, 0, none⟩) := hr (1, none) (by simp); have hk := he.1; clear hr he
      go_simp
    refine GFrom.cons (GStep.val _ rfl rfl _ rfl (fun g => .slice y l.length d) (fun _ => rfl) (fun _ => trivial) (fun bs g ev wq hS he hr => ?_)) ?_
    · have r0 : ev (.tmp 18) = .pointer (some ⟨D, 70, none⟩) := hr (18, some 6) (by simp); have hk := he.1; clear hr he
      have c0 := case_l HA.out HB.out HC.out HM.out (H1.out.kept hS.out.kp (fun h => h))
      go_simp
    refine GFrom.cons (GStep.valloc 0 _ rfl (by decide) rfl rfl rfl 11 _ rfl rfl (by kernel_rfl) (fun g x => by kernel_rfl) (fun g => by simp) (fun ev w => by go_simp; rfl)) ?_
    refine GFrom.cons (GStep.valloc 1 _ rfl (by decide) rfl rfl rfl 12 _ rfl rfl (by kernel_rfl) (fun g x => by kernel_rfl) (fun g => by simp) (fun ev w => by go_simp; rfl)) ?_
    refine GFrom.cons (GStep.valloc 2 _ rfl (by decide) rfl rfl rfl 13 _ rfl rfl (by kernel_rfl) (fun g x => by kernel_rfl) (fun g => by simp) (fun ev w => by go_simp; rfl)) ?_
    refine GFrom.cons (GStep.vfill 0 _ rfl (by decide) rfl rfl rfl 8 rfl (by kernel_rfl) (cl_length HA.out) (fun _ => rfl) _ rfl (fun g ev wq he hr ht => ?_)) ?_
    · have r0 : ev (.tmp 3) = .pointer (some ⟨(g 0), 0, none⟩) := hr (3, some 8) (by simp); have r1 : ev (.tmp 13) = cv a := hr (13, some 1) (by simp); have hk := he.1; clear hr he
      exact exec_store rfl r0 r1 (store_cell HA.out ht)
    refine GFrom.cons (GStep.vfill 1 _ rfl (by decide) rfl rfl rfl 9 rfl (by kernel_rfl) (cl_length HB.out) (fun _ => rfl) _ rfl (fun g ev wq he hr ht => ?_)) ?_
    · have r0 : ev (.tmp 4) = .pointer (some ⟨(g 1), 0, none⟩) := hr (4, some 9) (by simp); have r1 : ev (.tmp 15) = cv b := hr (15, some 3) (by simp); have hk := he.1; clear hr he
      exact exec_store rfl r0 r1 (store_cell HB.out ht)
    refine GFrom.cons (GStep.vfill 2 _ rfl (by decide) rfl rfl rfl 10 rfl (by kernel_rfl) (by show (markL m).length = _; rw [markL_length, HM.out.len]; rfl) (fun _ => rfl) _ rfl (fun g ev wq he hr ht => ?_)) ?_
    · have r0 : ev (.tmp 5) = .pointer (some ⟨(g 2), 0, none⟩) := hr (5, some 10) (by simp); have r1 : ev (.tmp 17) = markV m := hr (17, some 5) (by simp); have hk := he.1; clear hr he
      exact exec_store rfl r0 r1 (store_mark HM.out ht)
    refine GFrom.cons (GStep.val _ rfl rfl _ rfl (fun g => .slice y l.length d) (fun _ => rfl) (fun _ => trivial) (fun bs g ev wq hS he hr => ?_)) ?_
    · have r0 : ev (.tmp 19) = .slice y l.length d := hr (19, some 7) (by simp); have hk := he.1; clear hr he
      go_simp
    exact GFrom.nil
  case hS => exact VarsS.start _ _ _ _ _ _ _
  case hend =>
    intro g w2 h2
    have hd := h2.out.done rfl
    obtain ⟨q0, q1, q2⟩ : ((w1.heap.size ≤ g 0 ∧ Blk w2 (g 0) 26 (cl a)) ∧ (w1.heap.size ≤ g 1 ∧ Blk w2 (g 1) 26 (cl b)) ∧ (w1.heap.size ≤ g 2 ∧ Blk w2 (g 2) 23 (markL m))) := ⟨hd.1 0 (by decide), hd.1 1 (by decide), hd.1 2 (by decide)⟩
    have k2 := h2.out.kp
    clear hd h2
    generalize g 0 = b3 at q0 ⊢
    generalize g 1 = b4 at q1 ⊢
    generalize g 2 = b5 at q2 ⊢
    have Q0 := hid q0.2
    have Q1 := hid q1.2
    have Q2 := hid q2.2
    have K2 := hid (K1.out.trans k2 (fun _ _ h => h))
    clear q0 q1 q2 k2 K1 HS1 H1 g
    simp only [putAll, List.zip_cons_cons, List.zip_nil_right, List.foldl_cons, List.foldl_nil, Act.put, List.setIfInBounds_toArray, List.set_cons_zero, List.set_cons_succ]
    by_cases hl : 50 < l.length
    · have d1 : decide (50 < (l.length : Int)) = true := decide_eq_true (by omega)
      go_wp2
      go_ret
      exact ⟨rfl, K2.out⟩
    have d1 : decide (50 < (l.length : Int)) = false := decide_eq_false (by omega)
    have HN := hid (Nat.not_lt.1 hl)
    clear hl
    obtain ⟨w4, h4⟩ : ∃ w4, w4 = w2.alloc (.cells (cl c0).toArray 26) := ⟨_, rfl⟩
    have k4 : Kp Nb w2 w4 := by rw [h4]; exact (Kp.refl Nb w2).alloc _
    have Q7 : Hid (Blk w4 w2.heap.size 26 (cl c0)) := hid (by rw [h4]; exact Blk.new w2 _ _)
    have P0 := hid (Q0.out.kept k4 (fun h => h))
    have P1 := hid (Q1.out.kept k4 (fun h => h))
    have P2 := hid (Q2.out.kept k4 (fun h => h))
    have L0 := hid Q0.out.lt
    have L1 := hid Q1.out.lt
    have L2 := hid Q2.out.lt
    have K4 := hid (K2.out.trans k4 (fun _ _ h => h))
    have LB : Hid (w.heap.size ≤ w2.heap.size) := hid K2.out.size
    clear Q0 Q1 Q2 K2 k4
    go_wp2
    rw [show w2.alloc (.cells #[.int .i64 0, .int .u8 0, .int .u8 0, .int .u8 0, .int .u8 0, .int .u8 0, .int .u8 0, .int .u8 0, .int .u8 0, .int .u8 0, .int .u8 0, .int .u8 0, .int .u8 0, .int .u8 0, .int .u8 0, .int .u8 0, .int .u8 0, .int .u64 0] 26) = w4 from h4.symm]
    generalize w2.heap.size = B at *
    clear h4
    go_loopw [25] (TellR w4 B l) (fun i _ => l.length - (intOf i).toNat)
    case atStart => exact ⟨0, by omega, rfl, Q7, Kp.refl _ _⟩
    case round =>
      clear Q7
      obtain ⟨k, hk, rfl, HA1, HK1⟩ := hrel
      have KW := hid (K4.out.trans HK1.out (fun i hi h => by have h' : i = B := h; have := LB.out; omega))
      by_cases hlt : k < l.length
      · rcases (HS.out.kept KW.out) with ⟨_, e0⟩ | ⟨blk, off, cap, e1, hc, hm, hcell⟩
        · rw [e0] at hlt
          exact absurd hlt (Nat.not_lt_zero _)
        · injection e1 with e1 _ e2
          subst e1 e2
          have HR := hid (show wr.rangeAt blk (off + k * 18) (cl (celAt l k)) from hcell k hlt)
          have O1 := hid (celOk_of HO.out k)
          have HQ := hid (sum_snoc l k hlt)
          have U1 := hid (sumC_ok (l.take k))
          unfold maxLen at hm
          generalize celAt l k = x at HR O1 HQ
          generalize sumC (l.take k) = u at HA1 HQ U1
          obtain ⟨N, hN⟩ : ∃ N, N = wr.heap.size := ⟨_, rfl⟩
          have hz := Blk.new wr 26 (cl c0)
          obtain ⟨W, hW⟩ : ∃ W, W = (wr.alloc (.cells (cl c0).toArray 26)).setCells wr.heap.size 0 (cl x) := ⟨_, rfl⟩
          have kW : Kp Nb wr W := by rw [hW]; exact Kp.setCells (fun h => absurd h (Nat.lt_irrefl _)) _ 0 _ ((Kp.refl Nb wr).alloc _)
          have TH := hid (cell_there hz (cl_length c0_ok) O1.out)
          have SI := hid (cell_sized O1.out)
          have ON := hid (all_oneCell_toArray (cellL_one x.1 x.2.1 x.2.2))
          have HZ : Hid (Blk W N 26 (cl x)) := hid (by rw [hW, hN]; exact row_set hz (by rw [cl_length c0_ok, cl_length O1.out]))
          have HB1 := hid (HA1.out.kept kW (fun h => h))
          have HK2 := hid (HK1.out.trans kW (fun _ _ h => h.elim))
          obtain ⟨Y, hY⟩ : ∃ Y, Y = signC 1 u x := ⟨_, rfl⟩
          have CY : Hid (∀ w, Calls Try.prog 9 #[cv u, cv x, .int .i64 1] w fun e w' => e = .returned (cv Y) ∧ Kp Nb w w') := hid (fun w => by rw [hY]; exact radd_any 1 u x w U1.out O1.out)
          have YO : Hid (CelOk Y) := hid (by rw [hY]; exact signC_ok)
          have SY := hid (cell_sized YO.out)
          have OY := hid (all_oneCell_toArray (cellL_one Y.1 Y.2.1 Y.2.2))
          have HY : Hid (sumC (l.take (k + 1)) = Y) := hid (by rw [hY]; exact HQ.out)
          obtain ⟨du, hu, hd⟩ := cell_under
          have HU := hid hu
          have CX := hid (cell_infoL x.1 x.2.1 x.2.2 O1.out.mark.len)
          have CU := hid (cell_infoL u.1 u.2.1 u.2.2 U1.out.mark.len)
          clear hY HQ hz kW hcell hu
          go_upto_region 10 with (first
            | (refine wpList_load_mid (by rfl) 26 (.tmp 27) (by rfl) blk (off + k * 18) (by rfl) (cl x) du HR.out HU.out hd CX.out ?_)
            | (refine wpList_store_mid (by rfl) 26 (.tmp 9) (.tmp 28) (by rfl) wr.heap.size 0 (cl x).toArray (by rfl) (by rfl) TH.out SI.out ON.out ?_))
          rw [show (wr.alloc (.cells #[.int .i64 0, .int .u8 0, .int .u8 0, .int .u8 0, .int .u8 0, .int .u8 0, .int .u8 0, .int .u8 0, .int .u8 0, .int .u8 0, .int .u8 0, .int .u8 0, .int .u8 0, .int .u8 0, .int .u8 0, .int .u8 0, .int .u8 0, .int .u64 0] 26)).setCells wr.heap.size 0 (cl x) = W from hW.symm, ← hN]
          clear hW hN TH SI ON
          go_wp2_with (first
            | (refine wpList_load_mid (by rfl) 26 (.tmp 7) (by rfl) B 0 (by rfl) (cl u) du (range_of HB1.out) HU.out hd CU.out ?_)
            | (refine wpList_load_mid (by rfl) 26 (.tmp 9) (by rfl) N 0 (by rfl) (cl x) du (range_of HZ.out) HU.out hd CX.out ?_))
          refine (CY.out _).mono ?_
          rintro e w6 ⟨rfl, k6⟩
          have HE := HB1.out.kept k6 (fun h => h)
          have TB : Hid (w6.there B 0 (cl Y).toArray.size) := hid (by rw [List.size_toArray, cl_length YO.out]; exact HE.there 0 18 (by rw [cl_length U1.out]; omega))
          have HA3 : Hid (Blk (w6.setCells B 0 (cl Y)) B 26 (cl (sumC (l.take (k + 1))))) := hid (by rw [HY.out]; exact row_set HE (by rw [cl_length YO.out, cl_length U1.out]))
          have HK3 : Hid (Kp (Jb B) w4 (w6.setCells B 0 (cl Y))) := hid (Kp.setCells (S := Jb B) (fun _ => show B = B from rfl) _ 0 _ (HK2.out.trans k6 (fun _ _ h => h.elim)))
          clear k6 HE
          go_wp2_with (refine wpList_store_mid (by rfl) 26 (.tmp 7) (.tmp 31) (by rfl) B 0 (cl Y).toArray (by rfl) (by rfl) TB.out SY.out OY.out ?_)
          go_roundw
          case rel => exact ⟨k + 1, by omega, by go_num, HA3, HK3⟩
          case measure => simp [intOf]; omega
      · obtain rfl : k = l.length := by omega
        have HW := hid (HS.out.kept KW.out)
        rw [List.take_length] at HA1
        have R0 := hid (P0.out.kept HK1.out (fun h => by have h' : b3 = B := h; have := L0.out; omega))
        have R1 := hid (P1.out.kept HK1.out (fun h => by have h' : b4 = B := h; have := L1.out; omega))
        have R2 := hid (P2.out.kept HK1.out (fun h => by have h' : b5 = B := h; have := L2.out; omega))
        clear hk hlt HK1 P0 P1 P2 K4 L0 L1 L2 LB HN d1
        go_upto_region 12 with fail
        have OA := HA.out
        have OB := HB.out
        have OM := HM.out
        obtain ⟨S, hS⟩ : ∃ S, S = sumC l := ⟨_, rfl⟩
        have SO : Hid (CelOk S) := hid (by rw [hS]; exact sumC_ok l)
        rw [← hS] at HA1
        obtain ⟨X, hX⟩ : ∃ X, X = ofC m := ⟨_, rfl⟩
        obtain ⟨q, hq⟩ : ∃ q, q = chk m := ⟨_, rfl⟩
        obtain ⟨AB, hAB⟩ : ∃ z, z = addC a b := ⟨_, rfl⟩
        obtain ⟨SB, hSB⟩ : ∃ z, z = subC a b := ⟨_, rfl⟩
        obtain ⟨pa, hpa⟩ : ∃ z, z = pureC a := ⟨_, rfl⟩
        obtain ⟨ra, hra⟩ : ∃ z, z = crightB a.1 := ⟨_, rfl⟩
        have CK1 : Hid (∀ w, Calls Try.prog 10 #[markV m] w fun e w' => e = .returned (.int .u64 q) ∧ Kp Nb w w') := hid (fun w => by rw [hq]; exact chk_any m w OM)
        have CK2 : Hid (∀ w, Calls Try.prog 11 #[markV m] w fun e w' => e = .returned (.int .u64 q) ∧ Kp Nb w w') := hid (fun w => by rw [hq]; exact rchk_any m w OM)
        have CO1 : Hid (∀ w, Calls Try.prog 12 #[markV m] w fun e w' => e = .returned (cv X) ∧ Kp Nb w w') := hid (fun w => by rw [hX]; exact cof_c m w OM)
        have CO2 : Hid (∀ w, Calls Try.prog 13 #[markV m] w fun e w' => e = .returned (cv X) ∧ Kp Nb w w') := hid (fun w => by rw [hX]; exact rof_any m w OM)
        have CA1 : Hid (∀ w, Calls Try.prog 14 #[cv a, cv b] w fun e w' => e = .returned (cv AB) ∧ Kp Nb w w') := hid (fun w => by rw [hAB]; exact cadd_c a b w OA OB)
        have CA2 : Hid (∀ w, Calls Try.prog 9 #[cv a, cv b, .int .i64 1] w fun e w' => e = .returned (cv AB) ∧ Kp Nb w w') := hid (fun w => by rw [hAB, ← signC_one]; exact radd_any 1 a b w OA OB)
        have CS1 : Hid (∀ w, Calls Try.prog 15 #[cv a, cv b] w fun e w' => e = .returned (cv SB) ∧ Kp Nb w w') := hid (fun w => by rw [hSB]; exact csub_c a b w OA OB)
        have CS2 : Hid (∀ w, Calls Try.prog 9 #[cv a, cv b, .int .i64 (-1)] w fun e w' => e = .returned (cv SB) ∧ Kp Nb w w') := hid (fun w => by rw [hSB, ← signC_neg]; exact radd_any (-1) a b w OA OB)
        have CP1 : Hid (∀ w, Calls Try.prog 17 #[cv a] w fun e w' => e = .returned (.int .i64 pa) ∧ Kp Nb w w') := hid (fun w => by rw [hpa]; exact ppure_any a w OA)
        have CP2 : Hid (∀ w, Calls Try.prog 18 #[cv a] w fun e w' => e = .returned (.int .i64 pa) ∧ Kp Nb w w') := hid (fun w => by rw [hpa]; exact rpure_any a w OA)
        have CR1 : Hid (∀ w, Calls Try.prog 19 #[cv a] w fun e w' => e = .returned (.bool ra) ∧ Kp Nb w w') := hid (fun w => by rw [hra]; exact cright_any a.1 a.2.1 a.2.2 w)
        have CR2 : Hid (∀ w, Calls Try.prog 20 #[cv a] w fun e w' => e = .returned (.bool ra) ∧ Kp Nb w w') := hid (fun w => by rw [hra]; exact rright_any a w)
        have CSU : Hid (∀ wq, CSl wq (.slice y l.length d) l → Calls Try.prog 16 #[.slice y l.length d] wq fun e w' => e = .returned (cv S) ∧ Kp Nb wq w') := hid (fun wq hq => by rw [hS]; exact csum_c _ l wq hq HO.out)
        have EX := hid (eq_cell X (by rw [hX]; exact ofC_ok OM))
        have EAB := hid (eq_cell AB (by rw [hAB]; exact addC_ok))
        have ESB := hid (eq_cell SB (by rw [hSB]; exact subC_ok))
        have ES := hid (eq_cell S SO.out)
        clear hX hq hAB hSB hpa hra hS
        refine region_vals2 [none, none, some 50, none, none, none, none, none, none, none, none, none, none, none, none, none, none, none, none, none, none, none, none, none, none, none, none, none, none, none, none, none, none, some 0, some 1, some 2, some 3, some 4, some 5, some 6, some 7, some 8, some 9, some 10, some 11, some 12, some 13, some 14, some 15, some 16, some 17, some 18, some 19, some 20, some 21, some 22, some 23, some 24, some 25, some 26, some 27, some 28, some 29, some 30, some 31, some 32, some 33, some 34, some 35, some 36, some 37, some 38, some 39, some 40, some 41, some 42, some 43, some 44, some 45, some 46, some 47, some 48, some 49] [[(5, none)], [(33, some 0)], [(5, none)], [(35, some 2)], [(34, some 1), (36, some 3)], [(37, some 4)], [(5, none)], [(39, some 6)], [(5, none)], [(41, some 8)], [(40, some 7), (42, some 9)], [(38, some 5), (43, some 10)], [(44, some 11)], [(3, none)], [(4, none)], [(46, some 13), (47, some 14)], [(3, none)], [(4, none)], [(49, some 16), (50, some 17)], [(48, some 15), (51, some 18)], [(45, some 12), (52, some 19)], [(53, some 20)], [(3, none)], [(4, none)], [(55, some 22), (56, some 23)], [(3, none)], [(4, none)], [(58, some 25), (59, some 26)], [(57, some 24), (60, some 27)], [(54, some 21), (61, some 28)], [(62, some 29)], [(6, none)], [(64, some 31)], [(7, none)], [(65, some 32), (66, some 33)], [(63, some 30), (67, some 34)], [(68, some 35)], [(3, none)], [(70, some 37)], [(3, none)], [(72, some 39)], [(71, some 38), (73, some 40)], [(69, some 36), (74, some 41)], [(75, some 42)], [(3, none)], [(77, some 44)], [(3, none)], [(79, some 46)], [(78, some 45), (80, some 47)], [(76, some 43), (81, some 48)], [(82, some 49)]] [some 33, some 34, some 35, some 36, some 37, some 38, some 39, some 40, some 41, some 42, some 43, some 44, some 45, some 46, some 47, some 48, some 49, some 50, some 51, some 52, some 53, some 54, some 55, some 56, some 57, some 58, some 59, some 60, some 61, some 62, some 63, some 64, some 65, some 66, some 67, some 68, some 69, some 70, some 71, some 72, some 73, some 74, some 75, some 76, some 77, some 78, some 79, some 80, some 81, some 82, some 2] [markV m, .int .u64 q, markV m, .int .u64 q, .bool true, .bool true, markV m, cv X, markV m, cv X, .bool true, .bool true, .bool true, cv a, cv b, cv AB, cv a, cv b, cv AB, .bool true, .bool true, .bool true, cv a, cv b, cv SB, cv a, cv b, cv SB, .bool true, .bool true, .bool true, .slice y l.length d, cv S, cv S, .bool true, .bool true, .bool true, cv a, .int .i64 pa, cv a, .int .i64 pa, .bool true, .bool true, .bool true, cv a, .bool ra, cv a, .bool ra, .bool true, .bool true, .bool true] (fun w' => Hid (Kp Nb wr w')) (by kernel_rfl) (by kernel_rfl) (by kernel_rfl) ?hS (VFrom.all (n := 51) (by kernel_rfl) ?hstep) ?hend
        case hstep =>
          refine VFrom.cons (VStep.val _ rfl _ rfl (markV m) rfl trivial (fun ev wq hS he hr => ?_)) ?_
          · have r0 : ev (.tmp 5) = .pointer (some ⟨b5, 0, none⟩) := hr (5, none) (by simp); have hk := he.1; clear hr he
            exact exec_load rfl r0 (load_mark HM.out (range_of (R2.out.kept hS.out (fun h => h))))
          refine VFrom.cons (VStep.call _ rfl _ rfl (.int .u64 q) rfl trivial 10 #[markV m] (fun ev wq hS he hr => ?_) (fun wq hS => ?_)) ?_
          · have r0 : ev (.tmp 33) = markV m := hr (33, some 0) (by simp); have hk := he.1; have hf := he.2; clear hr he
            go_simp
          · exact (CK1.out wq).mono fun e w' ⟨h1, h2⟩ => ⟨h1, hS.out.trans h2 (fun _ _ h => h)⟩
          refine VFrom.cons (VStep.val _ rfl _ rfl (markV m) rfl trivial (fun ev wq hS he hr => ?_)) ?_
          · have r0 : ev (.tmp 5) = .pointer (some ⟨b5, 0, none⟩) := hr (5, none) (by simp); have hk := he.1; clear hr he
            exact exec_load rfl r0 (load_mark HM.out (range_of (R2.out.kept hS.out (fun h => h))))
          refine VFrom.cons (VStep.call _ rfl _ rfl (.int .u64 q) rfl trivial 11 #[markV m] (fun ev wq hS he hr => ?_) (fun wq hS => ?_)) ?_
          · have r0 : ev (.tmp 35) = markV m := hr (35, some 2) (by simp); have hk := he.1; have hf := he.2; clear hr he
            go_simp
          · exact (CK2.out wq).mono fun e w' ⟨h1, h2⟩ => ⟨h1, hS.out.trans h2 (fun _ _ h => h)⟩
          refine VFrom.cons (VStep.val _ rfl _ rfl (.bool true) rfl trivial (fun ev wq hS he hr => ?_)) ?_
          · have r0 : ev (.tmp 34) = .int .u64 q := hr (34, some 1) (by simp); have r1 : ev (.tmp 36) = .int .u64 q := hr (36, some 3) (by simp); have hk := he.1; clear hr he
            go_simp
          refine VFrom.cons (VStep.val _ rfl _ rfl (.bool true) rfl trivial (fun ev wq hS he hr => ?_)) ?_
          · have r0 : ev (.tmp 37) = .bool true := hr (37, some 4) (by simp); have hk := he.1; clear hr he
            go_simp
          refine VFrom.cons (VStep.val _ rfl _ rfl (markV m) rfl rfl (fun ev wq hS he hr => ?_)) ?_
          · have r0 : ev (.tmp 5) = .pointer (some ⟨b5, 0, none⟩) := hr (5, none) (by simp); have hk := he.1; clear hr he
            exact exec_load rfl r0 (load_mark HM.out (range_of (R2.out.kept hS.out (fun h => h))))
          refine VFrom.cons (VStep.call _ rfl _ rfl (cv X) rfl rfl 12 #[markV m] (fun ev wq hS he hr => ?_) (fun wq hS => ?_)) ?_
          · have r0 : ev (.tmp 39) = markV m := hr (39, some 6) (by simp); have hk := he.1; have hf := he.2; clear hr he
            go_simp
          · exact (CO1.out wq).mono fun e w' ⟨h1, h2⟩ => ⟨h1, hS.out.trans h2 (fun _ _ h => h)⟩
          refine VFrom.cons (VStep.val _ rfl _ rfl (markV m) rfl rfl (fun ev wq hS he hr => ?_)) ?_
          · have r0 : ev (.tmp 5) = .pointer (some ⟨b5, 0, none⟩) := hr (5, none) (by simp); have hk := he.1; clear hr he
            exact exec_load rfl r0 (load_mark HM.out (range_of (R2.out.kept hS.out (fun h => h))))
          refine VFrom.cons (VStep.call _ rfl _ rfl (cv X) rfl rfl 13 #[markV m] (fun ev wq hS he hr => ?_) (fun wq hS => ?_)) ?_
          · have r0 : ev (.tmp 41) = markV m := hr (41, some 8) (by simp); have hk := he.1; have hf := he.2; clear hr he
            go_simp
          · exact (CO2.out wq).mono fun e w' ⟨h1, h2⟩ => ⟨h1, hS.out.trans h2 (fun _ _ h => h)⟩
          refine VFrom.cons (VStep.val _ rfl _ rfl (.bool true) rfl rfl (fun ev wq hS he hr => ?_)) ?_
          · have r0 : ev (.tmp 40) = cv X := hr (40, some 7) (by simp); have r1 : ev (.tmp 42) = cv X := hr (42, some 9) (by simp); have hk := he.1; clear hr he
            exact exec_eqlCell rfl r0 r1 (EX.out wq)
          refine VFrom.cons (VStep.val _ rfl _ rfl (.bool true) rfl trivial (fun ev wq hS he hr => ?_)) ?_
          · have r0 : ev (.tmp 38) = .bool true := hr (38, some 5) (by simp); have r1 : ev (.tmp 43) = .bool true := hr (43, some 10) (by simp); have hk := he.1; clear hr he
            go_simp
          refine VFrom.cons (VStep.val _ rfl _ rfl (.bool true) rfl trivial (fun ev wq hS he hr => ?_)) ?_
          · have r0 : ev (.tmp 44) = .bool true := hr (44, some 11) (by simp); have hk := he.1; clear hr he
            go_simp
          refine VFrom.cons (VStep.val _ rfl _ rfl (cv a) rfl rfl (fun ev wq hS he hr => ?_)) ?_
          · have r0 : ev (.tmp 3) = .pointer (some ⟨b3, 0, none⟩) := hr (3, none) (by simp); have hk := he.1; clear hr he
            exact exec_load rfl r0 (load_cell HA.out (range_of (R0.out.kept hS.out (fun h => h))))
          refine VFrom.cons (VStep.val _ rfl _ rfl (cv b) rfl rfl (fun ev wq hS he hr => ?_)) ?_
          · have r0 : ev (.tmp 4) = .pointer (some ⟨b4, 0, none⟩) := hr (4, none) (by simp); have hk := he.1; clear hr he
            exact exec_load rfl r0 (load_cell HB.out (range_of (R1.out.kept hS.out (fun h => h))))
          refine VFrom.cons (VStep.call _ rfl _ rfl (cv AB) rfl rfl 14 #[cv a, cv b] (fun ev wq hS he hr => ?_) (fun wq hS => ?_)) ?_
          · have r0 : ev (.tmp 46) = cv a := hr (46, some 13) (by simp); have r1 : ev (.tmp 47) = cv b := hr (47, some 14) (by simp); have hk := he.1; have hf := he.2; clear hr he
            go_simp
          · exact (CA1.out wq).mono fun e w' ⟨h1, h2⟩ => ⟨h1, hS.out.trans h2 (fun _ _ h => h)⟩
          refine VFrom.cons (VStep.val _ rfl _ rfl (cv a) rfl rfl (fun ev wq hS he hr => ?_)) ?_
          · have r0 : ev (.tmp 3) = .pointer (some ⟨b3, 0, none⟩) := hr (3, none) (by simp); have hk := he.1; clear hr he
            exact exec_load rfl r0 (load_cell HA.out (range_of (R0.out.kept hS.out (fun h => h))))
          refine VFrom.cons (VStep.val _ rfl _ rfl (cv b) rfl rfl (fun ev wq hS he hr => ?_)) ?_
          · have r0 : ev (.tmp 4) = .pointer (some ⟨b4, 0, none⟩) := hr (4, none) (by simp); have hk := he.1; clear hr he
            exact exec_load rfl r0 (load_cell HB.out (range_of (R1.out.kept hS.out (fun h => h))))
          refine VFrom.cons (VStep.call _ rfl _ rfl (cv AB) rfl rfl 9 #[cv a, cv b, .int .i64 1] (fun ev wq hS he hr => ?_) (fun wq hS => ?_)) ?_
          · have r0 : ev (.tmp 49) = cv a := hr (49, some 16) (by simp); have r1 : ev (.tmp 50) = cv b := hr (50, some 17) (by simp); have hk := he.1; have hf := he.2; clear hr he
            go_simp
          · exact (CA2.out wq).mono fun e w' ⟨h1, h2⟩ => ⟨h1, hS.out.trans h2 (fun _ _ h => h)⟩
          refine VFrom.cons (VStep.val _ rfl _ rfl (.bool true) rfl rfl (fun ev wq hS he hr => ?_)) ?_
          · have r0 : ev (.tmp 48) = cv AB := hr (48, some 15) (by simp); have r1 : ev (.tmp 51) = cv AB := hr (51, some 18) (by simp); have hk := he.1; clear hr he
            exact exec_eqlCell rfl r0 r1 (EAB.out wq)
          refine VFrom.cons (VStep.val _ rfl _ rfl (.bool true) rfl trivial (fun ev wq hS he hr => ?_)) ?_
          · have r0 : ev (.tmp 45) = .bool true := hr (45, some 12) (by simp); have r1 : ev (.tmp 52) = .bool true := hr (52, some 19) (by simp); have hk := he.1; clear hr he
            go_simp
          refine VFrom.cons (VStep.val _ rfl _ rfl (.bool true) rfl trivial (fun ev wq hS he hr => ?_)) ?_
          · have r0 : ev (.tmp 53) = .bool true := hr (53, some 20) (by simp); have hk := he.1; clear hr he
            go_simp
          refine VFrom.cons (VStep.val _ rfl _ rfl (cv a) rfl rfl (fun ev wq hS he hr => ?_)) ?_
          · have r0 : ev (.tmp 3) = .pointer (some ⟨b3, 0, none⟩) := hr (3, none) (by simp); have hk := he.1; clear hr he
            exact exec_load rfl r0 (load_cell HA.out (range_of (R0.out.kept hS.out (fun h => h))))
          refine VFrom.cons (VStep.val _ rfl _ rfl (cv b) rfl rfl (fun ev wq hS he hr => ?_)) ?_
          · have r0 : ev (.tmp 4) = .pointer (some ⟨b4, 0, none⟩) := hr (4, none) (by simp); have hk := he.1; clear hr he
            exact exec_load rfl r0 (load_cell HB.out (range_of (R1.out.kept hS.out (fun h => h))))
          refine VFrom.cons (VStep.call _ rfl _ rfl (cv SB) rfl rfl 15 #[cv a, cv b] (fun ev wq hS he hr => ?_) (fun wq hS => ?_)) ?_
          · have r0 : ev (.tmp 55) = cv a := hr (55, some 22) (by simp); have r1 : ev (.tmp 56) = cv b := hr (56, some 23) (by simp); have hk := he.1; have hf := he.2; clear hr he
            go_simp
          · exact (CS1.out wq).mono fun e w' ⟨h1, h2⟩ => ⟨h1, hS.out.trans h2 (fun _ _ h => h)⟩
          refine VFrom.cons (VStep.val _ rfl _ rfl (cv a) rfl rfl (fun ev wq hS he hr => ?_)) ?_
          · have r0 : ev (.tmp 3) = .pointer (some ⟨b3, 0, none⟩) := hr (3, none) (by simp); have hk := he.1; clear hr he
            exact exec_load rfl r0 (load_cell HA.out (range_of (R0.out.kept hS.out (fun h => h))))
          refine VFrom.cons (VStep.val _ rfl _ rfl (cv b) rfl rfl (fun ev wq hS he hr => ?_)) ?_
          · have r0 : ev (.tmp 4) = .pointer (some ⟨b4, 0, none⟩) := hr (4, none) (by simp); have hk := he.1; clear hr he
            exact exec_load rfl r0 (load_cell HB.out (range_of (R1.out.kept hS.out (fun h => h))))
          refine VFrom.cons (VStep.call _ rfl _ rfl (cv SB) rfl rfl 9 #[cv a, cv b, .int .i64 (-1)] (fun ev wq hS he hr => ?_) (fun wq hS => ?_)) ?_
          · have r0 : ev (.tmp 58) = cv a := hr (58, some 25) (by simp); have r1 : ev (.tmp 59) = cv b := hr (59, some 26) (by simp); have hk := he.1; have hf := he.2; clear hr he
            go_simp
          · exact (CS2.out wq).mono fun e w' ⟨h1, h2⟩ => ⟨h1, hS.out.trans h2 (fun _ _ h => h)⟩
          refine VFrom.cons (VStep.val _ rfl _ rfl (.bool true) rfl rfl (fun ev wq hS he hr => ?_)) ?_
          · have r0 : ev (.tmp 57) = cv SB := hr (57, some 24) (by simp); have r1 : ev (.tmp 60) = cv SB := hr (60, some 27) (by simp); have hk := he.1; clear hr he
            exact exec_eqlCell rfl r0 r1 (ESB.out wq)
          refine VFrom.cons (VStep.val _ rfl _ rfl (.bool true) rfl trivial (fun ev wq hS he hr => ?_)) ?_
          · have r0 : ev (.tmp 54) = .bool true := hr (54, some 21) (by simp); have r1 : ev (.tmp 61) = .bool true := hr (61, some 28) (by simp); have hk := he.1; clear hr he
            go_simp
          refine VFrom.cons (VStep.val _ rfl _ rfl (.bool true) rfl trivial (fun ev wq hS he hr => ?_)) ?_
          · have r0 : ev (.tmp 62) = .bool true := hr (62, some 29) (by simp); have hk := he.1; clear hr he
            go_simp
          refine VFrom.cons (VStep.val _ rfl _ rfl (.slice y l.length d) rfl rfl (fun ev wq hS he hr => ?_)) ?_
          · have r0 : ev (.tmp 6) = .slice y l.length d := hr (6, none) (by simp); have hk := he.1; clear hr he
            go_simp
          refine VFrom.cons (VStep.call _ rfl _ rfl (cv S) rfl rfl 16 #[.slice y l.length d] (fun ev wq hS he hr => ?_) (fun wq hS => ?_)) ?_
          · have r0 : ev (.tmp 64) = .slice y l.length d := hr (64, some 31) (by simp); have hk := he.1; have hf := he.2; clear hr he
            go_simp
          · exact (CSU.out wq (HW.out.kept hS.out)).mono fun e w' ⟨h1, h2⟩ => ⟨h1, hS.out.trans h2 (fun _ _ h => h)⟩
          refine VFrom.cons (VStep.val _ rfl _ rfl (cv S) rfl rfl (fun ev wq hS he hr => ?_)) ?_
          · have r0 : ev (.tmp 7) = .pointer (some ⟨B, 0, none⟩) := hr (7, none) (by simp); have hk := he.1; clear hr he
            exact exec_load rfl r0 (load_cell SO.out (range_of (HA1.out.kept hS.out (fun h => h))))
          refine VFrom.cons (VStep.val _ rfl _ rfl (.bool true) rfl rfl (fun ev wq hS he hr => ?_)) ?_
          · have r0 : ev (.tmp 65) = cv S := hr (65, some 32) (by simp); have r1 : ev (.tmp 66) = cv S := hr (66, some 33) (by simp); have hk := he.1; clear hr he
            exact exec_eqlCell rfl r0 r1 (ES.out wq)
          refine VFrom.cons (VStep.val _ rfl _ rfl (.bool true) rfl trivial (fun ev wq hS he hr => ?_)) ?_
          · have r0 : ev (.tmp 63) = .bool true := hr (63, some 30) (by simp); have r1 : ev (.tmp 67) = .bool true := hr (67, some 34) (by simp); have hk := he.1; clear hr he
            go_simp
          refine VFrom.cons (VStep.val _ rfl _ rfl (.bool true) rfl trivial (fun ev wq hS he hr => ?_)) ?_
          · have r0 : ev (.tmp 68) = .bool true := hr (68, some 35) (by simp); have hk := he.1; clear hr he
            go_simp
          refine VFrom.cons (VStep.val _ rfl _ rfl (cv a) rfl rfl (fun ev wq hS he hr => ?_)) ?_
          · have r0 : ev (.tmp 3) = .pointer (some ⟨b3, 0, none⟩) := hr (3, none) (by simp); have hk := he.1; clear hr he
            exact exec_load rfl r0 (load_cell HA.out (range_of (R0.out.kept hS.out (fun h => h))))
          refine VFrom.cons (VStep.call _ rfl _ rfl (.int .i64 pa) rfl rfl 17 #[cv a] (fun ev wq hS he hr => ?_) (fun wq hS => ?_)) ?_
          · have r0 : ev (.tmp 70) = cv a := hr (70, some 37) (by simp); have hk := he.1; have hf := he.2; clear hr he
            go_simp
          · exact (CP1.out wq).mono fun e w' ⟨h1, h2⟩ => ⟨h1, hS.out.trans h2 (fun _ _ h => h)⟩
          refine VFrom.cons (VStep.val _ rfl _ rfl (cv a) rfl rfl (fun ev wq hS he hr => ?_)) ?_
          · have r0 : ev (.tmp 3) = .pointer (some ⟨b3, 0, none⟩) := hr (3, none) (by simp); have hk := he.1; clear hr he
            exact exec_load rfl r0 (load_cell HA.out (range_of (R0.out.kept hS.out (fun h => h))))
          refine VFrom.cons (VStep.call _ rfl _ rfl (.int .i64 pa) rfl rfl 18 #[cv a] (fun ev wq hS he hr => ?_) (fun wq hS => ?_)) ?_
          · have r0 : ev (.tmp 72) = cv a := hr (72, some 39) (by simp); have hk := he.1; have hf := he.2; clear hr he
            go_simp
          · exact (CP2.out wq).mono fun e w' ⟨h1, h2⟩ => ⟨h1, hS.out.trans h2 (fun _ _ h => h)⟩
          refine VFrom.cons (VStep.val _ rfl _ rfl (.bool true) rfl rfl (fun ev wq hS he hr => ?_)) ?_
          · have r0 : ev (.tmp 71) = .int .i64 pa := hr (71, some 38) (by simp); have r1 : ev (.tmp 73) = .int .i64 pa := hr (73, some 40) (by simp); have hk := he.1; clear hr he
            go_simp
          refine VFrom.cons (VStep.val _ rfl _ rfl (.bool true) rfl trivial (fun ev wq hS he hr => ?_)) ?_
          · have r0 : ev (.tmp 69) = .bool true := hr (69, some 36) (by simp); have r1 : ev (.tmp 74) = .bool true := hr (74, some 41) (by simp); have hk := he.1; clear hr he
            go_simp
          refine VFrom.cons (VStep.val _ rfl _ rfl (.bool true) rfl trivial (fun ev wq hS he hr => ?_)) ?_
          · have r0 : ev (.tmp 75) = .bool true := hr (75, some 42) (by simp); have hk := he.1; clear hr he
            go_simp
          refine VFrom.cons (VStep.val _ rfl _ rfl (cv a) rfl rfl (fun ev wq hS he hr => ?_)) ?_
          · have r0 : ev (.tmp 3) = .pointer (some ⟨b3, 0, none⟩) := hr (3, none) (by simp); have hk := he.1; clear hr he
            exact exec_load rfl r0 (load_cell HA.out (range_of (R0.out.kept hS.out (fun h => h))))
          refine VFrom.cons (VStep.call _ rfl _ rfl (.bool ra) rfl rfl 19 #[cv a] (fun ev wq hS he hr => ?_) (fun wq hS => ?_)) ?_
          · have r0 : ev (.tmp 77) = cv a := hr (77, some 44) (by simp); have hk := he.1; have hf := he.2; clear hr he
            go_simp
          · exact (CR1.out wq).mono fun e w' ⟨h1, h2⟩ => ⟨h1, hS.out.trans h2 (fun _ _ h => h)⟩
          refine VFrom.cons (VStep.val _ rfl _ rfl (cv a) rfl rfl (fun ev wq hS he hr => ?_)) ?_
          · have r0 : ev (.tmp 3) = .pointer (some ⟨b3, 0, none⟩) := hr (3, none) (by simp); have hk := he.1; clear hr he
            exact exec_load rfl r0 (load_cell HA.out (range_of (R0.out.kept hS.out (fun h => h))))
          refine VFrom.cons (VStep.call _ rfl _ rfl (.bool ra) rfl rfl 20 #[cv a] (fun ev wq hS he hr => ?_) (fun wq hS => ?_)) ?_
          · have r0 : ev (.tmp 79) = cv a := hr (79, some 46) (by simp); have hk := he.1; have hf := he.2; clear hr he
            go_simp
          · exact (CR2.out wq).mono fun e w' ⟨h1, h2⟩ => ⟨h1, hS.out.trans h2 (fun _ _ h => h)⟩
          refine VFrom.cons (VStep.val _ rfl _ rfl (.bool true) rfl rfl (fun ev wq hS he hr => ?_)) ?_
          · have r0 : ev (.tmp 78) = .bool ra := hr (78, some 45) (by simp); have r1 : ev (.tmp 80) = .bool ra := hr (80, some 47) (by simp); have hk := he.1; clear hr he
            go_simp
          refine VFrom.cons (VStep.val _ rfl _ rfl (.bool true) rfl trivial (fun ev wq hS he hr => ?_)) ?_
          · have r0 : ev (.tmp 76) = .bool true := hr (76, some 43) (by simp); have r1 : ev (.tmp 81) = .bool true := hr (81, some 48) (by simp); have hk := he.1; clear hr he
            go_simp
          refine VFrom.cons (VStep.val _ rfl _ rfl (.bool true) rfl trivial (fun ev wq hS he hr => ?_)) ?_
          · have r0 : ev (.tmp 82) = .bool true := hr (82, some 49) (by simp); have hk := he.1; clear hr he
            go_simp
          exact VFrom.nil
        case hS => exact hid ((Kp.refl Nb wr).drew)
        case hend =>
          intro wy kh
          have K9 := hid (KW.out.trans kh.out (fun _ _ h => h))
          clear kh
          simp only [putAll, List.zip_cons_cons, List.zip_nil_right, List.foldl_cons, List.foldl_nil, Act.put, List.setIfInBounds_toArray, List.set_cons_zero, List.set_cons_succ]
          go_wp2
          go_ret
          exact ⟨rfl, K9.out⟩

end Go.Proofs.Ytofjkaemakdmeaa
