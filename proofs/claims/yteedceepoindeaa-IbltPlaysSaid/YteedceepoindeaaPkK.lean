/-
  Layer 11: the statements' own first. No condition.
-/
import Derived.Test.YteedceepoindeaaPkE
namespace Go.Proofs.Yteedceepoindeaa
open Go.RowKit Go.Shelf
attribute [local go_sem] Oper.semAt_some

theorem okA1 : MarkOk mA := ⟨rfl, isBytes_of (by decide)⟩
theorem okB1 : MarkOk mB := ⟨rfl, isBytes_of (by decide)⟩
theorem first_e1 : emptyB (updP subC 2 mA (subS (ofS 2 [mA, mB]) (ofS 2 [mB])) 3) = true := by kernel_rfl
theorem first_e2 : emptyB (ofS 2 [mA, mB]) = false := by kernel_rfl
theorem first_e3 : plcV 1 mA = .agg #[.int .i64 0, .int .i64 1, .int .i64 2] := by kernel_rfl
theorem first_e4 : (ofS 2 [mA, mB]).take 9 = ofS 2 [mA, mB] := by kernel_rfl

theorem eq_p3 (w : World) : Sem.run Try.prog (Op.equalIn 10000 31 (.agg #[.int .i64 0, .int .i64 1, .int .i64 2]) (.agg #[.int .i64 0, .int .i64 1, .int .i64 2])) w = .ok true w := by kernel_rfl
theorem make_mk1 (a : List Int) (ha : a.length = 16) (w : World) : (Instr.buildSlice 56 1 #[(0, markV a)]).run Try.prog w = .ok (.slice (some ⟨w.heap.size, 0, none⟩) 1 1) (w.alloc (.cells (markL a).toArray 23 (0, 0))) := by
  obtain ⟨a0, a1, a2, a3, a4, a5, a6, a7, a8, a9, a10, a11, a12, a13, a14, a15, rfl⟩ := sixteen a ha
  kernel_rfl
theorem mkSl_one {W : World} {B : Nat} {a : List Int} (ha : MarkOk a) (h : Blk W B 23 (markL a)) : MkSl W (.slice (some ⟨B, 0, none⟩) 1 1) [a] := by
  refine ⟨fun i => ?_, .inr ⟨B, 0, 1, rfl, Nat.le_refl 1, by decide, fun i hi => ?_⟩⟩
  · rcases i with _ | i
    · exact ha
    · exact zero_ok
  · have hi' : i < 1 := hi
    obtain rfl : i = 0 := by omega
    exact h.range _ _ (fun j hj => by rw [Nat.zero_mul, Nat.zero_add]; rfl)

structure FsS (W : World) (ma mb : List Int) (sa : List Cel) (bs : List Bool) (g : Value × Value × Value) (w : World) : Prop where
  kp : Kp Nb W w
  cel : bs[0]?.getD false = true → RowsSl cl c0 18 w g.1 sa
  ms : bs[1]?.getD false = true → MkSl w g.2.1 [ma, mb]
  rof : bs[2]?.getD false = true → RowsSl cl c0 18 w g.2.2 sa
theorem FsS.keptN {W : World} {ma mb : List Int} {sa : List Cel} {bs : List Bool} {g : Value × Value × Value} {w w' : World} (h : FsS W ma mb sa bs g w) (k : Kp Nb w w') : FsS W ma mb sa bs g w' :=
  ⟨h.kp.trans k (fun _ _ h => h), fun e => (h.cel e).kept k, fun e => (h.ms e).kept k, fun e => (h.rof e).kept k⟩

set_option maxRecDepth 100000 in
set_option maxHeartbeats 4000000 in
theorem ifirst_any (w : World) : Calls Try.prog 8 #[] w fun e w' => e = .returned (.bool true) ∧ Kp Nb w w' := by
  have h1 := build_mA
  have h2 := build_mB
  obtain ⟨N, hN⟩ : ∃ N, w.heap.size = N := ⟨_, rfl⟩
  obtain ⟨Wx, hWx⟩ : ∃ W, W = (w.alloc (.cells (markL mA).toArray 23)).alloc (.cells (markL mB).toArray 23) := ⟨_, rfl⟩
  have B5 : Hid (Blk Wx N 23 (markL mA)) := hid (by rw [hWx, ← hN]; exact (Blk.new w _ _).alloc _)
  have B6 : Hid (Blk Wx (N + 1) 23 (markL mB)) := hid (by
    have h := Blk.new (w.alloc (.cells (markL mA).toArray 23)) 23 (markL mB)
    simp only [World.size_alloc] at h
    rw [hWx, ← hN]
    exact h)
  have KX : Hid (Kp Nb w Wx) := hid (by rw [hWx]; exact ((Kp.refl Nb w).alloc _).alloc _)
  obtain ⟨ma, hma⟩ : ∃ m, mA = m := ⟨_, rfl⟩
  obtain ⟨mb, hmb⟩ : ∃ m, mB = m := ⟨_, rfl⟩
  have HMA := hid hma
  have HMB := hid hmb
  have OMA : Hid (MarkOk ma) := hid (by rw [← hma]; exact okA1)
  have OMB : Hid (MarkOk mb) := hid (by rw [← hmb]; exact okB1)
  rw [hma] at B5
  rw [hmb] at B6
  have M1 := hid (mark_infoL ma OMA.out.len)
  have M2 := hid (mark_infoL mb OMB.out.len)
  -- the made slices
  obtain ⟨W2, hW2⟩ : ∃ W, W = Wx.alloc (.cells (markL ma ++ markL mb).toArray 23 (0, 0)) := ⟨_, rfl⟩
  have HM2 := hid (make_two ma mb OMA.out.len OMB.out.len Wx)
  rw [← hW2] at HM2
  have S2 : Hid (MkSl W2 (.slice (some ⟨Wx.heap.size, 0, none⟩) 2 2) [ma, mb]) := hid (mkSl_two OMA.out OMB.out (by rw [hW2]; exact Blk.new _ _ _))
  have K2 : Hid (Kp Nb Wx W2) := hid (by rw [hW2]; exact (Kp.refl Nb Wx).alloc _)
  obtain ⟨sa, hsa⟩ : ∃ x, ofS 2 [ma, mb] = x := ⟨_, rfl⟩
  obtain ⟨sb, hsb⟩ : ∃ x, ofS 2 [mb] = x := ⟨_, rfl⟩
  obtain ⟨sc, hsc⟩ : ∃ x, subS sa sb = x := ⟨_, rfl⟩
  obtain ⟨sd, hsd⟩ : ∃ x, updP subC 2 ma sc 3 = x := ⟨_, rfl⟩
  have HSA := hid hsa
  have HSC := hid hsc
  have HSD := hid hsd
  have HE1 : Hid (emptyB sd = true) := hid (by rw [← hsd, ← hsc, ← hsb, ← hsa, ← hma, ← hmb]; exact first_e1)
  have HE2 : Hid (emptyB sa = false) := hid (by rw [← hsa, ← hma, ← hmb]; exact first_e2)
  have hla : sa.length = 6 := by rw [← hsa, ofS_length]
  have hlb : sb.length = 6 := by rw [← hsb, ofS_length]
  have hlc : sc.length = 6 := by rw [← hsc]; show (subP _ _ _).length = 6; rw [subP_length]; exact hla
  have HLL := hid (show sa.length = sb.length ∧ sa.length ≤ 100000 ∧ sc.length = 3 * 2 from ⟨by omega, by omega, by omega⟩)
  have CO2 : Hid (∀ w v, MkSl w v [ma, mb] → Calls Try.prog 11 #[.int .i64 6, v] w fun e w' => ∃ B C, e = .returned (.tuple #[.pointer (some ⟨B, 0, none⟩), .int .i64 0]) ∧ SkAt w' B C sa ∧ w.heap.size ≤ B ∧ w.heap.size ≤ C ∧ Kp Nb w w') := hid (fun w v h => by rw [← hsa]; exact of_yes 2 v [ma, mb] w (by omega) (by omega) h)
  have CO1 : Hid (∀ w v, MkSl w v [mb] → Calls Try.prog 11 #[.int .i64 6, v] w fun e w' => ∃ B C, e = .returned (.tuple #[.pointer (some ⟨B, 0, none⟩), .int .i64 0]) ∧ SkAt w' B C sb ∧ w.heap.size ≤ B ∧ w.heap.size ≤ C ∧ Kp Nb w w') := hid (fun w v h => by rw [← hsb]; exact of_yes 2 v [mb] w (by omega) (by omega) h)
  have CN : Hid (∀ w, Calls Try.prog 9 #[.int .i64 4] w fun e w' => e = .returned (.tuple #[.pointer none, .int .i64 2]) ∧ w = w') := hid (fun w => new_no 4 w (by omega) (by omega) (by decide))
  have LSD : Hid (sd.length ≤ 100000) := hid (by rw [← hsd, updP_length, hlc]; omega)
  have L6A : Hid (sa.length = 6) := hid hla
  have CPL : Hid (∀ w, Calls Try.prog 13 #[.int .i64 3, markV ma] w fun e w' => e = .returned (.agg #[.int .i64 0, .int .i64 1, .int .i64 2]) ∧ Kp Nb w w') := hid (fun w => by
    have h := places_any 1 ma w OMA.out (by omega) (by omega)
    rw [← hma, first_e3, hma] at h
    exact h)
  have CRO : Hid (∀ w v, MkSl w v [ma, mb] → Calls Try.prog 37 #[.int .i64 6, v] w fun e w' => ∃ v', e = .returned v' ∧ RowsSl cl c0 18 w' v' sa ∧ Kp Nb w w') := hid (fun w v h => by rw [← hsa]; exact rsof_any 2 v [ma, mb] w (by omega) (by omega) h)
  have CFT : Hid (∀ w, Calls Try.prog 12 #[.int .i64 1536] w fun e w' => e = .returned (.bool true) ∧ w = w') := hid (fun w => fits_any 1536 w (by omega) (by omega))
  clear hW2 hsa hsb hsc hsd hla hlb hlc hma hmb
  go_enter Try.func8, Try.ntmps8
  go_upto_region 2 with fail
  rw [show (w.alloc (.cells #[.int .u8 1, .int .u8 0, .int .u8 0, .int .u8 0, .int .u8 0, .int .u8 0, .int .u8 0, .int .u8 0, .int .u8 0, .int .u8 0, .int .u8 0, .int .u8 0, .int .u8 0, .int .u8 0, .int .u8 0, .int .u8 0] 23)).alloc (.cells #[.int .u8 2, .int .u8 0, .int .u8 0, .int .u8 0, .int .u8 0, .int .u8 0, .int .u8 0, .int .u8 0, .int .u8 0, .int .u8 0, .int .u8 0, .int .u8 0, .int .u8 0, .int .u8 0, .int .u8 0, .int .u8 0] 23) = Wx from hWx.symm]
  clear hWx
  have HWW := hid (show w.heap.size ≤ N from Nat.le_of_eq hN)
  clear hN h1 h2
  go_wp2_with (first
    | (refine wpList_load_mid (by rfl) 23 (.tmp 1) (by rfl) N 0 (by rfl) (markL ma) _ (range_of B5.out) under_mark rfl M1.out ?_)
    | (refine wpList_load_mid (by rfl) 23 (.tmp 2) (by rfl) (N + 1) 0 (by rfl) (markL mb) _ (range_of B6.out) under_mark rfl M2.out ?_)
    | (refine wpList_val (by rfl) _ _ (exec_buildSlice rfl (qs := #[(0, markV ma), (1, markV mb)]) (by simp [Act.eval, Act.put]) HM2.out) ?_))
  refine (CO2.out _ _ S2.out).mono ?_
  rintro e w3 ⟨E1, C1, rfl, s3, l1, l2, k3⟩
  have B7 := hid ((B5.out.kept K2.out (fun h => h)).kept k3 (fun h => h))
  have B8 := hid ((B6.out.kept K2.out (fun h => h)).kept k3 (fun h => h))
  have K3 := hid ((KX.out.trans K2.out (fun _ _ h => h)).trans k3 (fun _ _ h => h))
  have S3 := hid s3
  obtain ⟨W4, hW4⟩ : ∃ W, W = w3.alloc (.cells (markL mb).toArray 23 (0, 0)) := ⟨_, rfl⟩
  have HM4 := hid (make_mk1 mb OMB.out.len w3)
  rw [← hW4] at HM4
  have S4 : Hid (MkSl W4 (.slice (some ⟨w3.heap.size, 0, none⟩) 1 1) [mb]) := hid (mkSl_one OMB.out (by rw [hW4]; exact Blk.new _ _ _))
  have K4 : Hid (Kp Nb w3 W4) := hid (by rw [hW4]; exact (Kp.refl Nb w3).alloc _)
  clear B5 B6 K2 k3 KX s3 S2 HM2 CO2 hW4
  go_wp2_with (first
    | (refine wpList_load_mid (by rfl) 23 (.tmp 2) (by rfl) (N + 1) 0 (by rfl) (markL mb) _ (range_of B8.out) under_mark rfl M2.out ?_)
    | (refine wpList_val (by rfl) _ _ (exec_buildSlice rfl (qs := #[(0, markV mb)]) (by simp [Act.eval, Act.put]) HM4.out) ?_))
  refine (CO1.out _ _ S4.out).mono ?_
  rintro e w5 ⟨E2, C2, rfl, s5, l3, l4, k5⟩
  have kk := K4.out.trans k5 (fun _ _ h => h)
  have S5 := hid (S3.out.kept kk (fun h => h) (fun h => h))
  have S6 := hid s5
  have B9 := hid (B7.out.kept kk (fun h => h))
  have B10 := hid (B8.out.kept kk (fun h => h))
  have K5 := hid (K3.out.trans kk (fun _ _ h => h))
  clear K4 k5 s5 kk B7 B8 K3 S3 HM4 S4 CO1
  go_wp2_with fail
  refine (ksub_any E1 C1 E2 C2 _ _ _ S5.out S6.out HLL.out.1 HLL.out.2.1).mono ?_
  rintro e w6 ⟨E3, C3, rfl, s6, l5, l6, k6⟩
  have S7 := hid (S5.out.kept k6 (fun h => h) (fun h => h))
  rw [HSC.out] at s6
  have S8 := hid s6
  have B11 := hid (B9.out.kept k6 (fun h => h))
  have B12 := hid (B10.out.kept k6 (fun h => h))
  have K6 := hid (K5.out.trans k6 (fun _ _ h => h))
  have LS := hid (show E1 < w5.heap.size ∧ C1 < w5.heap.size ∧ N + 1 < w5.heap.size ∧ N < w5.heap.size from ⟨S5.out.lt.1, S5.out.lt.2, B10.out.lt, B9.out.lt⟩)
  have L5 := hid l5
  have L6 := hid l6
  have LK := hid K5.out.size
  clear k6 s6 l5 l6 B9 B10 K5 S5 S6 l1 l2 l3 l4
  go_wp2_with fail
  refine (CN.out _).mono ?_
  rintro e w7 ⟨rfl, rfl⟩
  have CR : Hid (Calls Try.prog 19 #[.pointer (some ⟨E3, 0, none⟩), markV ma] w6 fun e w' => e = .returned (.tuple #[]) ∧ SkAt w' E3 C3 sd ∧ Kp (Jb C3) w6 w') := hid (by
    have h := krem_any E3 C3 2 sc ma w6 S8.out OMA.out HLL.out.2.2 (by omega)
    rw [HSD.out] at h
    exact h)
  clear S8 CN
  go_upto_region 8 with fail
  go_wp2_with (refine wpList_load_mid (by rfl) 23 (.tmp 1) (by rfl) N 0 (by rfl) (markL ma) _ (range_of B11.out) under_mark rfl M1.out ?_)
  refine CR.out.mono ?_
  rintro e w8 ⟨rfl, s8, k8⟩
  have S9 := hid (S7.out.kept k8 (fun h => by have h' : E1 = C3 := h; have := LS.out; have := L6.out; omega) (fun h => by have h' : C1 = C3 := h; have := LS.out; have := L6.out; omega))
  have S10 := hid s8
  have D1 := hid (B11.out.kept k8 (fun h => by have h' : N = C3 := h; have := LS.out; have := L6.out; omega))
  have D2 := hid (B12.out.kept k8 (fun h => by have h' : N + 1 = C3 := h; have := LS.out; have := L6.out; omega))
  have K8 := hid (K6.out.trans k8 (fun i hi h => by have h' : i = C3 := h; have := LK.out; have := L6.out; omega))
  have CE3 : Hid (∀ wq, Kp Nb w8 wq → Calls Try.prog 15 #[.pointer (some ⟨E3, 0, none⟩)] wq fun e w' => e = .returned (.bool true) ∧ Kp Nb wq w') := hid (fun wq k => by
    have h := empty_any E3 C3 sd wq (S10.out.kept k (fun h => h) (fun h => h)) LSD.out
    rw [HE1.out] at h
    exact h)
  have CE1 : Hid (∀ wq, Kp Nb w8 wq → Calls Try.prog 15 #[.pointer (some ⟨E1, 0, none⟩)] wq fun e w' => e = .returned (.bool false) ∧ Kp Nb wq w') := hid (fun wq k => by
    have h := empty_any E1 C1 sa wq (S9.out.kept k (fun h => h) (fun h => h)) HLL.out.2.1
    rw [HE2.out] at h
    exact h)
  have CSZ : Hid (∀ wq, Kp Nb w8 wq → Calls Try.prog 14 #[.pointer (some ⟨E1, 0, none⟩)] wq fun e w' => e = .returned (.int .i64 6) ∧ wq = w') := hid (fun wq k => by
    have h := size_any E1 C1 sa wq (S9.out.kept k (fun h => h) (fun h => h))
    rw [L6A.out] at h
    exact h)
  have CCE : Hid (∀ wq, Kp Nb w8 wq → Calls Try.prog 23 #[.pointer (some ⟨E1, 0, none⟩), .int .i64 9] wq fun e w' => ∃ v, e = .returned v ∧ RowsSl cl c0 18 w' v sa ∧ Kp Nb wq w') := hid (fun wq k => by
    have h := gcells_any E1 C1 sa 9 wq (S9.out.kept k (fun h => h) (fun h => h)) HLL.out.2.1
    rw [show sa.take (9 : Int).toNat = sa from List.take_of_length_le (by rw [L6A.out]; decide)] at h
    exact h)
  have SAO := hid S9.out.ok
  clear s8 k8 S7 B11 B12 K6 CR LS L5 L6 LK S10 S9
  go_upto_region 9 with fail
  refine region_ghost (g0 := ((undef, undef, undef) : Value × Value × Value)) [some 46, none, none, none, none, none, none, none, none, none, none, none, none, none, none, none, none, none, none, none, none, none, none, none, none, none, none, none, none, none, none, none, none, none, none, none, none, none, none, none, none, some 0, some 1, some 2, some 3, some 4, some 5, some 6, some 7, some 8, some 9, some 10, some 11, some 12, some 13, some 14, some 15, some 16, some 17, some 18, some 19, some 20, some 21, some 22, some 23, some 24, some 25, some 26, some 27, some 28, some 29, some 30, some 31, some 32, some 33, some 34, some 35, some 36, some 37, some 38, some 39, some 40, some 41, some 42, some 43, some 44, some 45] [[(4, none)], [(41, some 0)], [(42, some 1)], [(6, none)], [(44, some 3)], [(43, some 2), (45, some 4)], [(46, some 5)], [(8, none)], [(48, some 7)], [(47, some 6), (49, some 8)], [(50, some 9)], [(10, none)], [(52, some 11)], [(51, some 10), (53, some 12)], [(54, some 13)], [(7, none)], [(56, some 15)], [(55, some 14), (57, some 16)], [(58, some 17)], [(3, none)], [(60, some 19)], [(61, some 20)], [(59, some 18), (62, some 21)], [(63, some 22)], [(3, none)], [(65, some 24)], [(66, some 25)], [(64, some 23), (67, some 26)], [(68, some 27)], [(1, none)], [(70, some 29)], [], [(71, some 30), (72, some 31)], [(69, some 28), (73, some 32)], [(74, some 33)], [(3, none)], [(76, some 35)], [(1, none)], [(2, none)], [(78, some 37), (79, some 38)], [(80, some 39)], [(77, some 36), (81, some 40)], [(75, some 34), (82, some 41)], [(83, some 42)], [], [(84, some 43), (85, some 44)], [(86, some 45)]] [some 41, some 42, some 43, some 44, some 45, some 46, some 47, some 48, some 49, some 50, some 51, some 52, some 53, some 54, some 55, some 56, some 57, some 58, some 59, some 60, some 61, some 62, some 63, some 64, some 65, some 66, some 67, some 68, some 69, some 70, some 71, some 72, some 73, some 74, some 75, some 76, some 77, some 78, some 79, some 80, some 81, some 82, some 83, some 84, some 85, some 86, some 0] (fun g => [.int .i64 0, .bool true, .bool true, .int .i64 0, .bool true, .bool true, .bool true, .int .i64 0, .bool true, .bool true, .bool true, .int .i64 2, .bool true, .bool true, .bool true, .pointer (some ⟨E3, 0, none⟩), .bool true, .bool true, .bool true, .pointer (some ⟨E1, 0, none⟩), .bool false, .bool true, .bool true, .bool true, .pointer (some ⟨E1, 0, none⟩), .int .i64 6, .bool true, .bool true, .bool true, markV ma, .agg #[.int .i64 0, .int .i64 1, .int .i64 2], .agg #[.int .i64 0, .int .i64 1, .int .i64 2], .bool true, .bool true, .bool true, .pointer (some ⟨E1, 0, none⟩), g.1, markV ma, markV mb, g.2.1, g.2.2, .bool true, .bool true, .bool true, .bool true, .bool true, .bool true]) [36, 39, 40] (FsS w8 ma mb sa) (by kernel_rfl) (by kernel_rfl) (fun g => by kernel_rfl) (by kernel_rfl) ?hS (GFrom.all (n := 47) (by kernel_rfl) ?hstep) ?hend
  case hstep =>
    refine GFrom.cons (GStep.val _ rfl rfl _ rfl (fun g => .int .i64 0) (fun _ => rfl) (fun _ => trivial) (fun bs g ev wq hS he hr => ?_)) ?_
    · have r0 : ev (.tmp 4) = .int .i64 0 := hr (4, none) (by simp); have hk := he.1; clear hr he
      go_simp
    refine GFrom.cons (GStep.val _ rfl rfl _ rfl (fun g => .bool true) (fun _ => rfl) (fun _ => trivial) (fun bs g ev wq hS he hr => ?_)) ?_
    · have r0 : ev (.tmp 41) = .int .i64 0 := hr (41, some 0) (by simp); have hk := he.1; clear hr he
      go_simp
    refine GFrom.cons (GStep.val _ rfl rfl _ rfl (fun g => .bool true) (fun _ => rfl) (fun _ => trivial) (fun bs g ev wq hS he hr => ?_)) ?_
    · have r0 : ev (.tmp 42) = .bool true := hr (42, some 1) (by simp); have hk := he.1; clear hr he
      go_simp
    refine GFrom.cons (GStep.val _ rfl rfl _ rfl (fun g => .int .i64 0) (fun _ => rfl) (fun _ => rfl) (fun bs g ev wq hS he hr => ?_)) ?_
    · have r0 : ev (.tmp 6) = .int .i64 0 := hr (6, none) (by simp); have hk := he.1; clear hr he
      go_simp
    refine GFrom.cons (GStep.val _ rfl rfl _ rfl (fun g => .bool true) (fun _ => rfl) (fun _ => rfl) (fun bs g ev wq hS he hr => ?_)) ?_
    · have r0 : ev (.tmp 44) = .int .i64 0 := hr (44, some 3) (by simp); have hk := he.1; clear hr he
      go_simp
    refine GFrom.cons (GStep.val _ rfl rfl _ rfl (fun g => .bool true) (fun _ => rfl) (fun _ => trivial) (fun bs g ev wq hS he hr => ?_)) ?_
    · have r0 : ev (.tmp 43) = .bool true := hr (43, some 2) (by simp); have r1 : ev (.tmp 45) = .bool true := hr (45, some 4) (by simp); have hk := he.1; clear hr he
      go_simp
    refine GFrom.cons (GStep.val _ rfl rfl _ rfl (fun g => .bool true) (fun _ => rfl) (fun _ => trivial) (fun bs g ev wq hS he hr => ?_)) ?_
    · have r0 : ev (.tmp 46) = .bool true := hr (46, some 5) (by simp); have hk := he.1; clear hr he
      go_simp
    refine GFrom.cons (GStep.val _ rfl rfl _ rfl (fun g => .int .i64 0) (fun _ => rfl) (fun _ => rfl) (fun bs g ev wq hS he hr => ?_)) ?_
    · have r0 : ev (.tmp 8) = .int .i64 0 := hr (8, none) (by simp); have hk := he.1; clear hr he
      go_simp
    refine GFrom.cons (GStep.val _ rfl rfl _ rfl (fun g => .bool true) (fun _ => rfl) (fun _ => rfl) (fun bs g ev wq hS he hr => ?_)) ?_
    · have r0 : ev (.tmp 48) = .int .i64 0 := hr (48, some 7) (by simp); have hk := he.1; clear hr he
      go_simp
    refine GFrom.cons (GStep.val _ rfl rfl _ rfl (fun g => .bool true) (fun _ => rfl) (fun _ => trivial) (fun bs g ev wq hS he hr => ?_)) ?_
    · have r0 : ev (.tmp 47) = .bool true := hr (47, some 6) (by simp); have r1 : ev (.tmp 49) = .bool true := hr (49, some 8) (by simp); have hk := he.1; clear hr he
      go_simp
    refine GFrom.cons (GStep.val _ rfl rfl _ rfl (fun g => .bool true) (fun _ => rfl) (fun _ => trivial) (fun bs g ev wq hS he hr => ?_)) ?_
    · have r0 : ev (.tmp 50) = .bool true := hr (50, some 9) (by simp); have hk := he.1; clear hr he
      go_simp
    refine GFrom.cons (GStep.val _ rfl rfl _ rfl (fun g => .int .i64 2) (fun _ => rfl) (fun _ => rfl) (fun bs g ev wq hS he hr => ?_)) ?_
    · have r0 : ev (.tmp 10) = .int .i64 2 := hr (10, none) (by simp); have hk := he.1; clear hr he
      go_simp
    refine GFrom.cons (GStep.val _ rfl rfl _ rfl (fun g => .bool true) (fun _ => rfl) (fun _ => rfl) (fun bs g ev wq hS he hr => ?_)) ?_
    · have r0 : ev (.tmp 52) = .int .i64 2 := hr (52, some 11) (by simp); have hk := he.1; clear hr he
      go_simp
    refine GFrom.cons (GStep.val _ rfl rfl _ rfl (fun g => .bool true) (fun _ => rfl) (fun _ => trivial) (fun bs g ev wq hS he hr => ?_)) ?_
    · have r0 : ev (.tmp 51) = .bool true := hr (51, some 10) (by simp); have r1 : ev (.tmp 53) = .bool true := hr (53, some 12) (by simp); have hk := he.1; clear hr he
      go_simp
    refine GFrom.cons (GStep.val _ rfl rfl _ rfl (fun g => .bool true) (fun _ => rfl) (fun _ => trivial) (fun bs g ev wq hS he hr => ?_)) ?_
    · have r0 : ev (.tmp 54) = .bool true := hr (54, some 13) (by simp); have hk := he.1; clear hr he
      go_simp
    refine GFrom.cons (GStep.val _ rfl rfl _ rfl (fun g => .pointer (some ⟨E3, 0, none⟩)) (fun _ => rfl) (fun _ => rfl) (fun bs g ev wq hS he hr => ?_)) ?_
    · have r0 : ev (.tmp 7) = .pointer (some ⟨E3, 0, none⟩) := hr (7, none) (by simp); have hk := he.1; clear hr he
      go_simp
    refine GFrom.cons (GStep.call _ rfl rfl _ rfl (fun g => .bool true) (fun _ => rfl) (fun _ => rfl) 15 (fun g => #[.pointer (some ⟨E3, 0, none⟩)]) (fun bs g ev wq hS he hr => ?_) (fun L g wq hd hL hS => ?_)) ?_
    · have r0 : ev (.tmp 56) = .pointer (some ⟨E3, 0, none⟩) := hr (56, some 15) (by simp); have hk := he.1; have hf := he.2; clear hr he
      go_simp
    · exact (CE3.out wq hS.kp).mono fun e w' ⟨h1, h2⟩ => ⟨h1, hS.keptN h2⟩
    refine GFrom.cons (GStep.val _ rfl rfl _ rfl (fun g => .bool true) (fun _ => rfl) (fun _ => trivial) (fun bs g ev wq hS he hr => ?_)) ?_
    · have r0 : ev (.tmp 55) = .bool true := hr (55, some 14) (by simp); have r1 : ev (.tmp 57) = .bool true := hr (57, some 16) (by simp); have hk := he.1; clear hr he
      go_simp
    refine GFrom.cons (GStep.val _ rfl rfl _ rfl (fun g => .bool true) (fun _ => rfl) (fun _ => trivial) (fun bs g ev wq hS he hr => ?_)) ?_
    · have r0 : ev (.tmp 58) = .bool true := hr (58, some 17) (by simp); have hk := he.1; clear hr he
      go_simp
    refine GFrom.cons (GStep.val _ rfl rfl _ rfl (fun g => .pointer (some ⟨E1, 0, none⟩)) (fun _ => rfl) (fun _ => rfl) (fun bs g ev wq hS he hr => ?_)) ?_
    · have r0 : ev (.tmp 3) = .pointer (some ⟨E1, 0, none⟩) := hr (3, none) (by simp); have hk := he.1; clear hr he
      go_simp
    refine GFrom.cons (GStep.call _ rfl rfl _ rfl (fun g => .bool false) (fun _ => rfl) (fun _ => rfl) 15 (fun g => #[.pointer (some ⟨E1, 0, none⟩)]) (fun bs g ev wq hS he hr => ?_) (fun L g wq hd hL hS => ?_)) ?_
    · have r0 : ev (.tmp 60) = .pointer (some ⟨E1, 0, none⟩) := hr (60, some 19) (by simp); have hk := he.1; have hf := he.2; clear hr he
      go_simp
    · exact (CE1.out wq hS.kp).mono fun e w' ⟨h1, h2⟩ => ⟨h1, hS.keptN h2⟩
    refine GFrom.cons (GStep.val _ rfl rfl _ rfl (fun g => .bool true) (fun _ => rfl) (fun _ => rfl) (fun bs g ev wq hS he hr => ?_)) ?_
    · have r0 : ev (.tmp 61) = .bool false := hr (61, some 20) (by simp); have hk := he.1; clear hr he
      go_simp
    refine GFrom.cons (GStep.val _ rfl rfl _ rfl (fun g => .bool true) (fun _ => rfl) (fun _ => trivial) (fun bs g ev wq hS he hr => ?_)) ?_
    · have r0 : ev (.tmp 59) = .bool true := hr (59, some 18) (by simp); have r1 : ev (.tmp 62) = .bool true := hr (62, some 21) (by simp); have hk := he.1; clear hr he
      go_simp
    refine GFrom.cons (GStep.val _ rfl rfl _ rfl (fun g => .bool true) (fun _ => rfl) (fun _ => trivial) (fun bs g ev wq hS he hr => ?_)) ?_
    · have r0 : ev (.tmp 63) = .bool true := hr (63, some 22) (by simp); have hk := he.1; clear hr he
      go_simp
    refine GFrom.cons (GStep.val _ rfl rfl _ rfl (fun g => .pointer (some ⟨E1, 0, none⟩)) (fun _ => rfl) (fun _ => rfl) (fun bs g ev wq hS he hr => ?_)) ?_
    · have r0 : ev (.tmp 3) = .pointer (some ⟨E1, 0, none⟩) := hr (3, none) (by simp); have hk := he.1; clear hr he
      go_simp
    refine GFrom.cons (GStep.call _ rfl rfl _ rfl (fun g => .int .i64 6) (fun _ => rfl) (fun _ => rfl) 14 (fun g => #[.pointer (some ⟨E1, 0, none⟩)]) (fun bs g ev wq hS he hr => ?_) (fun L g wq hd hL hS => ?_)) ?_
    · have r0 : ev (.tmp 65) = .pointer (some ⟨E1, 0, none⟩) := hr (65, some 24) (by simp); have hk := he.1; have hf := he.2; clear hr he
      go_simp
    · exact (CSZ.out wq hS.kp).mono fun e w' ⟨h1, h2⟩ => ⟨h1, by rw [← h2]; exact hS⟩
    refine GFrom.cons (GStep.val _ rfl rfl _ rfl (fun g => .bool true) (fun _ => rfl) (fun _ => rfl) (fun bs g ev wq hS he hr => ?_)) ?_
    · have r0 : ev (.tmp 66) = .int .i64 6 := hr (66, some 25) (by simp); have hk := he.1; clear hr he
      go_simp
    refine GFrom.cons (GStep.val _ rfl rfl _ rfl (fun g => .bool true) (fun _ => rfl) (fun _ => trivial) (fun bs g ev wq hS he hr => ?_)) ?_
    · have r0 : ev (.tmp 64) = .bool true := hr (64, some 23) (by simp); have r1 : ev (.tmp 67) = .bool true := hr (67, some 26) (by simp); have hk := he.1; clear hr he
      go_simp
    refine GFrom.cons (GStep.val _ rfl rfl _ rfl (fun g => .bool true) (fun _ => rfl) (fun _ => trivial) (fun bs g ev wq hS he hr => ?_)) ?_
    · have r0 : ev (.tmp 68) = .bool true := hr (68, some 27) (by simp); have hk := he.1; clear hr he
      go_simp
    refine GFrom.cons (GStep.val _ rfl rfl _ rfl (fun g => markV ma) (fun _ => rfl) (fun _ => rfl) (fun bs g ev wq hS he hr => ?_)) ?_
    · have r0 : ev (.tmp 1) = .pointer (some ⟨N, 0, none⟩) := hr (1, none) (by simp); have hk := he.1; clear hr he
      exact exec_load rfl r0 (load_mark OMA.out (range_of (D1.out.kept hS.kp (fun h => h))))
    refine GFrom.cons (GStep.call _ rfl rfl _ rfl (fun g => .agg #[.int .i64 0, .int .i64 1, .int .i64 2]) (fun _ => rfl) (fun _ => rfl) 13 (fun g => #[.int .i64 3, markV ma]) (fun bs g ev wq hS he hr => ?_) (fun L g wq hd hL hS => ?_)) ?_
    · have r0 : ev (.tmp 70) = markV ma := hr (70, some 29) (by simp); have hk := he.1; have hf := he.2; clear hr he
      go_simp
    · exact (CPL.out wq).mono fun e w' ⟨h1, h2⟩ => ⟨h1, hS.keptN h2⟩
    refine GFrom.cons (GStep.val _ rfl rfl _ rfl (fun g => .agg #[.int .i64 0, .int .i64 1, .int .i64 2]) (fun _ => rfl) (fun _ => rfl) (fun bs g ev wq hS he hr => ?_)) ?_
    · have hk := he.1; clear hr he
      go_simp
    refine GFrom.cons (GStep.val _ rfl rfl _ rfl (fun g => .bool true) (fun _ => rfl) (fun _ => rfl) (fun bs g ev wq hS he hr => ?_)) ?_
    · have r0 : ev (.tmp 71) = .agg #[.int .i64 0, .int .i64 1, .int .i64 2] := hr (71, some 30) (by simp); have r1 : ev (.tmp 72) = .agg #[.int .i64 0, .int .i64 1, .int .i64 2] := hr (72, some 31) (by simp); have hk := he.1; clear hr he
      have e1 := eq_p3 wq
      go_simp
    refine GFrom.cons (GStep.val _ rfl rfl _ rfl (fun g => .bool true) (fun _ => rfl) (fun _ => trivial) (fun bs g ev wq hS he hr => ?_)) ?_
    · have r0 : ev (.tmp 69) = .bool true := hr (69, some 28) (by simp); have r1 : ev (.tmp 73) = .bool true := hr (73, some 32) (by simp); have hk := he.1; clear hr he
      go_simp
    refine GFrom.cons (GStep.val _ rfl rfl _ rfl (fun g => .bool true) (fun _ => rfl) (fun _ => trivial) (fun bs g ev wq hS he hr => ?_)) ?_
    · have r0 : ev (.tmp 74) = .bool true := hr (74, some 33) (by simp); have hk := he.1; clear hr he
      go_simp
    refine GFrom.cons (GStep.val _ rfl rfl _ rfl (fun g => .pointer (some ⟨E1, 0, none⟩)) (fun _ => rfl) (fun _ => rfl) (fun bs g ev wq hS he hr => ?_)) ?_
    · have r0 : ev (.tmp 3) = .pointer (some ⟨E1, 0, none⟩) := hr (3, none) (by simp); have hk := he.1; clear hr he
      go_simp
    refine GFrom.cons (GStep.callm _ rfl _ rfl (fun _ => rfl) 23 (fun g => #[.pointer (some ⟨E1, 0, none⟩), .int .i64 9]) (fun bs g ev wq hS he hr => ?_) (fun L g wq hL hd hcl hS => ?_)) ?_
    · have r0 : ev (.tmp 76) = .pointer (some ⟨E1, 0, none⟩) := hr (76, some 35) (by simp); have hk := he.1; have hf := he.2; clear hr he
      go_simp
    · refine (CCE.out wq hS.kp).mono ?_
      rintro e w' ⟨r, rfl, hb, kn⟩
      have hn := hS.keptN kn
      exact ⟨r, (r, g.2), rfl, rfl, old_set r hL rfl, hn.kp, fun _ => hb, fun e1 => hn.ms (by simpa [bitsAt, upd] using e1), fun e1 => hn.rof (by simpa [bitsAt, upd] using e1)⟩
    refine GFrom.cons (GStep.val _ rfl rfl _ rfl (fun g => markV ma) (fun _ => rfl) (fun _ => rfl) (fun bs g ev wq hS he hr => ?_)) ?_
    · have r0 : ev (.tmp 1) = .pointer (some ⟨N, 0, none⟩) := hr (1, none) (by simp); have hk := he.1; clear hr he
      exact exec_load rfl r0 (load_mark OMA.out (range_of (D1.out.kept hS.kp (fun h => h))))
    refine GFrom.cons (GStep.val _ rfl rfl _ rfl (fun g => markV mb) (fun _ => rfl) (fun _ => rfl) (fun bs g ev wq hS he hr => ?_)) ?_
    · have r0 : ev (.tmp 2) = .pointer (some ⟨(N + 1), 0, none⟩) := hr (2, none) (by simp); have hk := he.1; clear hr he
      exact exec_load rfl r0 (load_mark OMB.out (range_of (D2.out.kept hS.kp (fun h => h))))
    refine GFrom.cons (GStep.make _ rfl _ rfl (fun _ => rfl) (fun L g ev wq hL hd hcl hS he hr => ?_)) ?_
    · have r0 : ev (.tmp 78) = markV ma := hr (78, some 37) (by simp); have r1 : ev (.tmp 79) = markV mb := hr (79, some 38) (by simp); clear hr he
      have hn := hS.keptN ((Kp.refl Nb wq).alloc (.cells (markL ma ++ markL mb).toArray 23 (0, 0)))
      have hc := mkSl_two OMA.out OMB.out (Blk.new wq 23 (markL ma ++ markL mb))
      exact ⟨.slice (some ⟨wq.heap.size, 0, none⟩) 2 2, (g.1, .slice (some ⟨wq.heap.size, 0, none⟩) 2 2, g.2.2), _, exec_buildSlice rfl (by simp [r0, r1]) (make_two ma mb OMA.out.len OMB.out.len wq), rfl, old_set _ hL rfl, hn.kp, fun e1 => hn.cel (by simpa [bitsAt, upd] using e1), fun _ => hc, fun e1 => hn.rof (by simpa [bitsAt, upd] using e1)⟩
    refine GFrom.cons (GStep.callm _ rfl _ rfl (fun _ => rfl) 37 (fun g => #[.int .i64 6, g.2.1]) (fun bs g ev wq hS he hr => ?_) (fun L g wq hL hd hcl hS => ?_)) ?_
    · have r0 : ev (.tmp 80) = g.2.1 := hr (80, some 39) (by simp); have hk := he.1; have hf := he.2; clear hr he
      go_simp
    · refine (CRO.out wq _ (hS.ms (by simp [bitsAt, hd 39 (by kernel_rfl)]))).mono ?_
      rintro e w' ⟨r, rfl, hb, kn⟩
      have hn := hS.keptN kn
      exact ⟨r, (g.1, g.2.1, r), rfl, rfl, old_set r hL rfl, hn.kp, fun e1 => hn.cel (by simpa [bitsAt, upd] using e1), fun e1 => hn.ms (by simpa [bitsAt, upd] using e1), fun _ => hb⟩
    refine GFrom.cons (GStep.call _ rfl rfl _ rfl (fun g => .bool true) (fun _ => rfl) (fun _ => rfl) 26 (fun g => #[g.1, g.2.2]) (fun bs g ev wq hS he hr => ?_) (fun L g wq hd hL hS => ?_)) ?_
    · have r0 : ev (.tmp 77) = g.1 := hr (77, some 36) (by simp); have r1 : ev (.tmp 81) = g.2.2 := hr (81, some 40) (by simp); have hk := he.1; have hf := he.2; clear hr he
      go_simp
    · exact (rsame_any g.1 g.2.2 sa sa wq (hS.cel (by simp [bitsAt, hd 36 (by kernel_rfl)])) (hS.rof (by simp [bitsAt, hd 40 (by kernel_rfl)])) SAO.out SAO.out HLL.out.2.1).mono fun e w' ⟨h1, h2⟩ => ⟨by rw [h1]; unfold sameB; simp, hS.keptN h2⟩
    refine GFrom.cons (GStep.val _ rfl rfl _ rfl (fun g => .bool true) (fun _ => rfl) (fun _ => trivial) (fun bs g ev wq hS he hr => ?_)) ?_
    · have r0 : ev (.tmp 75) = .bool true := hr (75, some 34) (by simp); have r1 : ev (.tmp 82) = .bool true := hr (82, some 41) (by simp); have hk := he.1; clear hr he
      go_simp
    refine GFrom.cons (GStep.val _ rfl rfl _ rfl (fun g => .bool true) (fun _ => rfl) (fun _ => trivial) (fun bs g ev wq hS he hr => ?_)) ?_
    · have r0 : ev (.tmp 83) = .bool true := hr (83, some 42) (by simp); have hk := he.1; clear hr he
      go_simp
    refine GFrom.cons (GStep.call _ rfl rfl _ rfl (fun g => .bool true) (fun _ => rfl) (fun _ => rfl) 12 (fun g => #[.int .i64 1536]) (fun bs g ev wq hS he hr => ?_) (fun L g wq hd hL hS => ?_)) ?_
    · have hk := he.1; have hf := he.2; clear hr he
      go_simp
    · exact (CFT.out wq).mono fun e w' ⟨h1, h2⟩ => ⟨h1, by rw [← h2]; exact hS⟩
    refine GFrom.cons (GStep.val _ rfl rfl _ rfl (fun g => .bool true) (fun _ => rfl) (fun _ => trivial) (fun bs g ev wq hS he hr => ?_)) ?_
    · have r0 : ev (.tmp 84) = .bool true := hr (84, some 43) (by simp); have r1 : ev (.tmp 85) = .bool true := hr (85, some 44) (by simp); have hk := he.1; clear hr he
      go_simp
    refine GFrom.cons (GStep.val _ rfl rfl _ rfl (fun g => .bool true) (fun _ => rfl) (fun _ => trivial) (fun bs g ev wq hS he hr => ?_)) ?_
    · have r0 : ev (.tmp 86) = .bool true := hr (86, some 45) (by simp); have hk := he.1; clear hr he
      go_simp
    exact GFrom.nil
  case hS => exact ⟨(Kp.refl Nb w8).drew, fun h => by simp at h, fun h => by simp at h, fun h => by simp at h⟩
  case hend =>
    intro g wy hy
    have K9 := hid (K8.out.trans hy.kp (fun _ _ h => h))
    clear hy
    simp only [putAll, List.zip_cons_cons, List.zip_nil_right, List.foldl_cons, List.foldl_nil, Act.put, List.setIfInBounds_toArray, List.set_cons_zero, List.set_cons_succ]
    go_wp2
    go_ret
    exact ⟨rfl, K9.out⟩

end Go.Proofs.Yteedceepoindeaa
