/-
  Layer 10: the walk of the reference's Get. No condition but that the bytes are bytes. (Printed by gen_reads10.py.)
-/
import Derived.Test.YtofjkaemakdmeaaCelN
namespace Go.Proofs.Ytofjkaemakdmeaa
open Go.RowKit

theorem readN_isBytes (zs : List Int) (e most : Int) (hz : IsBytes zs) : IsBytes (readN zs e most).2.1 := by
  have hn : IsBytes [] := fun i => by simp
  unfold readN
  split
  · exact hz
  · split
    · exact hn
    · split
      · exact hn
      · exact hz.drop _
theorem fixN_isBytes (zs : List Int) (e n : Int) (hz : IsBytes zs) : IsBytes (fixN zs e n).1 ∧ IsBytes (fixN zs e n).2.1 := by
  have hn : IsBytes [] := fun i => by simp
  unfold fixN
  split
  · exact ⟨hn, hz⟩
  · split
    · exact ⟨hn, hn⟩
    · split
      · exact ⟨hn, hn⟩
      · exact ⟨hz.take _, hz.drop _⟩
theorem fixN_full (zs : List Int) (e : Int) (n : Nat) (h : (fixN zs e n).2.2 = 0) : (fixN zs e n).1.length = n := by
  unfold fixN at h ⊢
  split at h
  · rename_i h1; exact absurd h h1
  · split at h
    · cases h
    · rename_i h1 h2
      split at h
      · cases h
      · rename_i h3
        rw [if_neg h1, if_neg h2, if_neg h3, Int.toNat_natCast]
        show (zs.take n).length = n
        rw [List.length_take]
        omega
theorem chkF_beTo (bs : List Int) : ∀ j, j ≤ bs.length → chkF (bs.take j) = beTo bs j
  | 0, _ => rfl
  | j + 1, h => by
    rw [chkF_snoc bs j (by omega), chkF_beTo bs j (by omega)]
    rfl
def RgetR (w5 : World) (C : Nat) (c : Int) (mk bs : List Int) (i : Value) (wr : World) : Prop :=
  ∃ j : Nat, j ≤ 8 ∧ i = .int .i64 j ∧ Hid (Blk wr C 26 (cellL c mk (chkF (bs.take j)))) ∧ Hid (Kp (Jb C) w5 wr)
theorem store_u64 {w : World} {B i : Nat} {vs : List Value} {t : Nat} (h : Blk w B t vs) (hi : i < vs.length) (x : Int) : (Instr.storeAt 24 (.pointer (some ⟨B, i, none⟩)) (.int .u64 x)).run Try.prog w = .ok () (w.setCell ⟨B, i, none⟩ (.int .u64 x)) := by
  have hc := h.cell i
  rw [List.getElem?_eq_getElem hi] at hc
  have hf := h.frozen i
  go_simp
theorem build_cm (c : Int) (m : List Int) (hm : m.length = 16) (w : World) : (Instr.build 26 #[(0, .int .i64 c), (1, markV m)]).run Try.prog w = .ok (cv (c, m, 0)) w := by
  obtain ⟨m0, m1, m2, m3, m4, m5, m6, m7, m8, m9, m10, m11, m12, m13, m14, m15, rfl⟩ := sixteen m hm
  exact run_build w 26 _ _ (by kernel_rfl)
theorem cl_there {w : World} {B : Nat} {zs : List Value} {c : Int} {m : List Int} {k : Int} (h : Blk w B 26 zs) (hl : zs.length = 18) (hm : m.length = 16) : w.there B 0 (cellL c m k).toArray.size := by
  rw [List.size_toArray, cellL_length _ _ _ hm]; exact h.there 0 18 (by omega)
theorem cl_sized {c : Int} {m : List Int} {k : Int} (hm : m.length = 16) : (Try.prog.info? 26).map (·.size) = some (cellL c m k).toArray.size := by rw [List.size_toArray, cellL_length _ _ _ hm]; exact cell_info
def RgetP (w : World) (B : Nat) (R : Cel × List Int × Int) (e : Ending) (w' : World) : Prop := e = .returned (cv R.1) ∧ RefAt w' B R.2.1 R.2.2 ∧ Kp (Jb B) w w'
set_option maxRecDepth 100000 in
set_option maxHeartbeats 4000000 in
theorem rget_any (B : Nat) (zs : List Int) (w : World) (h : RefAt w B zs 0) (hz : IsBytes zs) :
    Calls Try.prog 25 #[.pointer (some ⟨B, 0, none⟩)] w (RgetP w B (getC zs)) := by
  have r1 := readN_range zs 0 18446744073709551615 hz
  have b1 := readN_isBytes zs 0 18446744073709551615 hz
  have c1 := fun w h => refi_number B zs 0 18446744073709551615 w h hz
  rw [show getC zs = getOf (zagI (readN zs 0 18446744073709551615).1) (fixN (readN zs 0 18446744073709551615).2.1 (readN zs 0 18446744073709551615).2.2 16).1 (fixN (fixN (readN zs 0 18446744073709551615).2.1 (readN zs 0 18446744073709551615).2.2 16).2.1 (fixN (readN zs 0 18446744073709551615).2.1 (readN zs 0 18446744073709551615).2.2 16).2.2 8) from rfl]
  generalize readN zs 0 18446744073709551615 = t1 at r1 b1 c1 ⊢
  obtain ⟨u, z1, e1⟩ := t1
  dsimp only at r1 b1 c1 ⊢
  have b2 := fixN_isBytes z1 e1 16 b1
  have l2 := fixN_le z1 e1 16 (by decide)
  have c3 := refi_fixed B z1 e1 16
  generalize fixN z1 e1 16 = t2 at b2 l2 c3 ⊢
  obtain ⟨f1, z2, e2⟩ := t2
  dsimp only at b2 l2 c3 ⊢
  have b3 := fixN_isBytes z2 e2 8 b2.2
  have l3 := fixN_full z2 e2 8
  have c5 := refi_fixed B z2 e2 8
  rw [show ((8 : Nat) : Int) = 8 from rfl] at l3
  generalize fixN z2 e2 8 = t3 at b3 l3 c5 ⊢
  obtain ⟨f2, z3, e3⟩ := t3
  dsimp only at b3 l3 c5
  have HC2 : Hid (∀ w, Calls Try.prog 50 #[.int .u64 u] w fun e w' => e = .returned (.int .i64 (zagI u)) ∧ w = w') := hid (fun w => refn_zag u w r1.1 r1.2)
  obtain ⟨n, hn⟩ : ∃ n, zagI u = n := ⟨_, rfl⟩
  rw [hn] at HC2 ⊢
  have HC4 : Hid (∀ w, Calls Try.prog 52 #[.string (st f1)] w fun e w' => e = .returned (markV (markOf f1)) ∧ Kp Nb w w') := hid (fun w => rmark_any f1 w b2.1 (by omega))
  have OM1 : Hid ((markOf f1).length = 16) := hid (markOf_length f1 (by omega))
  obtain ⟨s1, hs1⟩ : ∃ s, st f1 = s := ⟨_, rfl⟩
  have HL3 := hid l3
  have HB3 := hid b3.1
  obtain ⟨s2, hs2⟩ : ∃ s, st f2 = s := ⟨_, rfl⟩
  have HI : Hid (∀ (i : Nat), i < f2.length → ∀ w, (Instr.index 9 (.string s2) (.int .i64 (i : Int))).run Try.prog w = .ok (.int .u8 (f2[i]?.getD 0)) w) := hid (fun i hi w => by rw [← hs2]; exact idx_any f2 w b3.1 i hi)
  rw [hs1] at c3 HC4
  rw [hs2] at c5
  have HC1 := hid c1
  have HC3 := hid c3
  have HC5 := hid c5
  obtain ⟨m1, hm1⟩ : ∃ m, markOf f1 = m := ⟨_, rfl⟩
  obtain ⟨R, hR⟩ : ∃ R, getOf n f1 (f2, z3, e3) = R := ⟨_, rfl⟩
  have HRA : Hid (e3 ≠ 0 → R = (c0, z3, e3)) := hid (fun he => by
    rw [← hR]; unfold getOf failS failE zeroC c0
    dsimp only
    split
    · first | rfl | rw [if_neg he]
    · rw [if_neg (fun h => he h.1), if_neg (fun h => he h.1)])
  have HRB : Hid (e3 = 0 → crightB n = true → R = ((n, m1, chkF f2), z3, 0)) := hid (fun he hc => by
    rw [← hR, ← hm1]; unfold getOf
    dsimp only
    rw [if_pos hc, if_pos he, he])
  have HRC : Hid (e3 = 0 → crightB n = false → R = (c0, failS z3 0 12, failE 0 12)) := hid (fun he hc => by
    rw [← hR]; unfold getOf zeroC c0
    dsimp only
    rw [if_neg (by rw [hc]; decide), he])
  rw [hR]
  rw [hm1] at HC4 OM1
  have N0 := hid (Blk.new w 26 (cl c0))
  have K0 := hid ((Kp.refl (Jb B) w).alloc (.cells (cl c0).toArray 26))
  have E0 := hid (h.kept ((Kp.refl Nb w).alloc (.cells (cl c0).toArray 26)) (fun h => h))
  have LB := hid h.lt
  clear h hz r1 b1 c1 b2 l2 c3 b3 l3 c5 hn hs1 hs2 hm1 hR
  go_enter Try.func25, Try.ntmps25
  go_wp2_with fail
  refine (HC1.out _ E0.out).mono ?_
  rintro e w1 ⟨rfl, x1, k1⟩
  have N1 := hid (N0.out.kept k1 (fun h => by have h' : w.heap.size = B := h; have := LB.out; omega))
  have K1 := hid (K0.out.trans k1 (fun _ _ h => h))
  have X1 := hid x1
  clear N0 K0 E0 x1 k1
  generalize hN : w.heap.size = N at *
  have LN : Hid (w.heap.size ≤ N) := hid (by omega)
  go_wp2_with fail
  refine (HC2.out _).mono ?_
  rintro e w1' ⟨rfl, rfl⟩
  go_wp2_with fail
  refine (HC3.out _ X1.out).mono ?_
  rintro e w2 ⟨rfl, x2, k2⟩
  have NB : Hid (N ≠ B) := hid (by have := LB.out; omega)
  have N2 := hid (N1.out.kept k2 NB.out)
  have K2 := hid (K1.out.trans k2 (fun _ _ h => h))
  have X2 := hid x2
  clear N1 K1 X1 x2 k2
  go_wp2_with fail
  refine (HC4.out _).mono ?_
  rintro e w3 ⟨rfl, k3⟩
  have hz := Blk.new w3 23 (markL (List.replicate 16 0))
  obtain ⟨M4, hM4⟩ : ∃ M4, M4 = w3.heap.size := ⟨_, rfl⟩
  obtain ⟨w4, hw4⟩ : ∃ W, W = (w3.alloc (.cells (markL (List.replicate 16 0)).toArray 23)).setCells w3.heap.size 0 (markL m1) := ⟨_, rfl⟩
  have k4 : Kp Nb w3 w4 := by rw [hw4]; exact Kp.setCells (fun h => absurd h (Nat.lt_irrefl _)) _ 0 _ ((Kp.refl Nb w3).alloc _)
  have hsz : (markL m1).toArray.size = 16 := by rw [List.size_toArray, markL_length, OM1.out]
  have TH : Hid ((w3.alloc (.cells (markL (List.replicate 16 0)).toArray 23)).there w3.heap.size 0 (markL m1).toArray.size) := hid (by rw [hsz]; exact hz.there 0 16 (by simp [markL_length]))
  have SI : Hid ((Try.prog.info? 23).map (·.size) = some (markL m1).toArray.size) := hid (by rw [hsz]; exact mark_info)
  have ON := hid (all_oneCell_toArray (markL_one m1))
  have M0 : Hid (Blk w4 M4 23 (markL m1)) := hid (by rw [hw4, hM4]; exact row_set hz (by rw [markL_length, markL_length, OM1.out]; rfl))
  have N4 := hid ((N2.out.kept k3 (fun h => h)).kept k4 (fun h => h))
  have K4 := hid ((K2.out.trans k3 (fun _ _ h => h.elim)).trans k4 (fun _ _ h => h.elim))
  have X4 := hid ((X2.out.kept k3 (fun h => h)).kept k4 (fun h => h))
  have MB : Hid (M4 ≠ B) := hid (by have := (X2.out.kept k3 (fun h => h)).lt; omega)
  clear N2 K2 X2 k3 k4 hz hsz
  go_wp2_with (refine wpList_store_mid (by rfl) 23 (.tmp 4) (.tmp 13) (by rfl) w3.heap.size 0 (markL m1).toArray (by rfl) (by rfl) TH.out SI.out ON.out ?_)
  rw [show (w3.alloc (.cells #[.int .u8 0, .int .u8 0, .int .u8 0, .int .u8 0, .int .u8 0, .int .u8 0, .int .u8 0, .int .u8 0, .int .u8 0, .int .u8 0, .int .u8 0, .int .u8 0, .int .u8 0, .int .u8 0, .int .u8 0, .int .u8 0] 23)).setCells w3.heap.size 0 (markL m1) = w4 from hw4.symm, ← hM4]
  clear hw4 hM4 TH SI ON
  refine (HC5.out _ X4.out).mono ?_
  rintro e w5 ⟨rfl, x5, k5⟩
  have N5 := hid (N4.out.kept k5 NB.out)
  have M5 := hid (M0.out.kept k5 MB.out)
  have K5 := hid (K4.out.trans k5 (fun _ _ h => h))
  have X5 := hid x5
  clear N4 M0 K4 X4 x5 k5
  have c1 := Blk.cell X5.out 1
  simp only [List.getElem?_cons_zero, List.getElem?_cons_succ] at c1
  have TN : ∀ (c : Int) (m : List Int) (k : Int) (wx : World), m.length = 16 → Blk wx N 26 (cl c0) → wx.there N 0 (cellL c m k).toArray.size := fun c m k wx hm hb => cl_there hb (cl_length c0_ok) hm
  have HTN := hid TN
  clear TN
  by_cases he : e3 = 0
  · subst he
    have HO2 := hid (HL3.out rfl)
    have hz := Blk.new w5 26 (cl c0)
    obtain ⟨C, hC⟩ : ∃ C, C = w5.heap.size := ⟨_, rfl⟩
    obtain ⟨w6, hw6⟩ : ∃ W, W = (w5.alloc (.cells (cl c0).toArray 26)).setCells w5.heap.size 0 (cellL n m1 0) := ⟨_, rfl⟩
    have k6 : Kp Nb w5 w6 := by rw [hw6]; exact Kp.setCells (fun h => absurd h (Nat.lt_irrefl _)) _ 0 _ ((Kp.refl Nb w5).alloc _)
    have TH : Hid ((w5.alloc (.cells (cl c0).toArray 26)).there w5.heap.size 0 (cellL n m1 0).toArray.size) := hid (cl_there hz (cl_length c0_ok) OM1.out)
    have SI := hid (cl_sized (c := n) (k := 0) OM1.out)
    have ON := hid (all_oneCell_toArray (cellL_one n m1 0))
    have C6 : Hid (Blk w6 C 26 (cellL n m1 0)) := hid (by rw [hw6, hC]; exact row_set hz (by rw [cl_length c0_ok, cellL_length _ _ _ OM1.out]))
    have N6 := hid (N5.out.kept k6 (fun h => h))
    have K6 := hid (K5.out.trans k6 (fun _ _ h => h.elim))
    have X6 := hid (X5.out.kept k6 (fun h => h))
    have NC : Hid (N ≠ C) := hid (by have := N5.out.lt; omega)
    have BCn : Hid (B ≠ C) := hid (by have := X5.out.lt; omega)
    have LC : Hid (w.heap.size ≤ C) := hid (by have := K5.out.size; omega)
    clear hz k6 N5 K5 X5
    go_wp2_with (first
      | (refine wpList_val (by rfl) (cellV n m1 0) _ (exec_build rfl (by simp [Act.eval, Act.put]) (build_cm n m1 OM1.out _)) ?_)
      | (refine wpList_load_mid (by rfl) 23 (.tmp 4) (by rfl) M4 0 (by rfl) (markL m1) _ (range_of M5.out) under_mark rfl (mark_infoL m1 OM1.out) ?_)
      | (refine wpList_store_mid (by rfl) 26 (.tmp 6) (.tmp 24) (by rfl) w5.heap.size 0 (cellL n m1 0).toArray (by rfl) (by rfl) TH.out SI.out ON.out ?_))
    rw [show (w5.alloc (.cells #[.int .i64 0, .int .u8 0, .int .u8 0, .int .u8 0, .int .u8 0, .int .u8 0, .int .u8 0, .int .u8 0, .int .u8 0, .int .u8 0, .int .u8 0, .int .u8 0, .int .u8 0, .int .u8 0, .int .u8 0, .int .u8 0, .int .u8 0, .int .u64 0] 26)).setCells w5.heap.size 0 (cellL n m1 0) = w6 from hw6.symm, ← hC]
    clear hw6 hC TH SI ON c1 M5
    go_loopw [7] (RgetR w6 C n m1 f2) (fun i _ => 8 - (intOf i).toNat)
    case atStart => exact ⟨0, by omega, rfl, C6, Kp.refl _ _⟩
    case round =>
      clear C6
      obtain ⟨j, hj, rfl, HA, HK⟩ := hrel
      by_cases hlt : j < 8
      · have e1 := HI.out j (by have := HO2.out; omega)
        have HQ : Hid (chkF (f2.take (j + 1)) = IntKind.u64.wrap (IntKind.u64.wrap (chkF (f2.take j) * 256) + (f2[j]?.getD 0))) := hid (by
          have := HO2.out
          rw [chkF_beTo f2 (j + 1) (by omega), chkF_beTo f2 j (by omega)]
          exact (beTo_next f2 HB3.out j hlt (by omega)).symm)
        have hb := HB3.out j
        obtain ⟨x, hx⟩ : ∃ x, f2[j]?.getD 0 = x := ⟨_, rfl⟩
        rw [hx] at e1 HQ hb
        obtain ⟨q, hq⟩ : ∃ q, chkF (f2.take j) = q := ⟨_, rfl⟩
        rw [hq] at HA HQ
        obtain ⟨q1, hq1⟩ : ∃ q1, IntKind.u64.wrap (q * 256) = q1 := ⟨_, rfl⟩
        obtain ⟨q2, hq2⟩ : ∃ q2, IntKind.u64.wrap (q1 + x) = q2 := ⟨_, rfl⟩
        rw [hq1, hq2] at HQ
        have I1 := hid e1
        have E1 := hid hq1
        have E1' : Hid (q * 256 % 18446744073709551616 = q1) := hid (by rw [← hq1, IntKind.wrap_u64])
        have E2 := hid hq2
        have E2' : Hid ((q1 + x) % 18446744073709551616 = q2) := hid (by rw [← hq2, IntKind.wrap_u64])
        have E3 : Hid (IntKind.u64.wrap x = x) := hid (by rw [IntKind.wrap_u64]; omega)
        have E3' : Hid (x % 18446744073709551616 = x) := hid (by omega)
        have LH : Hid ((cellL n m1 q).length = 18) := hid (cellL_length _ _ _ OM1.out)
        have HS17 : Hid ((cellL n m1 q).set 17 (.int .u64 q2) = cellL n m1 q2) := hid (cell_set17 n m1 q q2 OM1.out)
        clear hx hq hq1 hq2 e1 hb
        go_upto_region 10 with fail
        refine region_vals_last (n := 9) [none, none, none, none, none, none, none, none, none, none, none, none, none, none, none, none, none, none, none, none, none, none, none, none, none, none, none, none, none, some 0, some 1, some 2, some 3, some 4, some 5, some 6, some 7, some 8, none, none, none, none, none, none, none] [[(6, none)], [(29, some 0)], [(30, some 1)], [(5, none)], [(7, none)], [(32, some 3), (33, some 4)], [(34, some 5)], [(31, some 2), (35, some 6)], [(6, none)], [(37, some 8), (36, some 7)]] [some 29, some 30, some 31, some 32, some 33, some 34, some 35, some 36, some 37] [.pointer (some ⟨C, 17, none⟩), .int .u64 q, .int .u64 q1, .string s2, .int .i64 (j : Int), .int .u8 x, .int .u64 x, .int .u64 q2, .pointer (some ⟨C, 17, none⟩)] (fun w' => Hid (Kp Nb wr w')) (by kernel_rfl) (by kernel_rfl) (by kernel_rfl) (by kernel_rfl) ({ dst := none, op := Op.store 24 (Operand.tmp 37) (Operand.tmp 36), type := 0, pos := "ref.go:48", after := #[{ on := 8, ground := Ground.data }, { on := 7, ground := Ground.data }, { on := 0, ground := Ground.phase }, { on := 1, ground := Ground.phase }, { on := 2, ground := Ground.phase }, { on := 3, ground := Ground.phase }, { on := 4, ground := Ground.phase }, { on := 5, ground := Ground.phase }, { on := 6, ground := Ground.phase }, { on := 7, ground := Ground.phase }], guard := none }) rfl rfl (by kernel_rfl) (by kernel_rfl) ?hS (?hstep : VFrom _ _ _ _ _ _ 0 9).start ?hend
        case hstep =>
          refine VFrom.cons (VStep.val _ rfl _ rfl (.pointer (some ⟨C, 17, none⟩)) rfl trivial (fun ev wq hS he hr => ?_)) ?_
          · have r0 : ev (.tmp 6) = .pointer (some ⟨C, 0, none⟩) := hr (6, none) (by simp); have hk := he.1; clear hr he
            go_simp
          refine VFrom.cons (VStep.val _ rfl _ rfl (.int .u64 q) rfl trivial (fun ev wq hS he hr => ?_)) ?_
          · have r0 : ev (.tmp 29) = .pointer (some ⟨C, 17, none⟩) := hr (29, some 0) (by simp); have hk := he.1; clear hr he
            have c0 := cell_k OM1.out (HA.out.kept hS.out (fun h => h))
            go_simp
          refine VFrom.cons (VStep.val _ rfl _ rfl (.int .u64 q1) rfl trivial (fun ev wq hS he hr => ?_)) ?_
          · have r0 : ev (.tmp 30) = .int .u64 q := hr (30, some 1) (by simp); have hk := he.1; clear hr he
            have e1 := E1.out; have e2 := E1'.out
            go_simp
          refine VFrom.cons (VStep.val _ rfl _ rfl (.string s2) rfl trivial (fun ev wq hS he hr => ?_)) ?_
          · have r0 : ev (.tmp 5) = .string s2 := hr (5, none) (by simp); have hk := he.1; clear hr he
            go_simp
          refine VFrom.cons (VStep.val _ rfl _ rfl (.int .i64 (j : Int)) rfl trivial (fun ev wq hS he hr => ?_)) ?_
          · have r0 : ev (.tmp 7) = .int .i64 (j : Int) := hr (7, none) (by simp); have hk := he.1; clear hr he
            go_simp
          refine VFrom.cons (VStep.val _ rfl _ rfl (.int .u8 x) rfl trivial (fun ev wq hS he hr => ?_)) ?_
          · have r0 : ev (.tmp 32) = .string s2 := hr (32, some 3) (by simp); have r1 : ev (.tmp 33) = .int .i64 (j : Int) := hr (33, some 4) (by simp); have hk := he.1; clear hr he
            have e1 := I1.out
            go_simp
          refine VFrom.cons (VStep.val _ rfl _ rfl (.int .u64 x) rfl trivial (fun ev wq hS he hr => ?_)) ?_
          · have r0 : ev (.tmp 34) = .int .u8 x := hr (34, some 5) (by simp); have hk := he.1; clear hr he
            have e1 := E3.out; have e2 := E3'.out
            go_simp
          refine VFrom.cons (VStep.val _ rfl _ rfl (.int .u64 q2) rfl trivial (fun ev wq hS he hr => ?_)) ?_
          · have r0 : ev (.tmp 31) = .int .u64 q1 := hr (31, some 2) (by simp); have r1 : ev (.tmp 35) = .int .u64 x := hr (35, some 6) (by simp); have hk := he.1; clear hr he
            have e1 := E2.out; have e2 := E2'.out
            go_simp
          refine VFrom.cons (VStep.val _ rfl _ rfl (.pointer (some ⟨C, 17, none⟩)) rfl trivial (fun ev wq hS he hr => ?_)) ?_
          · have r0 : ev (.tmp 6) = .pointer (some ⟨C, 0, none⟩) := hr (6, none) (by simp); have hk := he.1; clear hr he
            go_simp
          exact VFrom.nil
        case hS => exact hid ((Kp.refl Nb wr).drew)
        case hend =>
          intro af wy haf kh
          have HE := HA.out.kept kh.out (fun h => h)
          have HA3 : Hid (Blk (wy.setCell ⟨C, 17, none⟩ (.int .u64 q2)) C 26 (cellL n m1 (chkF (f2.take (j + 1))))) := hid (by rw [HQ.out, ← HS17.out]; exact HE.set 17 _)
          have HK3 : Hid (Kp (Jb C) w6 (wy.setCell ⟨C, 17, none⟩ (.int .u64 q2))) := hid ((HK.out.trans kh.out (fun _ _ h => h.elim)).set 17 _)
          refine wp_store_at 24 (.tmp 37) (.tmp 36) rfl (p := ⟨C, 17, none⟩) (v := .int .u64 q2) (by rw [haf.out]; kernel_rfl) (by rw [haf.out]; kernel_rfl) (store_u64 HE (by rw [LH.out]; decide) _) ?_
          rw [haf.out]
          clear haf kh HE
          simp only [putAll, List.zip_cons_cons, List.zip_nil_right, List.foldl_cons, List.foldl_nil, Act.put, List.setIfInBounds_toArray, List.set_cons_zero, List.set_cons_succ]
          go_wp2
          go_roundw
          case rel => exact ⟨j + 1, by omega, by go_num, HA3, HK3⟩
          case measure => simp [intOf]; omega
      · obtain rfl : j = 8 := by omega
        have hT : f2.take 8 = f2 := List.take_of_length_le (by have := HO2.out; omega)
        rw [hT] at HA
        have X7 := hid (X6.out.kept HK.out BCn.out)
        have N7 := hid (N6.out.kept HK.out NC.out)
        have K7 := hid (K6.out.trans HK.out (fun i hi h => by have h' : i = C := h; have := LC.out; omega))
        obtain ⟨q, hq⟩ : ∃ q, chkF f2 = q := ⟨_, rfl⟩
        rw [hq] at HA HRB
        obtain ⟨du, hu, hd⟩ := cell_under
        have HU := hid hu
        have CI := hid (cell_infoL n m1 q OM1.out)
        have CR : Hid (∀ w, Calls Try.prog 20 #[cellV n m1 q] w fun e w' => e = .returned (.bool (crightB n)) ∧ Kp Nb w w') := hid (fun w => rright_any (n, m1, q) w)
        clear hT hu hq hj hlt X6 N6 K6 HK
        go_wp2_with (refine wpList_load_mid (by rfl) 26 (.tmp 6) (by rfl) C 0 (by rfl) (cellL n m1 q) du (range_of HA.out) HU.out hd CI.out ?_)
        refine (CR.out _).mono ?_
        rintro e w8 ⟨rfl, k8⟩
        have HA8 := hid (HA.out.kept k8 (fun h => h))
        have X8 := hid (X7.out.kept k8 (fun h => h))
        have N8 := hid (N7.out.kept k8 (fun h => h))
        have K8 := hid (K7.out.trans k8 (fun _ _ h => h.elim))
        clear HA X7 N7 K7 k8
        by_cases hc : crightB n = true
        · have HR := hid (HRB.out (by first | rfl | trivial) hc)
          have TH := hid (HTN.out n m1 q _ OM1.out N8.out)
          have SI := hid (cl_sized (c := n) (k := q) OM1.out)
          have ON := hid (all_oneCell_toArray (cellL_one n m1 q))
          have HF : Hid (Blk (w8.setCells N 0 (cellL n m1 q)) N 26 (cellL n m1 q)) := hid (row_set N8.out (by rw [cl_length c0_ok, cellL_length _ _ _ OM1.out]))
          have X9 : Hid (RefAt (w8.setCells N 0 (cellL n m1 q)) B z3 0) := hid (X8.out.kept (Kp.setCells (S := Jb N) (fun _ => show N = N from rfl) _ 0 _ (Kp.refl _ w8)) (fun h => NB.out (Eq.symm h)))
          have K9 : Hid (Kp (Jb B) w (w8.setCells N 0 (cellL n m1 q))) := hid (Kp.setCells (fun h => by have := LN.out; omega) _ 0 _ K8.out)
          rw [hc]
          clear HTN N8 X8 K8 hc
          go_wp2_with (first
            | (refine wpList_load_mid (by rfl) 26 (.tmp 6) (by rfl) C 0 (by rfl) (cellL n m1 q) du (range_of HA8.out) HU.out hd CI.out ?_)
            | (refine wpList_store_mid (by rfl) 26 (.tmp 2) (.tmp 44) (by rfl) N 0 (cellL n m1 q).toArray (by rfl) (by rfl) TH.out SI.out ON.out ?_))
          refine bodyPost_ret (v := cellV n m1 q) (results_cell rfl _ N (by rfl) _ (cell_loadVar OM1 HF)) rfl ?_
          rw [HR.out]
          exact ⟨rfl, X9.out, K9.out⟩
        · have hc' : crightB n = false := by simpa using hc
          have HR := hid (HRC.out (by first | rfl | trivial) hc')
          have TH := fun wx h => HTN.out 0 (List.replicate 16 0) 0 wx (by simp) h
          have HTH := hid TH
          have SI := hid (cl_sized (c := 0) (m := List.replicate 16 0) (k := 0) (by simp))
          have ON := hid (all_oneCell_toArray (cellL_one 0 (List.replicate 16 0) 0))
          have BZ := build_c0
          rw [hc']
          clear HTN hc hc' TH
          go_wp2_with fail
          refine (refi_fail B z3 0 12 _ X8.out).mono ?_
          rintro e w9 ⟨rfl, x9, k9⟩
          have N9 := hid (N8.out.kept k9 NB.out)
          have K9 := hid (K8.out.trans k9 (fun _ _ h => h))
          have TZ := hid (HTH.out _ N9.out)
          have HF : Hid (Blk (w9.setCells N 0 (cl c0)) N 26 (cl c0)) := hid (row_set N9.out rfl)
          have XA : Hid (RefAt (w9.setCells N 0 (cl c0)) B (failS z3 0 12) (failE 0 12)) := hid (x9.kept (Kp.setCells (S := Jb N) (fun _ => show N = N from rfl) _ 0 _ (Kp.refl _ w9)) (fun h => NB.out (Eq.symm h)))
          have KA : Hid (Kp (Jb B) w (w9.setCells N 0 (cl c0))) := hid (Kp.setCells (fun h => by have := LN.out; omega) _ 0 _ K9.out)
          clear HTH N8 X8 K8 x9 k9 K9
          go_wp2_with (refine wpList_store_mid (by rfl) 26 (.tmp 2) (.tmp 43) (by rfl) N 0 (cellL 0 (List.replicate 16 0) 0).toArray (by rfl) (by rfl) TZ.out SI.out ON.out ?_)
          refine bodyPost_ret (v := cv c0) (results_cell rfl _ N (by rfl) _ (cell_loadVar (hid (by simp [c0])) HF)) rfl ?_
          rw [HR.out]
          exact ⟨rfl, XA.out, KA.out⟩
  · have HR := hid (HRA.out he)
    have g1 : (e3 != 0) = true := by rw [bne_iff_ne]; exact he
    have BZ := build_c0
    have TZ := hid (HTN.out 0 (List.replicate 16 0) 0 _ (by simp) N5.out)
    have SI := hid (cl_sized (c := 0) (m := List.replicate 16 0) (k := 0) (by simp))
    have ON := hid (all_oneCell_toArray (cellL_one 0 (List.replicate 16 0) 0))
    have HF : Hid (Blk (w5.setCells N 0 (cl c0)) N 26 (cl c0)) := hid (row_set N5.out rfl)
    have XA : Hid (RefAt (w5.setCells N 0 (cl c0)) B z3 e3) := hid (X5.out.kept (Kp.setCells (S := Jb N) (fun _ => show N = N from rfl) _ 0 _ (Kp.refl _ w5)) (fun h => NB.out (Eq.symm h)))
    have KA : Hid (Kp (Jb B) w (w5.setCells N 0 (cl c0))) := hid (Kp.setCells (fun h => by have := LN.out; omega) _ 0 _ K5.out)
    clear HTN he
    go_wp2_with (refine wpList_store_mid (by rfl) 26 (.tmp 2) (.tmp 21) (by rfl) N 0 (cellL 0 (List.replicate 16 0) 0).toArray (by rfl) (by rfl) TZ.out SI.out ON.out ?_)
    refine bodyPost_ret (v := cv c0) (results_cell rfl _ N (by rfl) _ (cell_loadVar (hid (by simp [c0])) HF)) rfl ?_
    rw [HR.out]
    exact ⟨rfl, XA.out, KA.out⟩

end Go.Proofs.Ytofjkaemakdmeaa
