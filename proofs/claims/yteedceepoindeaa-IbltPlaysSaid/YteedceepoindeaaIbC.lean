/-
  Layer 11: walks of Places and of the reference's Places. Conditions: a mark has sixteen bytes; a size that may be. (Printed by gen_ib.py.)
-/
import Derived.Test.YteedceepoindeaaIbB
namespace Go.Proofs.Yteedceepoindeaa
open Go.RowKit

/-- The hash of places, and the places: three thirds, one in each. -/
def hs4 (m : List Int) : Int := hash (seedA 4) (seedB 4) m
def plc (t : Nat) (m : List Int) (i : Nat) : Nat := i * t + (hs4 m / 2097152 ^ i % 2097152).toNat % t
theorem plc_lt (t : Nat) (m : List Int) (i : Nat) (ht : 0 < t) (hi : i < 3) : plc t m i < 3 * t := by
  unfold plc
  have h := Nat.mod_lt ((hs4 m / 2097152 ^ i % 2097152).toNat) ht
  have h2 : i * t ≤ 2 * t := Nat.mul_le_mul_right t (by omega)
  omega
theorem hs4_range (m : List Int) : 0 ≤ hs4 m ∧ hs4 m < 18446744073709551616 := x64_rng _ _
/-- The first k places, as an array. -/
def plcL (t : Nat) (m : List Int) (k : Nat) : List Value := [.int .i64 (if 0 < k then (plc t m 0 : Int) else 0), .int .i64 (if 1 < k then (plc t m 1 : Int) else 0), .int .i64 (if 2 < k then (plc t m 2 : Int) else 0)]
abbrev plcV (t : Nat) (m : List Int) : Value := .agg (plcL t m 3).toArray
/-- The region that hashes a mark: the made list of lists is the ghost. -/
structure HmS (W : World) (m : List Int) (bs : List Bool) (g : Nat) (w : World) : Prop where
  kp : Kp Nb W w
  sl : bs[0]?.getD false = true → PsSl w (.slice (some ⟨g, 0, none⟩) 1 1) [m]
theorem HmS.keptN {W : World} {m : List Int} {bs : List Bool} {g : Nat} {w w' : World} (h : HmS W m bs g w) (k : Kp Nb w w') : HmS W m bs g w' := ⟨h.kp.trans k (fun _ _ h => h), fun e => (h.sl e).kept k⟩
theorem make_one (v : Value) (h1 : v.oneCell' = true) (w : World) : (Instr.buildSlice 100 1 #[(0, v)]).run Try.prog w = .ok (.slice (some ⟨w.heap.size, 0, none⟩) 1 1) (w.alloc (.cells #[v] 68 (0, 0))) := by
  cases v <;> first | (simp [Value.oneCell'] at h1; done) | kernel_rfl | go_simp

theorem plc_val (b u : Int) (t : Nat) (hu : 0 ≤ u) (h0 : 0 < t) (h1 : t ≤ 512) (b0 : 0 ≤ b) (b1 : b ≤ 2048) : wrap64 (b + (wrap64 (u.tmod 2097152)).tmod (t : Int)) = b + (((u % 2097152).toNat % t : Nat) : Int) := by
  have e1 : u.tmod 2097152 = u % 2097152 := Int.tmod_eq_emod_of_nonneg hu
  have r1 : 0 ≤ u % 2097152 ∧ u % 2097152 < 2097152 := ⟨Int.emod_nonneg _ (by decide), Int.emod_lt_of_pos _ (by decide)⟩
  have e2 : wrap64 (u % 2097152) = u % 2097152 := by unfold wrap64; omega
  rw [e1, e2, Int.tmod_eq_emod_of_nonneg r1.1]
  have e3 : u % 2097152 % (t : Int) = (((u % 2097152).toNat % t : Nat) : Int) := by
    rw [Int.natCast_emod, Int.toNat_of_nonneg r1.1]
  rw [e3]
  have := Nat.mod_lt ((u % 2097152).toNat) h0
  unfold wrap64
  omega
theorem plcL_zero (t : Nat) (m : List Int) : plcL t m 0 = [.int .i64 0, .int .i64 0, .int .i64 0] := by unfold plcL; simp
theorem plcL_0 (t : Nat) (m : List Int) : (plcL t m 0).set 0 (.int .i64 ((plc t m 0 : Nat) : Int)) = plcL t m 1 := by unfold plcL; simp
theorem plcL_1 (t : Nat) (m : List Int) : (plcL t m 1).set 1 (.int .i64 ((plc t m 1 : Nat) : Int)) = plcL t m 2 := by unfold plcL; simp
theorem plcL_2 (t : Nat) (m : List Int) : (plcL t m 2).set 2 (.int .i64 ((plc t m 2 : Nat) : Int)) = plcL t m 3 := by unfold plcL; simp
theorem plcL_len (t : Nat) (m : List Int) (k : Nat) : (plcL t m k).length = 3 := by unfold plcL; rfl
theorem arr3_info : (Try.prog.info? 31).map (·.size) = some 3 := by kernel_rfl
def PlR (w5 : World) (B : Nat) (t : Nat) (m : List Int) (i : Value) (wr : World) : Prop := ∃ k : Nat, k ≤ 3 ∧ i = .int .i64 k ∧ Hid (Blk wr B 31 (plcL t m k)) ∧ Hid (Kp (Jb B) w5 wr)
set_option maxRecDepth 100000 in
set_option maxHeartbeats 4000000 in
theorem places_any (t : Nat) (m : List Int) (w : World) (hm : MarkOk m) (h0 : 0 < t) (h1 : t ≤ 512) :
    Calls Try.prog 13 #[.int .i64 ((3 * t : Nat) : Int), markV m] w fun e w' => e = .returned (plcV t m) ∧ Kp Nb w w' := by
  obtain ⟨s, hs⟩ : ∃ s : Int, ((3 * t : Nat) : Int) = s := ⟨_, rfl⟩
  rw [hs]
  have CF : Hid (∀ w, Calls Try.prog 12 #[.int .i64 s] w fun e w' => e = .returned (.bool true) ∧ w = w') := hid (fun w => by
    have h := fits_any s w (by omega) (by omega)
    rw [show fitB s = true from decide_eq_true (by omega)] at h
    exact h)
  obtain ⟨sa, hsa⟩ : ∃ s, seedA 4 = s := ⟨_, rfl⟩
  obtain ⟨sb, hsb⟩ : ∃ s, seedB 4 = s := ⟨_, rfl⟩
  obtain ⟨q, hq⟩ : ∃ q, hs4 m = q := ⟨_, rfl⟩
  have CS : Hid (∀ w, Calls Try.prog 39 #[.int .i64 4] w fun e w' => e = .returned (.agg #[.int .u64 sa, .int .u64 sb]) ∧ Kp Nb w w') := hid (fun w => by rw [← hsa, ← hsb]; exact seed_any 4 w)
  have CH : Hid (∀ v w, PsSl w v [m] → Calls Try.prog 38 #[.agg #[.int .u64 sa, .int .u64 sb], v] w fun e w' => e = .returned (.int .u64 q) ∧ Kp Nb w w') := hid (fun v w hp => by
    have h := hash_any (seedA 4) (seedB 4) v [m] w hp (by simp; rw [hm.len]; decide)
    have e : ([m] : List (List Int)).flatten = m := by simp
    have hq' : hash (seedA 4) (seedB 4) m = q := hq
    rw [e, hq', hsa, hsb] at h
    exact h)
  have HQ := hid hq
  have QR := hid (hs4_range m)
  rw [hq] at QR
  obtain ⟨W, hW⟩ : ∃ W, W = ((w.alloc (.cells (markL m).toArray 23)).alloc (.cells #[.int .i64 0, .int .i64 0, .int .i64 0] 31)).alloc (.cells #[.int .i64 0, .int .i64 0, .int .i64 0] 31) := ⟨_, rfl⟩
  obtain ⟨N, hN⟩ : ∃ N, N = w.heap.size := ⟨_, rfl⟩
  have H3 : Hid (Blk W N 23 (markL m)) := hid (by rw [hW, hN]; exact ((Blk.new w _ _).alloc _).alloc _)
  have H4 : Hid (Blk W (N + 1) 31 [.int .i64 0, .int .i64 0, .int .i64 0]) := hid (by
    have h := (Blk.new (w.alloc (.cells (markL m).toArray 23)) 31 [.int .i64 0, .int .i64 0, .int .i64 0]).alloc (.cells #[.int .i64 0, .int .i64 0, .int .i64 0] 31)
    simp only [World.size_alloc] at h
    rw [hW, hN]
    exact h)
  have H5 : Hid (Blk W (N + 1 + 1) 31 [.int .i64 0, .int .i64 0, .int .i64 0]) := hid (by
    have h := Blk.new ((w.alloc (.cells (markL m).toArray 23)).alloc (.cells #[.int .i64 0, .int .i64 0, .int .i64 0] 31)) 31 [.int .i64 0, .int .i64 0, .int .i64 0]
    simp only [World.size_alloc] at h
    rw [hW, hN]
    exact h)
  have KW : Hid (Kp Nb w W) := hid (by rw [hW]; exact (((Kp.refl Nb w).alloc _).alloc _).alloc _)
  have LN : Hid (w.heap.size ≤ N) := hid (by rw [hN]; exact Nat.le_refl _)
  have HM := hid hm
  have HS := hid hs
  have HT : Hid (0 < t ∧ t ≤ 512) := hid ⟨h0, h1⟩
  have T1 : s.tdiv 3 = (t : Int) := by rw [Int.tdiv_eq_ediv_of_nonneg (by omega)]; omega
  have T2 : s / 3 = (t : Int) := by omega
  have T3 : (0 : Int) ≤ s := by omega
  have T4 : (t : Int) ≤ 512 := by omega
  have T5 : (0 : Int) ≤ (t : Int) := by omega
  have T6 : ¬ t = 0 := by omega
  clear hsa hsb hq hs h0 h1 hm
  go_enter Try.func13, Try.ntmps13
  go_wp2_with fail
  refine (CF.out _).mono ?_
  rintro e w1 ⟨rfl, rfl⟩
  go_upto_region 5 with fail
  rw [show ((w.alloc (.cells (markL m).toArray 23)).alloc (.cells #[.int .i64 0, .int .i64 0, .int .i64 0] 31)).alloc (.cells #[.int .i64 0, .int .i64 0, .int .i64 0] 31) = W from hW.symm, ← hN]
  clear hW hN T1 T2 T3
  refine region_ghost (g0 := (0 : Nat)) [none, none, none, none, none, none, none, some 4, none, none, none, none, none, none, none, some 0, some 1, some 2, some 3, none, none, none, none, none, none, none, none, none, none, none, none, none, none, none, none, none, none, none] [[], [(3, none)], [(16, some 1)], [(15, some 0), (17, some 2)], [(18, some 3)]] [some 15, some 16, some 17, some 18, some 7] (fun g => [.agg #[.int .u64 sa, .int .u64 sb], .slice (some ⟨N, 0, none⟩) 16 16, .slice (some ⟨g, 0, none⟩) 1 1, .int .u64 q, .int .u64 q]) [2] (HmS W m) (by kernel_rfl) (by kernel_rfl) (fun g => by kernel_rfl) (by kernel_rfl) ?hS (GFrom.all (n := 5) (by kernel_rfl) ?hstep) ?hend
  case hstep =>
    refine GFrom.cons (GStep.call _ rfl rfl _ rfl (fun g => .agg #[.int .u64 sa, .int .u64 sb]) (fun _ => rfl) (fun _ => trivial) 39 (fun g => #[.int .i64 4]) (fun bs g ev wq hS he hr => ?_) (fun L g wq hd hL hS => ?_)) ?_
    · have hk := he.1; have hf := he.2; clear hr he
      go_simp
    · exact (CS.out wq).mono fun e w' ⟨h1, h2⟩ => ⟨h1, hS.keptN h2⟩
    refine GFrom.cons (GStep.val _ rfl rfl _ rfl (fun g => .slice (some ⟨N, 0, none⟩) 16 16) (fun _ => rfl) (fun _ => trivial) (fun bs g ev wq hS he hr => ?_)) ?_
    · have r0 : ev (.tmp 3) = .pointer (some ⟨N, 0, none⟩) := hr (3, none) (by simp); have hk := he.1; clear hr he
      go_simp
    refine GFrom.cons (GStep.make _ rfl _ rfl (fun _ => trivial) (fun L g ev wq hL hd hcl hS he hr => ?_)) ?_
    · have r0 : ev (.tmp 16) = .slice (some ⟨N, 0, none⟩) 16 16 := hr (16, some 1) (by simp); clear hr he
      have hc := PsSl.one' (w4 := W) hS.kp (by_mark H3.out HM.out) 68
      exact ⟨_, wq.heap.size, _, exec_buildSlice rfl (by simp [r0]) (make_one _ rfl wq), rfl, old_set _ hL rfl, hS.kp.trans ((Kp.refl Nb wq).alloc _) (fun _ _ h => h), fun _ => hc⟩
    refine GFrom.cons (GStep.call _ rfl rfl _ rfl (fun g => .int .u64 q) (fun _ => rfl) (fun _ => trivial) 38 (fun g => #[.agg #[.int .u64 sa, .int .u64 sb], .slice (some ⟨g, 0, none⟩) 1 1]) (fun bs g ev wq hS he hr => ?_) (fun L g wq hd hL hS => ?_)) ?_
    · have r0 : ev (.tmp 15) = .agg #[.int .u64 sa, .int .u64 sb] := hr (15, some 0) (by simp); have r1 : ev (.tmp 17) = .slice (some ⟨g, 0, none⟩) 1 1 := hr (17, some 2) (by simp); have hk := he.1; have hf := he.2; clear hr he
      go_simp
    · exact (CH.out _ wq (hS.sl (by simp [bitsAt, hd 2 (by kernel_rfl)]))).mono fun e w' ⟨h1, h2⟩ => ⟨h1, hS.keptN h2⟩
    refine GFrom.cons (GStep.val _ rfl rfl _ rfl (fun g => .int .u64 q) (fun _ => rfl) (fun _ => trivial) (fun bs g ev wq hS he hr => ?_)) ?_
    · have r0 : ev (.tmp 18) = .int .u64 q := hr (18, some 3) (by simp); have hk := he.1; clear hr he
      go_simp
    exact GFrom.nil
  case hS => exact ⟨(Kp.refl Nb W).drew, fun h => by simp at h⟩
  case hend =>
    intro g w5 h5
    have k5 := h5.kp
    have Q4 := hid (H4.out.kept k5 (fun h => h))
    have Q5 : Hid (Blk w5 (N + 1 + 1) 31 (plcL t m 0)) := hid (by rw [plcL_zero]; exact H5.out.kept k5 (fun h => h))
    have K5 := hid (KW.out.trans k5 (fun _ _ h => h))
    clear h5 k5 H3 H4 H5 KW CS CH CF
    simp only [putAll, List.zip_cons_cons, List.zip_nil_right, List.foldl_cons, List.foldl_nil, Act.put, List.setIfInBounds_toArray, List.set_cons_zero, List.set_cons_succ]
    go_wp2
    go_loopw [19] (PlR w5 (N + 1 + 1) t m) (fun i _ => 3 - (intOf i).toNat)
    case atStart => exact ⟨0, by omega, rfl, Q5, Kp.refl _ _⟩
    case round =>
      clear Q5
      obtain ⟨k, hk, rfl, HA, HK⟩ := hrel
      rcases k with _ | _ | _ | k
      · have c0 := HA.out.cell 0
        have f0 := HA.out.frozen 0
        simp only [plcL, List.getElem?_cons_zero] at c0
        have PV : Hid (wrap64 (0 + (wrap64 ((q).tmod 2097152)).tmod (t : Int)) = ((plc t m 0 : Nat) : Int)) := hid (by
          rw [plc_val (0) (q) t (by have := QR.out; omega) HT.out.1 HT.out.2 (by omega) (by omega)]
          unfold plc
          rw [HQ.out]
          simp)
        go_wp2
        have HA3 : Hid (Blk (wr.setCell ⟨N + 1 + 1, 0, none⟩ (.int .i64 ((plc t m 0 : Nat) : Int))) (N + 1 + 1) 31 (plcL t m 1)) := HA.out.set 0 _
        have HK3 := hid (HK.out.set 0 (.int .i64 ((plc t m 0 : Nat) : Int)))
        have pv := PV.out
        rw [Int.zero_add] at pv
        rw [pv]
        exact ⟨⟨1, by omega, rfl, HA3, HK3⟩, by simp [intOf]⟩
      · have c0 := HA.out.cell 1
        have f0 := HA.out.frozen 1
        simp only [plcL, List.getElem?_cons_zero, List.getElem?_cons_succ] at c0
        have PV : Hid (wrap64 ((t : Int) + (wrap64 ((q / 2097152).tmod 2097152)).tmod (t : Int)) = ((plc t m 1 : Nat) : Int)) := hid (by
          rw [plc_val ((t : Int)) (q / 2097152) t (by have := QR.out; omega) HT.out.1 HT.out.2 (by omega) (by omega)]
          unfold plc
          rw [HQ.out]
          simp)
        go_wp2
        have HA3 : Hid (Blk (wr.setCell ⟨N + 1 + 1, 1, none⟩ (.int .i64 ((plc t m 1 : Nat) : Int))) (N + 1 + 1) 31 (plcL t m 2)) := HA.out.set 1 _
        have HK3 := hid (HK.out.set 1 (.int .i64 ((plc t m 1 : Nat) : Int)))
        have pv := PV.out
        skip
        rw [pv]
        exact ⟨⟨2, by omega, rfl, HA3, HK3⟩, by simp [intOf]⟩
      · have c0 := HA.out.cell 2
        have f0 := HA.out.frozen 2
        simp only [plcL, List.getElem?_cons_zero, List.getElem?_cons_succ] at c0
        have PV : Hid (wrap64 (2 * (t : Int) + (wrap64 ((q / 4398046511104).tmod 2097152)).tmod (t : Int)) = ((plc t m 2 : Nat) : Int)) := hid (by
          rw [plc_val (2 * (t : Int)) (q / 4398046511104) t (by have := QR.out; omega) HT.out.1 HT.out.2 (by omega) (by omega)]
          unfold plc
          rw [HQ.out]
          simp [show (2097152 : Int) ^ 2 = 4398046511104 from by decide])
        go_wp2
        have HA3 : Hid (Blk (wr.setCell ⟨N + 1 + 1, 2, none⟩ (.int .i64 ((plc t m 2 : Nat) : Int))) (N + 1 + 1) 31 (plcL t m 3)) := HA.out.set 2 _
        have HK3 := hid (HK.out.set 2 (.int .i64 ((plc t m 2 : Nat) : Int)))
        have pv := PV.out
        skip
        rw [pv]
        exact ⟨⟨3, by omega, rfl, HA3, HK3⟩, by simp [intOf]⟩
      · have hk3 : k = 0 := by omega
        subst hk3
        have HP := hid (show Blk wr (N + 1 + 1) 31 (plcL t m 3) from HA.out)
        have Q6 := hid (Q4.out.kept HK.out (fun h => by have h' : N + 1 = N + 1 + 1 := h; omega))
        have K6 := hid (K5.out.trans HK.out (fun i hi h => by have h' : i = N + 1 + 1 := h; have := LN.out; omega))
        have TH : Hid (wr.there (N + 1) 0 (plcL t m 3).toArray.size) := hid (by rw [List.size_toArray, plcL_len]; exact Q6.out.there 0 3 (Nat.le_refl _))
        have SI : Hid ((Try.prog.info? 31).map (·.size) = some (plcL t m 3).toArray.size) := hid (by rw [List.size_toArray, plcL_len]; exact arr3_info)
        have SL : Hid ((Try.prog.info? 31).map (·.size) = some (plcL t m 3).length) := hid (by rw [plcL_len]; exact arr3_info)
        have ON : Hid ((plcL t m 3).toArray.all (·.oneCell') = true) := hid (by simp [plcL, Value.oneCell'])
        have HF : Hid (Blk (wr.setCells (N + 1) 0 (plcL t m 3)) (N + 1) 31 (plcL t m 3)) := hid (row_set Q6.out (plcL_len t m 3))
        have K9 : Hid (Kp Nb w (wr.setCells (N + 1) 0 (plcL t m 3))) := hid (Kp.setCells (fun h => by have := LN.out; omega) _ 0 _ K6.out)
        obtain ⟨P, hP⟩ : ∃ P, P = plcL t m 3 := ⟨_, rfl⟩
        have L3 : Hid (P.length = 3) := hid (by rw [hP]; exact plcL_len t m 3)
        rw [← hP] at HP TH SI SL ON HF K9
        have HPE := hid hP
        clear hP HA hk K6 Q6 T4 T5 T6
        go_wp2_with (first
          | (refine wpList_load_mid (by rfl) 31 (.tmp 5) (by rfl) (N + 1 + 1) 0 (by rfl) P _ (range_of HP.out) Try.underlying31 rfl SL.out ?_)
          | (refine wpList_store_mid (by rfl) 31 (.tmp 4) (.tmp 37) (by rfl) (N + 1) 0 P.toArray (by rfl) (by rfl) TH.out SI.out ON.out ?_))
        have hl := row_loadVar (P := Try.prog) Try.underlying31 rfl SL.out HF.out 0 (fun j _ => by rw [Nat.zero_add])
        refine bodyPost_ret (v := .agg P.toArray) (results_cell rfl _ (N + 1) (by rfl) _ hl) ?_ ?_
        · rfl
        · have hv : (.agg P.toArray : Value) = plcV t m := by rw [HPE.out]
          exact ⟨congrArg Ending.returned hv, K9.out⟩

end Go.Proofs.Yteedceepoindeaa
