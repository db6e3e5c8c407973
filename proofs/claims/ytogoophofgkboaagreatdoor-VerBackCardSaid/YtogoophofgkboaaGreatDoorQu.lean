/-
  Of the texts VeZ what is used. No condition but what each says.
-/
import Derived.Test.YtogoophofgkboaaGreatDoorQt
import Derived.Test.YtogoophofgkboaaGreatDoorQh
namespace Go.Proofs.YtogoophofgkboaaGreatDoor
section
open Go.RowKit
theorem exec_lenK {ev : Operand → Value} {o : Oper} {x : Operand} {y : Option Addr} {n c : Nat} {w : World} (ho : o.op = .call { callee := .builtin .len, args := #[x], argTypes := #[25] }) (hx : ev x = .slice y n c) : (execOp ev o).run Tryz.prog w = .ok (.value (.int .i64 (n : Int))) w := by
  have h := run_len_slice (P := Tryz.prog) (w := w) 25 o.type y n c (by kernel_rfl)
  simp [execOp, ho, resolve, invoke, builtin, hx, h, Result.andThen, goInt]
theorem tail_consV (t : List UInt8) (b : List (List UInt8)) : Lib.joinTail [32] (t :: b) = [32] ++ (t ++ Lib.joinTail [32] b) := by simp [Lib.joinTail]
theorem tail_appV (a b : List (List UInt8)) : Lib.joinTail [32] (a ++ b) = Lib.joinTail [32] a ++ Lib.joinTail [32] b := by
  induction a with
  | nil => simp [Lib.joinTail]
  | cons x a ih => rw [List.cons_append, tail_consV, tail_consV, ih]; simp
theorem join_appV (q : List UInt8) (a b : List (List UInt8)) : Lib.join (q :: (a ++ b)) [32] = Lib.join (q :: a) [32] ++ Lib.joinTail [32] b := by
  rw [Lib.join_cons, Lib.join_cons, tail_appV, List.append_assoc]
theorem words_len (k d q v : List UInt8) (ms : List (List UInt8)) : (Lib.join (q :: ms) [32]).length ≤ (Lib.join (k :: d :: ((q :: ms) ++ [v])) [32]).length := by
  have e1 : Lib.join (k :: d :: (q :: ms ++ [v])) [32] = k ++ ([32] ++ (d ++ ([32] ++ (q ++ Lib.joinTail [32] (ms ++ [v]))))) := by rw [Lib.join_cons, List.cons_append, tail_consV, tail_consV]
  have e2 : Lib.join (q :: ms) [32] = q ++ Lib.joinTail [32] ms := Lib.join_cons _ _ _
  rw [e1, e2, tail_appV]
  simp only [List.length_append]
  omega
theorem join_takeV (q : List UInt8) (ms : List (List UInt8)) (j : Nat) (hj : j < ms.length) : Lib.join (q :: ms.take (j + 1)) [32] = Lib.join (q :: ms.take j) [32] ++ ([32] ++ ms[j]?.getD []) := by
  rw [List.take_succ_eq_append_getElem hj, join_appV, tail_consV, List.getElem?_eq_getElem hj]
  simp [Lib.joinTail]
theorem join_leV (q : List UInt8) (ms : List (List UInt8)) (j : Nat) : (Lib.join (q :: ms.take j) [32]).length ≤ (Lib.join (q :: ms) [32]).length := by
  conv => rhs; rw [← List.take_append_drop j ms, join_appV]
  rw [List.length_append]
  omega
theorem words_of (ws : List (List UInt8)) (h : 4 ≤ ws.length) : ∃ k d q ms v, ws = k :: d :: q :: (ms ++ [v]) := by
  match ws, h with
  | k :: d :: q :: r :: rest, _ =>
    rcases List.eq_nil_or_concat (r :: rest) with e | ⟨m, b, e⟩
    · cases e
    · exact ⟨k, d, q, m, b, by rw [e, List.concat_eq_append]⟩
theorem slice_words (g L cap nm : Nat) (hL : L = nm + 4) (hc : L ≤ cap) (w : World) : (Instr.slice 103 (.slice (some ⟨g, 0, none⟩) L cap) (some (.int .i64 3)) (some (.int .i64 ((nm + 3 : Nat) : Int))) none).run Tryz.prog w = .ok (.slice (some ⟨g, 3, none⟩) nm (cap - 3)) w := by
  have hne : ¬ (cap = 3) := by omega
  rw [run_slice_lh (P := Tryz.prog) w 103 (some ⟨g, 0, none⟩) L cap (by kernel_rfl) .i64 .i64 3 ((nm + 3 : Nat) : Int) (by omega) (by omega) (by omega)]
  have hs : (sizeOf (Tryz.prog.elem 103)).run Tryz.prog w = .ok 1 w := by kernel_rfl
  rw [hs]
  show Result.ok (Value.slice (if cap = 3 then _ else _) _ _) w = _
  rw [if_neg hne]
  have e : ((nm + 3 : Nat) : Int).toNat - (3 : Int).toNat = nm := by omega
  rw [e]
  rfl
theorem slice_mid (P : List UInt8) (h : 2 ≤ P.length) (w : World) : (Instr.slice 9 (.string (bs P)) (some (.int .i64 1)) (some (.int .i64 ((P.length - 1 : Nat) : Int))) none).run Tryz.prog w = .ok (.string (bs (midL P))) w := by
  rw [run_slice_string (P := Tryz.prog) w 9 (bs P) .i64 .i64 1 ((P.length - 1 : Nat) : Int) Tryz.underlying9 (by omega) (by omega) (by show _ ≤ ((P.toArray.size : Nat) : Int); rw [List.size_toArray]; omega), Int.toNat_natCast]
  show Result.ok (Value.string ((ByteArray.mk P.toArray).extract 1 (P.length - 1))) w = _
  rw [ByteArray.extract_mk]
  rfl
theorem iright_x (x : ItQ) (vp vv : Value) (w : World) (h : ItOk w x vp vv) : Calls Tryz.prog 9 #[itVq x vp vv] w fun e w' => e = .returned (.bool (rightI x)) ∧ Kp Nb w w' := riright_any x vp vv w h
def RpaR (w1 : World) (q : List UInt8) (ms : List (List UInt8)) (u i : Value) (wr : World) : Prop := ∃ j : Nat, j ≤ ms.length ∧ i = .int .i64 j ∧ u = .string (bs (Lib.join (q :: ms.take j) [32])) ∧ Hid (Kp Nb w1 wr)
set_option maxRecDepth 100000 in
set_option maxHeartbeats 16000000 in
theorem riparse_any (s : List UInt8) (w : World) (hl : s.length ≤ 1000) :
    Calls Tryz.prog 34 #[.string (bs s)] w fun e w' => ∃ vp vv, e = .returned (.tuple #[itVq ((parI s).getD itZ) vp vv, .bool (parI s).isSome]) ∧ ItOk w' ((parI s).getD itZ) vp vv ∧ Kp Nb w w' := by
  obtain ⟨N, hN⟩ : ∃ N, w.heap.size = N := ⟨_, rfl⟩
  obtain ⟨W, hW⟩ : ∃ W, W = w.alloc (.cells #[.string ⟨#[]⟩, .int .i64 0, .int .i64 0, .slice none 0 0, .bool false, .slice none 0 0] 28) := ⟨_, rfl⟩
  have BN0 : Hid (Blk W N 28 (itL ⟨#[]⟩ 0 0 (.slice none 0 0) false (.slice none 0 0))) := hid (by rw [hW, ← hN]; exact Blk.new w _ (itL ⟨#[]⟩ 0 0 (.slice none 0 0) false (.slice none 0 0)))
  have K0 : Hid (Kp Nb w W) := hid (by rw [hW]; exact (Kp.refl Nb w).alloc _)
  have HNW := hid hN
  have CS := hid (rsplit_at s 32 32 rfl W (by omega))
  have hsj := spl_join 32 s
  have HMEM : Hid (∀ x ∈ splL 32 s, x.length ≤ 1000) := hid (fun x hx => by have := spl_mem hx; omega)
  have hw1 := spl_ne0 32 s
  have HSH := hid (fun h => parI_short (s := s) h)
  have HWD := hid (fun k d q ms v (h : splL 32 s = k :: d :: ((q :: ms) ++ [v])) => parI_words h)
  obtain ⟨PR, hPR⟩ : ∃ x, parI s = x := ⟨_, rfl⟩
  rw [hPR] at HSH HWD ⊢
  obtain ⟨ws, hws⟩ : ∃ ws, splL 32 s = ws := ⟨_, rfl⟩
  rw [hws] at CS hsj HMEM hw1 HSH HWD
  have HSJ : Hid ((Lib.join ws [32]).length ≤ 1000) := hid (by rw [hsj]; exact hl)
  obtain ⟨L, hL⟩ : ∃ L, ws.length = L := ⟨_, rfl⟩
  have HLE := hid hL
  have hwl : L ≤ 1001 := by rw [← hL, ← hws]; unfold splL; rw [List.length_append, List.length_singleton]; have := (splS_len 32 s).1; omega
  rw [hL] at hw1
  obtain ⟨ss, hss⟩ : ∃ t, bs s = t := ⟨_, rfl⟩
  rw [hss] at CS ⊢
  clear hPR hws hsj hss hl
  go_enter Tryz.func34, Tryz.ntmps34
  go_upto_region 1 with fail
  try rw [hN]
  rw [← hW]
  clear hW hN
  go_wp2_with fail
  refine CS.out.mono ?_
  rintro e w1 ⟨vw, rfl, ow, k1⟩
  obtain ⟨g, cw, rfl, hcw, hcm, htw⟩ := tx_cells ow hL hw1
  have HTW := hid htw
  have K1 := hid (K0.out.trans k1 (fun _ _ h => h))
  have BN1 := hid (BN0.out.kept k1 (fun h => h))
  unfold maxLen at hcm
  have HCW : Hid (L ≤ cw ∧ L ≤ 1001) := hid ⟨hcw, hwl⟩
  clear ow k1 htw CS K0 BN0 hL
  by_cases h4 : L < 4
  · have hlt : (L : Int) < 4 := by omega
    have HPX : Hid (PR = none) := hid (HSH.out (by rw [HLE.out]; exact h4))
    clear h4
    have TH := hid (item_there (ks := ⟨#[]⟩) (dn := 0) (dd := 0) (vp := .slice none 0 0) (vv := .slice none 0 0) (g := false) BN1.out rfl)
    have HW := hid (row_set (vs := itL ⟨#[]⟩ 0 0 (.slice none 0 0) false (.slice none 0 0)) (cs := itL ⟨#[]⟩ 0 0 (.slice none 0 0) false (.slice none 0 0)) BN1.out rfl)
    have HKW : Hid (Kp Nb w (w1.setCells N 0 (itL ⟨#[]⟩ 0 0 (.slice none 0 0) false (.slice none 0 0)))) := hid (K1.out.trans (kp_setsN (Kp.refl _ w1)) (fun i hi h => by have h' : i = N := h; have := HNW.out; omega))
    have HPF : Hid (PR = none) := hid (HPX.out)
    go_wp2_with (first
      | (refine at_storeV 28 (.tmp 2) (.tmp 23) (by rfl) ?_; refine wpList_store_mid (by rfl) 28 (.tmp 2) (.tmp 23) (by rfl) N 0 (itL ⟨#[]⟩ 0 0 (.slice none 0 0) false (.slice none 0 0)).toArray (by rfl) (by rfl) TH.out item_info (item_one _ _ _ _ _ _ _ _ _ _) ?_))
    refine bodyPost_ret (results_ctD rfl _ N (by rfl) _ (.bool false) (by rfl) (row_loadVar Tryz.underlying28 rfl (item_infoL _ _ _ _ _ _) HW.out 0 (fun j _ => by rw [Nat.zero_add]))) rfl ?_
    rw [HPF.out]
    exact ⟨.slice none 0 0, .slice none 0 0, rfl, itz_ok _, HKW.out⟩
  · have hnl : ¬ (L : Int) < 4 := by omega
    obtain ⟨k, d, q, ms, v, rfl⟩ := words_of ws (by rw [HLE.out]; omega)
    have hLm : L = ms.length + 4 := by rw [← HLE.out]; simp
    have HPI : Hid (PR = rpI k d v (Lib.join (q :: ms) [32])) := hid (HWD.out k d q ms v rfl)
    have HPL : Hid ((Lib.join (q :: ms) [32]).length ≤ 1000) := hid (Nat.le_trans (words_len k d q v ms) HSJ.out)
    have HLK : Hid (k.length ≤ 1000 ∧ d.length ≤ 1000 ∧ v.length ≤ 1000 ∧ ∀ x ∈ ms, x.length ≤ 1000) := hid ⟨HMEM.out k (by simp), HMEM.out d (by simp), HMEM.out v (by simp), fun x hx => HMEM.out x (by simp [hx])⟩
    obtain ⟨nm, hnm⟩ : ∃ n, ms.length = n := ⟨_, rfl⟩
    have HNM := hid hnm
    rw [hnm] at hLm
    have he0 : w1.cell? ⟨g, 0, none⟩ = some (.string (bs k)) := HTW.out 0 (by simp)
    have he1 : w1.cell? ⟨g, 1, none⟩ = some (.string (bs d)) := HTW.out 1 (by simp)
    have he2 : w1.cell? ⟨g, 2, none⟩ = some (.string (bs q)) := HTW.out 2 (by simp)
    have hev : w1.cell? ⟨g, nm + 3, none⟩ = some (.string (bs v)) := by
      have h := HTW.out (nm + 3) (by rw [HLE.out, hLm]; omega)
      rw [List.getElem?_cons_succ, List.getElem?_cons_succ, List.getElem?_cons_succ, List.getElem?_append_right (by omega), HNM.out, Nat.sub_self] at h
      exact h
    have HEM : Hid (∀ j, j < nm → w1.cell? ⟨g, 3 + j, none⟩ = some (.string (bs (ms[j]?.getD [])))) := hid (fun j hj => by
      have h := HTW.out (3 + j) (by rw [HLE.out, hLm]; omega)
      rw [show 3 + j = j + 1 + 1 + 1 by omega, List.getElem?_cons_succ, List.getElem?_cons_succ, List.getElem?_cons_succ, List.getElem?_append_left (by rw [HNM.out]; exact hj)] at h
      rw [show 3 + j = j + 1 + 1 + 1 by omega]
      exact h)
    have HE0 := hid he0
    have HE1 := hid he1
    have HEV := hid hev
    have hsl := slice_words g L cw nm hLm hcw w1
    have hwr : IntKind.i64.wrap ((L : Int) - 1) = ((nm + 3 : Nat) : Int) := by rw [IntWalk.i64_in _ (by omega)]; omega
    have HWR := hid hwr
    have HLM := hid hLm
    clear h4 hnm HTW HMEM HSH HWD HSJ he0 he1 hev
    obtain ⟨sq, hsq⟩ : ∃ t, bs q = t := ⟨_, rfl⟩
    have HSQ := hid hsq
    rw [hsq] at he2
    clear hsq
    go_wp2_with fail
    clear hsl he2 hwr
    go_loopw [5, 33] (RpaR w1 q ms) (fun _ i _ => nm - (intOf i).toNat)
    case atStart => exact ⟨0, Nat.zero_le _, rfl, by rw [← HSQ.out, List.take_zero, join_one], hid (Kp.refl _ _)⟩
    case round =>
      obtain ⟨j, hj, rfl, rfl, HK⟩ := hrel
      rw [HNM.out] at hj
      by_cases hlt : j < nm
      · have ck : wr.cell? ⟨g, 3 + j, none⟩ = some (.string (bs (ms[j]?.getD []))) := HK.out.cell (HEM.out j hlt) (fun h => h)
        have hjt := join_takeV q ms j (by rw [HNM.out]; exact hlt)
        have hle1 := join_leV q ms j
        have hle2 : (ms[j]?.getD []).length ≤ 1000 := HLK.out.2.2.2 _ (by rw [List.getElem?_eq_getElem (by rw [HNM.out]; exact hlt), Option.getD_some]; exact List.getElem_mem _)
        have a1 : ∀ w : World, (Op.stringOp .add ⟨#[32]⟩ (bs (ms[j]?.getD []))).run Tryz.prog w = .ok (.string (bs ([32] ++ ms[j]?.getD []))) w := fun w => add_bs w [32] _ (by decide) (by omega)
        have a2 : ∀ w : World, (Op.stringOp .add (bs (Lib.join (q :: ms.take j) [32])) (bs ([32] ++ ms[j]?.getD []))).run Tryz.prog w = .ok (.string (bs (Lib.join (q :: ms.take (j + 1)) [32]))) w := fun w => by rw [hjt]; exact add_bs w _ _ (by have := HPL.out; omega) (by rw [List.length_append, List.length_singleton]; omega)
        have HREL : Hid (RpaR w1 q ms (.string (bs (Lib.join (q :: ms.take (j + 1)) [32]))) (.int .i64 ((j : Int) + 1)) wr) := hid ⟨j + 1, by rw [HNM.out]; exact hlt, rfl, rfl, HK⟩
        have HJ := hid hlt
        obtain ⟨s1, hs1⟩ : ∃ t, bs (Lib.join (q :: ms.take j) [32]) = t := ⟨_, rfl⟩
        obtain ⟨s2, hs2⟩ : ∃ t, bs (ms[j]?.getD []) = t := ⟨_, rfl⟩
        obtain ⟨s3, hs3⟩ : ∃ t, bs ([32] ++ ms[j]?.getD []) = t := ⟨_, rfl⟩
        obtain ⟨s4, hs4⟩ : ∃ t, bs (Lib.join (q :: ms.take (j + 1)) [32]) = t := ⟨_, rfl⟩
        rw [hs2] at a1 ck
        rw [hs3] at a1 a2
        rw [hs1, hs4] at a2
        rw [hs4] at HREL
        rw [hs1]
        have hjb : j < 1001 := by have := HCW.out; omega
        clear hs1 hs2 hs3 hs4 hjt hle1 hle2
        go_wp2
        exact ⟨HREL.out, by simp [intOf]; have := HJ.out; omega⟩
      · obtain rfl : j = nm := by omega
        have HTK : Hid (ms.take j = ms) := hid (by rw [← HNM.out]; exact List.take_length)
        rw [HTK.out]
        obtain ⟨P, hP⟩ : ∃ P, Lib.join (q :: ms) [32] = P := ⟨_, rfl⟩
        rw [hP] at HPI HPL ⊢
        have HCP := hid (slice_mid P)
        have HIXP := hid (fun (i : Nat) (hi : i < P.length) (w : World) => idx_bs P w i hi)
        have hsz : (bs P).size = P.length := by show P.toArray.size = _; rw [List.size_toArray]
        have HBR : Hid (brP P = !(decide (P.length < 2) || (P[0]?.getD 0 != 91) || (P[P.length - 1]?.getD 0 != 93))) := hid rfl
        have HMID : Hid ((midL P).length ≤ 1000) := hid (by unfold midL; rw [List.length_take, List.length_drop]; have := HPL.out; omega)
        have HRP : Hid (brP P = false → PR = none) := hid (fun h => by rw [HPI.out]; unfold rpI; rw [h]; rfl)
        obtain ⟨sP, hsP⟩ : ∃ t, bs P = t := ⟨_, rfl⟩
        rw [hsP] at HCP HIXP hsz ⊢
        obtain ⟨np, hnp⟩ : ∃ n, P.length = n := ⟨_, rfl⟩
        have HNP := hid hnp
        rw [hnp] at hsz HPL HBR HCP
        have HN1 := hid (BN1.out.kept HK.out (fun h => h))
        have K2 := hid (K1.out.trans HK.out (fun _ _ h => h))
        have hE0 := HK.out.cell HE0.out (fun h => h)
        have hE1 := HK.out.cell HE1.out (fun h => h)
        have hEV := HK.out.cell HEV.out (fun h => h)
        have HX0 := hid hE0
        have HX1 := hid hE1
        have HXV := hid hEV
        clear hP hsP hnp hE0 hE1 hEV HEM HE0 HE1 HEV HTK BN1 K1
        have BN2 := HN1
        clear HN1
        by_cases hp2 : np < 2
        · have g2 : (np : Int) < 2 := by omega
          have HPX : Hid (PR = none) := hid (HRP.out (by rw [HBR.out, decide_eq_true hp2]; rfl))
          clear hp2
          have TH := hid (item_there (ks := ⟨#[]⟩) (dn := 0) (dd := 0) (vp := .slice none 0 0) (vv := .slice none 0 0) (g := false) BN2.out rfl)
          have HW := hid (row_set (vs := itL ⟨#[]⟩ 0 0 (.slice none 0 0) false (.slice none 0 0)) (cs := itL ⟨#[]⟩ 0 0 (.slice none 0 0) false (.slice none 0 0)) BN2.out rfl)
          have HKW : Hid (Kp Nb w (wr.setCells N 0 (itL ⟨#[]⟩ 0 0 (.slice none 0 0) false (.slice none 0 0)))) := hid (K2.out.trans (kp_setsN (Kp.refl _ wr)) (fun i hi h => by have h' : i = N := h; have := HNW.out; omega))
          have HPF : Hid (PR = none) := hid (HPX.out)
          go_wp2_with (first
            | (refine at_storeV 28 (.tmp 2) (.tmp 58) (by rfl) ?_; refine wpList_store_mid (by rfl) 28 (.tmp 2) (.tmp 58) (by rfl) N 0 (itL ⟨#[]⟩ 0 0 (.slice none 0 0) false (.slice none 0 0)).toArray (by rfl) (by rfl) TH.out item_info (item_one _ _ _ _ _ _ _ _ _ _) ?_))
          refine bodyPost_ret (results_ctD rfl _ N (by rfl) _ (.bool false) (by rfl) (row_loadVar Tryz.underlying28 rfl (item_infoL _ _ _ _ _ _) HW.out 0 (fun j _ => by rw [Nat.zero_add]))) rfl ?_
          rw [HPF.out]
          exact ⟨.slice none 0 0, .slice none 0 0, rfl, itz_ok _, HKW.out⟩
        · have g2 : ¬ (np : Int) < 2 := by omega
          have hi0 : ∀ w : World, (Instr.index 9 (.string sP) (.int .i64 0)).run Tryz.prog w = .ok (.int .u8 ((P[0]?.getD 0).toNat : Int)) w := HIXP.out 0 (by rw [HNP.out]; omega)
          have hil := HIXP.out (np - 1) (by rw [HNP.out]; omega)
          have hwp : IntKind.i64.wrap ((np : Int) - 1) = ((np - 1 : Nat) : Int) := by rw [IntWalk.i64_in _ (by have := HPL.out; omega)]; omega
          have hwp2 : wrap64 ((np : Int) - 1) = ((np - 1 : Nat) : Int) := by unfold wrap64; have := HPL.out; omega
          have HWP := hid hwp
          have HWP2 := hid hwp2
          have hcp := HCP.out (by omega)
          have HCP2 := hid hcp
          have HNP2 : Hid (2 ≤ np) := hid (by omega)
          obtain ⟨z0, hz0⟩ : ∃ z, P[0]?.getD 0 = z := ⟨_, rfl⟩
          obtain ⟨zl, hzl⟩ : ∃ z, P[np - 1]?.getD 0 = z := ⟨_, rfl⟩
          rw [hz0] at hi0
          rw [hzl] at hil
          have HBR2 : Hid (brP P = !((z0 != 91) || (zl != 93))) := hid (by rw [HBR.out, hz0, hzl, decide_eq_false hp2]; rfl)
          have ez : ∀ (z : UInt8) (c : UInt8), (((z.toNat : Int)) != ((c.toNat : Nat) : Int)) = (z != c) := fun z c => by
            rw [Bool.eq_iff_iff, bne_iff_ne, bne_iff_ne]
            exact not_congr ⟨fun h => UInt8.toNat_inj.1 (by omega), fun h => by rw [h]⟩
          have e0 : ((z0.toNat : Int) != 91) = (z0 != 91) := ez z0 91
          have el : ((zl.toNat : Int) != 93) = (zl != 93) := ez zl 93
          obtain ⟨b0, hb0⟩ : ∃ b, (z0 != 91) = b := ⟨_, rfl⟩
          obtain ⟨bl, hbl⟩ : ∃ b, (zl != 93) = b := ⟨_, rfl⟩
          rw [hb0, hbl] at HBR2
          rw [hb0] at e0
          rw [hbl] at el
          obtain ⟨y0, hy0⟩ : ∃ y : Int, (z0.toNat : Int) = y := ⟨_, rfl⟩
          obtain ⟨yl, hyl⟩ : ∃ y : Int, (zl.toNat : Int) = y := ⟨_, rfl⟩
          rw [hy0] at e0 hi0
          rw [hyl] at el hil
          obtain ⟨npl, hnpl⟩ : ∃ n, np - 1 = n := ⟨_, rfl⟩
          have hnl2 : npl < np := by omega
          rw [hnpl] at hil hwp hwp2 hcp HWP HWP2 HCP2
          clear hp2 hz0 hzl hb0 hbl hy0 hyl ez hnpl hcp HCP HBR HIXP
          cases b0 with
          | true =>
            have HPX : Hid (PR = none) := hid (HRP.out HBR2.out)
            have TH := hid (item_there (ks := ⟨#[]⟩) (dn := 0) (dd := 0) (vp := .slice none 0 0) (vv := .slice none 0 0) (g := false) BN2.out rfl)
            have HW := hid (row_set (vs := itL ⟨#[]⟩ 0 0 (.slice none 0 0) false (.slice none 0 0)) (cs := itL ⟨#[]⟩ 0 0 (.slice none 0 0) false (.slice none 0 0)) BN2.out rfl)
            have HKW : Hid (Kp Nb w (wr.setCells N 0 (itL ⟨#[]⟩ 0 0 (.slice none 0 0) false (.slice none 0 0)))) := hid (K2.out.trans (kp_setsN (Kp.refl _ wr)) (fun i hi h => by have h' : i = N := h; have := HNW.out; omega))
            have HPF : Hid (PR = none) := hid (HPX.out)
            go_wp2_with (first
              | (refine at_storeV 28 (.tmp 2) (.tmp 58) (by rfl) ?_; refine wpList_store_mid (by rfl) 28 (.tmp 2) (.tmp 58) (by rfl) N 0 (itL ⟨#[]⟩ 0 0 (.slice none 0 0) false (.slice none 0 0)).toArray (by rfl) (by rfl) TH.out item_info (item_one _ _ _ _ _ _ _ _ _ _) ?_))
            refine bodyPost_ret (results_ctD rfl _ N (by rfl) _ (.bool false) (by rfl) (row_loadVar Tryz.underlying28 rfl (item_infoL _ _ _ _ _ _) HW.out 0 (fun j _ => by rw [Nat.zero_add]))) rfl ?_
            rw [HPF.out]
            exact ⟨.slice none 0 0, .slice none 0 0, rfl, itz_ok _, HKW.out⟩
          | false =>
            cases bl with
            | true =>
              have HPX : Hid (PR = none) := hid (HRP.out HBR2.out)
              have TH := hid (item_there (ks := ⟨#[]⟩) (dn := 0) (dd := 0) (vp := .slice none 0 0) (vv := .slice none 0 0) (g := false) BN2.out rfl)
              have HW := hid (row_set (vs := itL ⟨#[]⟩ 0 0 (.slice none 0 0) false (.slice none 0 0)) (cs := itL ⟨#[]⟩ 0 0 (.slice none 0 0) false (.slice none 0 0)) BN2.out rfl)
              have HKW : Hid (Kp Nb w (wr.setCells N 0 (itL ⟨#[]⟩ 0 0 (.slice none 0 0) false (.slice none 0 0)))) := hid (K2.out.trans (kp_setsN (Kp.refl _ wr)) (fun i hi h => by have h' : i = N := h; have := HNW.out; omega))
              have HPF : Hid (PR = none) := hid (HPX.out)
              go_wp2_with (first
                | (refine at_storeV 28 (.tmp 2) (.tmp 58) (by rfl) ?_; refine wpList_store_mid (by rfl) 28 (.tmp 2) (.tmp 58) (by rfl) N 0 (itL ⟨#[]⟩ 0 0 (.slice none 0 0) false (.slice none 0 0)).toArray (by rfl) (by rfl) TH.out item_info (item_one _ _ _ _ _ _ _ _ _ _) ?_))
              refine bodyPost_ret (results_ctD rfl _ N (by rfl) _ (.bool false) (by rfl) (row_loadVar Tryz.underlying28 rfl (item_infoL _ _ _ _ _ _) HW.out 0 (fun j _ => by rw [Nat.zero_add]))) rfl ?_
              rw [HPF.out]
              exact ⟨.slice none 0 0, .slice none 0 0, rfl, itz_ok _, HKW.out⟩
            | false =>
              have HRI : Hid (PR = match unhL k, parT d, parT (midL P) with | some key, some [r], some c => if r.2.1 = r.2.2 then endP key r c v else none | _, _, _ => none) := hid (by rw [HPI.out]; unfold rpI; rw [HBR2.out]; rfl)
              have C1 := hid (fun wx => runhex_any k wx HLK.out.1)
              have C2 := hid (fun wx => rparse_any d wx HLK.out.2.1)
              have C3 := hid (fun wx => rparse_any (midL P) wx HMID.out)
              have C4 := hid (fun wx => runhex_any v wx HLK.out.2.2.1)
              have HBK := hid (fun zs (h : unhL k = some zs) => (hex_unh k zs h).1)
              obtain ⟨rk, hrk⟩ : ∃ x, unhL k = x := ⟨_, rfl⟩
              obtain ⟨rd, hrd⟩ : ∃ x, parT d = x := ⟨_, rfl⟩
              obtain ⟨rc, hrc⟩ : ∃ x, parT (midL P) = x := ⟨_, rfl⟩
              rw [hrk] at HRI C1 HBK
              rw [hrd] at HRI C2
              rw [hrc] at HRI C3
              obtain ⟨k0, hk0⟩ : ∃ t, bs k = t := ⟨_, rfl⟩
              obtain ⟨d0, hd0⟩ : ∃ t, bs d = t := ⟨_, rfl⟩
              obtain ⟨m0, hm0⟩ : ∃ t, bs (midL P) = t := ⟨_, rfl⟩
              rw [hk0] at C1 HX0
              rw [hd0] at C2 HX1
              rw [hm0] at C3 HCP2
              clear hrk hrd hrc hk0 hd0 hm0 HRP HBR2 HPI HMID
              have x0 := HX0.out
              go_upto_region 12 with fail
              clear hi0 hil e0 el g2 hnl2 hwp hwp2
              go_wp2_with fail
              refine (C1.out _).mono ?_
              rintro e w2 ⟨rfl, k2⟩
              have x1 := k2.cell HX1.out (fun h => h)
              have HXV2 := hid (k2.cell HXV.out (fun h => h))
              have BN3 := hid (BN2.out.kept k2 (fun h => h))
              have K3 := hid (K2.out.trans k2 (fun _ _ h => h))
              clear k2 C1 x0 BN2 K2 HX0 HX1 HXV
              go_wp2_with fail
              refine (C2.out _).mono ?_
              rintro e w3 ⟨v2, rfl, hc2, k3⟩
              have HV2 := hid hc2
              have HXV3 := hid (k3.cell HXV2.out (fun h => h))
              have BN3b := hid (BN3.out.kept k3 (fun h => h))
              have K3b := hid (K3.out.trans k3 (fun _ _ h => h))
              have hwp := HWP.out
              have hwp2 := HWP2.out
              have hcp := HCP2.out w3
              have hnpl : npl < np := by have := HWP2.out; have := HNP2.out; have := HPL.out; unfold wrap64 at *; omega
              clear hc2 k3 C2 x1 BN3 K3 HXV2
              go_wp2_with fail
              refine (C3.out _).mono ?_
              rintro e w4 ⟨v3, rfl, hc3, k4⟩
              have HV3 := hid hc3
              have HO4 := hid (HV2.out.kept k4)
              have HXV4 := hid (k4.cell HXV3.out (fun h => h))
              have BN4 := hid (BN3b.out.kept k4 (fun h => h))
              have K4 := hid (K3b.out.trans k4 (fun _ _ h => h))
              clear hc3 k4 C3 HV2 HXV3 BN3b K3b hwp hwp2 hcp hnpl HCP2
              obtain ⟨y2, c2, e2⟩ := HO4.out.shape
              subst e2
              cases rk with
              | none =>
                have HPX : Hid (PR = none) := hid HRI.out
                simp only [Option.isSome_none]
                obtain ⟨b2, hb2⟩ : ∃ b, rd.isSome = b := ⟨_, rfl⟩
                obtain ⟨b3, hb3⟩ : ∃ b, rc.isSome = b := ⟨_, rfl⟩
                obtain ⟨nd, hnd⟩ : ∃ m, (rd.getD []).length = m := ⟨_, rfl⟩
                rw [hb2, hb3]
                simp only [hnd]
                clear hb2 hb3 hnd
                go_upto_region 15 with fail
                refine V3.region_vals2 [none, none, none, none, none, none, none, none, none, none, none, none, none, none, none, none, none, none, none, none, none, none, none, none, none, none, none, none, none, none, none, none, none, none, none, none, none, none, none, none, none, none, none, none, none, none, none, none, none, none, none, none, none, none, none, none, none, none, none, none, none, none, none, none, none, none, none, none, none, none, none, none, none, none, none, none, none, none, none, none, none, none, some 0, some 1, some 2, some 3, some 4, some 5, some 6, some 7, some 8, some 9, some 10, some 11, some 12, some 13, some 14, some 15, some 16, some 17, some 18, some 19, some 20, some 21, some 22, some 23, some 24, some 25, none, none, none, none, none, none, none, none, none, none, none, none, none, none, none, none, none, none, none, none, none, none, none, none, none, none, none, none, none, none, none, none, none, none, none, none, none, none, none, none, none, none, none, none] [[(9, none)], [(82, some 0)], [(83, some 1)], [(11, none)], [(85, some 3)], [(84, some 2), (86, some 4)], [(87, some 5)], [(13, none)], [(89, some 7)], [(88, some 6), (90, some 8)], [(91, some 9)], [(10, none)], [(93, some 11)], [(94, some 12)], [(92, some 10), (95, some 13)], [(96, some 14)], [(10, none)], [(98, some 16)], [(99, some 17)], [(100, some 18)], [(10, none)], [(102, some 20)], [(103, some 21)], [(104, some 22)], [(101, some 19), (105, some 23)], [(97, some 15), (106, some 24)]] [some 82, some 83, some 84, some 85, some 86, some 87, some 88, some 89, some 90, some 91, some 92, some 93, some 94, some 95, some 96, some 97, some 98, some 99, some 100, some 101, some 102, some 103, some 104, some 105, some 106, some 107] [.bool false, .bool true, .bool true, undef, undef, .bool true, .bool true, undef, undef, .bool true, .bool true, undef, undef, undef, .bool true, .bool true, undef, undef, undef, undef, undef, undef, undef, undef, undef, .bool true] (fun wq => Hid (Kp Nb w4 wq)) (by kernel_rfl) (by kernel_rfl) (by kernel_rfl) ?hS (V3.VFrom.all (n := 26) (by kernel_rfl) ?hstep) ?hend
                case hstep =>
                  refine V3.VFrom.cons (V3.VStep.val _ rfl _ rfl (.bool false) rfl trivial (fun ev wq hS he hr => ?_)) ?_
                  · have r0 : ev (.tmp 9) = .bool false := hr (9, none) (by simp); have hk := he.1; clear hr he
                    go_simp
                  refine V3.VFrom.cons (V3.VStep.val _ rfl _ rfl (.bool true) rfl trivial (fun ev wq hS he hr => ?_)) ?_
                  · have r0 : ev (.tmp 82) = .bool false := hr (82, some 0) (by simp); have hk := he.1; clear hr he
                    go_simp
                  refine V3.VFrom.cons (V3.VStep.val _ rfl _ rfl (.bool true) rfl trivial (fun ev wq hS he hr => ?_)) ?_
                  · have r0 : ev (.tmp 83) = .bool true := hr (83, some 1) (by simp); have hk := he.1; clear hr he
                    go_simp
                  refine V3.VFrom.cons (V3.VStep.skip _ rfl rfl rfl) ?_
                  refine V3.VFrom.cons (V3.VStep.skip _ rfl rfl rfl) ?_
                  refine V3.VFrom.cons (V3.VStep.val _ rfl _ rfl (.bool true) rfl trivial (fun ev wq hS he hr => ?_)) ?_
                  · have r0 : ev (.tmp 84) = .bool true := hr (84, some 2) (by simp); have r1 : ev (.tmp 86) = undef := hr (86, some 4) (by simp); have hk := he.1; clear hr he
                    go_simp
                  refine V3.VFrom.cons (V3.VStep.val _ rfl _ rfl (.bool true) rfl trivial (fun ev wq hS he hr => ?_)) ?_
                  · have r0 : ev (.tmp 87) = .bool true := hr (87, some 5) (by simp); have hk := he.1; clear hr he
                    go_simp
                  refine V3.VFrom.cons (V3.VStep.skip _ rfl rfl rfl) ?_
                  refine V3.VFrom.cons (V3.VStep.skip _ rfl rfl rfl) ?_
                  refine V3.VFrom.cons (V3.VStep.val _ rfl _ rfl (.bool true) rfl trivial (fun ev wq hS he hr => ?_)) ?_
                  · have r0 : ev (.tmp 88) = .bool true := hr (88, some 6) (by simp); have r1 : ev (.tmp 90) = undef := hr (90, some 8) (by simp); have hk := he.1; clear hr he
                    go_simp
                  refine V3.VFrom.cons (V3.VStep.val _ rfl _ rfl (.bool true) rfl trivial (fun ev wq hS he hr => ?_)) ?_
                  · have r0 : ev (.tmp 91) = .bool true := hr (91, some 9) (by simp); have hk := he.1; clear hr he
                    go_simp
                  refine V3.VFrom.cons (V3.VStep.skip _ rfl rfl rfl) ?_
                  refine V3.VFrom.cons (V3.VStep.skip _ rfl rfl rfl) ?_
                  refine V3.VFrom.cons (V3.VStep.skip _ rfl rfl rfl) ?_
                  refine V3.VFrom.cons (V3.VStep.val _ rfl _ rfl (.bool true) rfl trivial (fun ev wq hS he hr => ?_)) ?_
                  · have r0 : ev (.tmp 92) = .bool true := hr (92, some 10) (by simp); have r1 : ev (.tmp 95) = undef := hr (95, some 13) (by simp); have hk := he.1; clear hr he
                    go_simp
                  refine V3.VFrom.cons (V3.VStep.val _ rfl _ rfl (.bool true) rfl trivial (fun ev wq hS he hr => ?_)) ?_
                  · have r0 : ev (.tmp 96) = .bool true := hr (96, some 14) (by simp); have hk := he.1; clear hr he
                    go_simp
                  refine V3.VFrom.cons (V3.VStep.skip _ rfl rfl rfl) ?_
                  refine V3.VFrom.cons (V3.VStep.skip _ rfl rfl rfl) ?_
                  refine V3.VFrom.cons (V3.VStep.skip _ rfl rfl rfl) ?_
                  refine V3.VFrom.cons (V3.VStep.skip _ rfl rfl rfl) ?_
                  refine V3.VFrom.cons (V3.VStep.skip _ rfl rfl rfl) ?_
                  refine V3.VFrom.cons (V3.VStep.skip _ rfl rfl rfl) ?_
                  refine V3.VFrom.cons (V3.VStep.skip _ rfl rfl rfl) ?_
                  refine V3.VFrom.cons (V3.VStep.skip _ rfl rfl rfl) ?_
                  refine V3.VFrom.cons (V3.VStep.skip _ rfl rfl rfl) ?_
                  refine V3.VFrom.cons (V3.VStep.val _ rfl _ rfl (.bool true) rfl trivial (fun ev wq hS he hr => ?_)) ?_
                  · have r0 : ev (.tmp 97) = .bool true := hr (97, some 15) (by simp); have r1 : ev (.tmp 106) = undef := hr (106, some 24) (by simp); have hk := he.1; clear hr he
                    go_simp
                  exact V3.VFrom.nil
                case hS => exact hid (Kp.refl Nb w4).drew
                case hend =>
                  intro w5 h5
                  have KW5 := hid h5.out
                  have BN5 := hid (BN4.out.kept h5.out (fun h => h))
                  have K5 := hid (K4.out.trans h5.out (fun _ _ h => h))
                  clear h5
                  simp only [V3.putAll, List.zip_cons_cons, List.zip_nil_right, List.foldl_cons, List.foldl_nil, Act.put, List.setIfInBounds_toArray, List.set_cons_zero, List.set_cons_succ]
                  have TH := hid (item_there (ks := ⟨#[]⟩) (dn := 0) (dd := 0) (vp := .slice none 0 0) (vv := .slice none 0 0) (g := false) BN5.out rfl)
                  have HW := hid (row_set (vs := itL ⟨#[]⟩ 0 0 (.slice none 0 0) false (.slice none 0 0)) (cs := itL ⟨#[]⟩ 0 0 (.slice none 0 0) false (.slice none 0 0)) BN5.out rfl)
                  have HKW : Hid (Kp Nb w (w5.setCells N 0 (itL ⟨#[]⟩ 0 0 (.slice none 0 0) false (.slice none 0 0)))) := hid (K5.out.trans (kp_setsN (Kp.refl _ w5)) (fun i hi h => by have h' : i = N := h; have := HNW.out; omega))
                  have HPF : Hid (PR = none) := hid (HPX.out)
                  go_wp2_with (first
                    | (refine at_storeV 28 (.tmp 2) (.tmp 108) (by rfl) ?_; refine wpList_store_mid (by rfl) 28 (.tmp 2) (.tmp 108) (by rfl) N 0 (itL ⟨#[]⟩ 0 0 (.slice none 0 0) false (.slice none 0 0)).toArray (by rfl) (by rfl) TH.out item_info (item_one _ _ _ _ _ _ _ _ _ _) ?_))
                  refine bodyPost_ret (results_ctD rfl _ N (by rfl) _ (.bool false) (by rfl) (row_loadVar Tryz.underlying28 rfl (item_infoL _ _ _ _ _ _) HW.out 0 (fun j _ => by rw [Nat.zero_add]))) rfl ?_
                  rw [HPF.out]
                  exact ⟨.slice none 0 0, .slice none 0 0, rfl, itz_ok _, HKW.out⟩
              | some key =>
                cases rd with
                | none =>
                  have HPX : Hid (PR = none) := hid HRI.out
                  simp only [Option.isSome_none, Option.isSome_some]
                  obtain ⟨b3, hb3⟩ : ∃ b, rc.isSome = b := ⟨_, rfl⟩
                  obtain ⟨nd, hnd⟩ : ∃ m, ((none : Option (List RunQ)).getD []).length = m := ⟨_, rfl⟩
                  rw [hb3]
                  simp only [hnd]
                  clear hb3 hnd
                  go_upto_region 15 with fail
                  refine V3.region_vals2 [none, none, none, none, none, none, none, none, none, none, none, none, none, none, none, none, none, none, none, none, none, none, none, none, none, none, none, none, none, none, none, none, none, none, none, none, none, none, none, none, none, none, none, none, none, none, none, none, none, none, none, none, none, none, none, none, none, none, none, none, none, none, none, none, none, none, none, none, none, none, none, none, none, none, none, none, none, none, none, none, none, none, some 0, some 1, some 2, some 3, some 4, some 5, some 6, some 7, some 8, some 9, some 10, some 11, some 12, some 13, some 14, some 15, some 16, some 17, some 18, some 19, some 20, some 21, some 22, some 23, some 24, some 25, none, none, none, none, none, none, none, none, none, none, none, none, none, none, none, none, none, none, none, none, none, none, none, none, none, none, none, none, none, none, none, none, none, none, none, none, none, none, none, none, none, none, none, none] [[(9, none)], [(82, some 0)], [(83, some 1)], [(11, none)], [(85, some 3)], [(84, some 2), (86, some 4)], [(87, some 5)], [(13, none)], [(89, some 7)], [(88, some 6), (90, some 8)], [(91, some 9)], [(10, none)], [(93, some 11)], [(94, some 12)], [(92, some 10), (95, some 13)], [(96, some 14)], [(10, none)], [(98, some 16)], [(99, some 17)], [(100, some 18)], [(10, none)], [(102, some 20)], [(103, some 21)], [(104, some 22)], [(101, some 19), (105, some 23)], [(97, some 15), (106, some 24)]] [some 82, some 83, some 84, some 85, some 86, some 87, some 88, some 89, some 90, some 91, some 92, some 93, some 94, some 95, some 96, some 97, some 98, some 99, some 100, some 101, some 102, some 103, some 104, some 105, some 106, some 107] [.bool true, .bool false, .bool false, .bool false, .bool true, .bool true, .bool true, undef, undef, .bool true, .bool true, undef, undef, undef, .bool true, .bool true, undef, undef, undef, undef, undef, undef, undef, undef, undef, .bool true] (fun wq => Hid (Kp Nb w4 wq)) (by kernel_rfl) (by kernel_rfl) (by kernel_rfl) ?hS (V3.VFrom.all (n := 26) (by kernel_rfl) ?hstep) ?hend
                  case hstep =>
                    refine V3.VFrom.cons (V3.VStep.val _ rfl _ rfl (.bool true) rfl trivial (fun ev wq hS he hr => ?_)) ?_
                    · have r0 : ev (.tmp 9) = .bool true := hr (9, none) (by simp); have hk := he.1; clear hr he
                      go_simp
                    refine V3.VFrom.cons (V3.VStep.val _ rfl _ rfl (.bool false) rfl trivial (fun ev wq hS he hr => ?_)) ?_
                    · have r0 : ev (.tmp 82) = .bool true := hr (82, some 0) (by simp); have hk := he.1; clear hr he
                      go_simp
                    refine V3.VFrom.cons (V3.VStep.val _ rfl _ rfl (.bool false) rfl trivial (fun ev wq hS he hr => ?_)) ?_
                    · have r0 : ev (.tmp 83) = .bool false := hr (83, some 1) (by simp); have hk := he.1; clear hr he
                      go_simp
                    refine V3.VFrom.cons (V3.VStep.val _ rfl _ rfl (.bool false) rfl rfl (fun ev wq hS he hr => ?_)) ?_
                    · have r0 : ev (.tmp 11) = .bool false := hr (11, none) (by simp); have hk := he.1; clear hr he
                      go_simp
                    refine V3.VFrom.cons (V3.VStep.val _ rfl _ rfl (.bool true) rfl rfl (fun ev wq hS he hr => ?_)) ?_
                    · have r0 : ev (.tmp 85) = .bool false := hr (85, some 3) (by simp); have hk := he.1; clear hr he
                      go_simp
                    refine V3.VFrom.cons (V3.VStep.val _ rfl _ rfl (.bool true) rfl trivial (fun ev wq hS he hr => ?_)) ?_
                    · have r0 : ev (.tmp 84) = .bool false := hr (84, some 2) (by simp); have r1 : ev (.tmp 86) = .bool true := hr (86, some 4) (by simp); have hk := he.1; clear hr he
                      go_simp
                    refine V3.VFrom.cons (V3.VStep.val _ rfl _ rfl (.bool true) rfl trivial (fun ev wq hS he hr => ?_)) ?_
                    · have r0 : ev (.tmp 87) = .bool true := hr (87, some 5) (by simp); have hk := he.1; clear hr he
                      go_simp
                    refine V3.VFrom.cons (V3.VStep.skip _ rfl rfl rfl) ?_
                    refine V3.VFrom.cons (V3.VStep.skip _ rfl rfl rfl) ?_
                    refine V3.VFrom.cons (V3.VStep.val _ rfl _ rfl (.bool true) rfl trivial (fun ev wq hS he hr => ?_)) ?_
                    · have r0 : ev (.tmp 88) = .bool true := hr (88, some 6) (by simp); have r1 : ev (.tmp 90) = undef := hr (90, some 8) (by simp); have hk := he.1; clear hr he
                      go_simp
                    refine V3.VFrom.cons (V3.VStep.val _ rfl _ rfl (.bool true) rfl trivial (fun ev wq hS he hr => ?_)) ?_
                    · have r0 : ev (.tmp 91) = .bool true := hr (91, some 9) (by simp); have hk := he.1; clear hr he
                      go_simp
                    refine V3.VFrom.cons (V3.VStep.skip _ rfl rfl rfl) ?_
                    refine V3.VFrom.cons (V3.VStep.skip _ rfl rfl rfl) ?_
                    refine V3.VFrom.cons (V3.VStep.skip _ rfl rfl rfl) ?_
                    refine V3.VFrom.cons (V3.VStep.val _ rfl _ rfl (.bool true) rfl trivial (fun ev wq hS he hr => ?_)) ?_
                    · have r0 : ev (.tmp 92) = .bool true := hr (92, some 10) (by simp); have r1 : ev (.tmp 95) = undef := hr (95, some 13) (by simp); have hk := he.1; clear hr he
                      go_simp
                    refine V3.VFrom.cons (V3.VStep.val _ rfl _ rfl (.bool true) rfl trivial (fun ev wq hS he hr => ?_)) ?_
                    · have r0 : ev (.tmp 96) = .bool true := hr (96, some 14) (by simp); have hk := he.1; clear hr he
                      go_simp
                    refine V3.VFrom.cons (V3.VStep.skip _ rfl rfl rfl) ?_
                    refine V3.VFrom.cons (V3.VStep.skip _ rfl rfl rfl) ?_
                    refine V3.VFrom.cons (V3.VStep.skip _ rfl rfl rfl) ?_
                    refine V3.VFrom.cons (V3.VStep.skip _ rfl rfl rfl) ?_
                    refine V3.VFrom.cons (V3.VStep.skip _ rfl rfl rfl) ?_
                    refine V3.VFrom.cons (V3.VStep.skip _ rfl rfl rfl) ?_
                    refine V3.VFrom.cons (V3.VStep.skip _ rfl rfl rfl) ?_
                    refine V3.VFrom.cons (V3.VStep.skip _ rfl rfl rfl) ?_
                    refine V3.VFrom.cons (V3.VStep.skip _ rfl rfl rfl) ?_
                    refine V3.VFrom.cons (V3.VStep.val _ rfl _ rfl (.bool true) rfl trivial (fun ev wq hS he hr => ?_)) ?_
                    · have r0 : ev (.tmp 97) = .bool true := hr (97, some 15) (by simp); have r1 : ev (.tmp 106) = undef := hr (106, some 24) (by simp); have hk := he.1; clear hr he
                      go_simp
                    exact V3.VFrom.nil
                  case hS => exact hid (Kp.refl Nb w4).drew
                  case hend =>
                    intro w5 h5
                    have KW5 := hid h5.out
                    have BN5 := hid (BN4.out.kept h5.out (fun h => h))
                    have K5 := hid (K4.out.trans h5.out (fun _ _ h => h))
                    clear h5
                    simp only [V3.putAll, List.zip_cons_cons, List.zip_nil_right, List.foldl_cons, List.foldl_nil, Act.put, List.setIfInBounds_toArray, List.set_cons_zero, List.set_cons_succ]
                    have TH := hid (item_there (ks := ⟨#[]⟩) (dn := 0) (dd := 0) (vp := .slice none 0 0) (vv := .slice none 0 0) (g := false) BN5.out rfl)
                    have HW := hid (row_set (vs := itL ⟨#[]⟩ 0 0 (.slice none 0 0) false (.slice none 0 0)) (cs := itL ⟨#[]⟩ 0 0 (.slice none 0 0) false (.slice none 0 0)) BN5.out rfl)
                    have HKW : Hid (Kp Nb w (w5.setCells N 0 (itL ⟨#[]⟩ 0 0 (.slice none 0 0) false (.slice none 0 0)))) := hid (K5.out.trans (kp_setsN (Kp.refl _ w5)) (fun i hi h => by have h' : i = N := h; have := HNW.out; omega))
                    have HPF : Hid (PR = none) := hid (HPX.out)
                    go_wp2_with (first
                      | (refine at_storeV 28 (.tmp 2) (.tmp 108) (by rfl) ?_; refine wpList_store_mid (by rfl) 28 (.tmp 2) (.tmp 108) (by rfl) N 0 (itL ⟨#[]⟩ 0 0 (.slice none 0 0) false (.slice none 0 0)).toArray (by rfl) (by rfl) TH.out item_info (item_one _ _ _ _ _ _ _ _ _ _) ?_))
                    refine bodyPost_ret (results_ctD rfl _ N (by rfl) _ (.bool false) (by rfl) (row_loadVar Tryz.underlying28 rfl (item_infoL _ _ _ _ _ _) HW.out 0 (fun j _ => by rw [Nat.zero_add]))) rfl ?_
                    rw [HPF.out]
                    exact ⟨.slice none 0 0, .slice none 0 0, rfl, itz_ok _, HKW.out⟩
                | some dc =>
                  cases rc with
                  | none =>
                    have HPX : Hid (PR = none) := hid (by rw [HRI.out]; match dc with | [] => rfl | [_] => rfl | _ :: _ :: _ => rfl)
                    simp only [Option.isSome_none, Option.isSome_some]
                    obtain ⟨nd, hnd⟩ : ∃ m, ((some dc).getD []).length = m := ⟨_, rfl⟩
                    simp only [hnd]
                    clear hnd
                    go_upto_region 15 with fail
                    refine V3.region_vals2 [none, none, none, none, none, none, none, none, none, none, none, none, none, none, none, none, none, none, none, none, none, none, none, none, none, none, none, none, none, none, none, none, none, none, none, none, none, none, none, none, none, none, none, none, none, none, none, none, none, none, none, none, none, none, none, none, none, none, none, none, none, none, none, none, none, none, none, none, none, none, none, none, none, none, none, none, none, none, none, none, none, none, some 0, some 1, some 2, some 3, some 4, some 5, some 6, some 7, some 8, some 9, some 10, some 11, some 12, some 13, some 14, some 15, some 16, some 17, some 18, some 19, some 20, some 21, some 22, some 23, some 24, some 25, none, none, none, none, none, none, none, none, none, none, none, none, none, none, none, none, none, none, none, none, none, none, none, none, none, none, none, none, none, none, none, none, none, none, none, none, none, none, none, none, none, none, none, none] [[(9, none)], [(82, some 0)], [(83, some 1)], [(11, none)], [(85, some 3)], [(84, some 2), (86, some 4)], [(87, some 5)], [(13, none)], [(89, some 7)], [(88, some 6), (90, some 8)], [(91, some 9)], [(10, none)], [(93, some 11)], [(94, some 12)], [(92, some 10), (95, some 13)], [(96, some 14)], [(10, none)], [(98, some 16)], [(99, some 17)], [(100, some 18)], [(10, none)], [(102, some 20)], [(103, some 21)], [(104, some 22)], [(101, some 19), (105, some 23)], [(97, some 15), (106, some 24)]] [some 82, some 83, some 84, some 85, some 86, some 87, some 88, some 89, some 90, some 91, some 92, some 93, some 94, some 95, some 96, some 97, some 98, some 99, some 100, some 101, some 102, some 103, some 104, some 105, some 106, some 107] [.bool true, .bool false, .bool false, .bool true, .bool false, .bool false, .bool false, .bool false, .bool true, .bool true, .bool true, undef, undef, undef, .bool true, .bool true, undef, undef, undef, undef, undef, undef, undef, undef, undef, .bool true] (fun wq => Hid (Kp Nb w4 wq)) (by kernel_rfl) (by kernel_rfl) (by kernel_rfl) ?hS (V3.VFrom.all (n := 26) (by kernel_rfl) ?hstep) ?hend
                    case hstep =>
                      refine V3.VFrom.cons (V3.VStep.val _ rfl _ rfl (.bool true) rfl trivial (fun ev wq hS he hr => ?_)) ?_
                      · have r0 : ev (.tmp 9) = .bool true := hr (9, none) (by simp); have hk := he.1; clear hr he
                        go_simp
                      refine V3.VFrom.cons (V3.VStep.val _ rfl _ rfl (.bool false) rfl trivial (fun ev wq hS he hr => ?_)) ?_
                      · have r0 : ev (.tmp 82) = .bool true := hr (82, some 0) (by simp); have hk := he.1; clear hr he
                        go_simp
                      refine V3.VFrom.cons (V3.VStep.val _ rfl _ rfl (.bool false) rfl trivial (fun ev wq hS he hr => ?_)) ?_
                      · have r0 : ev (.tmp 83) = .bool false := hr (83, some 1) (by simp); have hk := he.1; clear hr he
                        go_simp
                      refine V3.VFrom.cons (V3.VStep.val _ rfl _ rfl (.bool true) rfl rfl (fun ev wq hS he hr => ?_)) ?_
                      · have r0 : ev (.tmp 11) = .bool true := hr (11, none) (by simp); have hk := he.1; clear hr he
                        go_simp
                      refine V3.VFrom.cons (V3.VStep.val _ rfl _ rfl (.bool false) rfl rfl (fun ev wq hS he hr => ?_)) ?_
                      · have r0 : ev (.tmp 85) = .bool true := hr (85, some 3) (by simp); have hk := he.1; clear hr he
                        go_simp
                      refine V3.VFrom.cons (V3.VStep.val _ rfl _ rfl (.bool false) rfl trivial (fun ev wq hS he hr => ?_)) ?_
                      · have r0 : ev (.tmp 84) = .bool false := hr (84, some 2) (by simp); have r1 : ev (.tmp 86) = .bool false := hr (86, some 4) (by simp); have hk := he.1; clear hr he
                        go_simp
                      refine V3.VFrom.cons (V3.VStep.val _ rfl _ rfl (.bool false) rfl trivial (fun ev wq hS he hr => ?_)) ?_
                      · have r0 : ev (.tmp 87) = .bool false := hr (87, some 5) (by simp); have hk := he.1; clear hr he
                        go_simp
                      refine V3.VFrom.cons (V3.VStep.val _ rfl _ rfl (.bool false) rfl rfl (fun ev wq hS he hr => ?_)) ?_
                      · have r0 : ev (.tmp 13) = .bool false := hr (13, none) (by simp); have hk := he.1; clear hr he
                        go_simp
                      refine V3.VFrom.cons (V3.VStep.val _ rfl _ rfl (.bool true) rfl rfl (fun ev wq hS he hr => ?_)) ?_
                      · have r0 : ev (.tmp 89) = .bool false := hr (89, some 7) (by simp); have hk := he.1; clear hr he
                        go_simp
                      refine V3.VFrom.cons (V3.VStep.val _ rfl _ rfl (.bool true) rfl trivial (fun ev wq hS he hr => ?_)) ?_
                      · have r0 : ev (.tmp 88) = .bool false := hr (88, some 6) (by simp); have r1 : ev (.tmp 90) = .bool true := hr (90, some 8) (by simp); have hk := he.1; clear hr he
                        go_simp
                      refine V3.VFrom.cons (V3.VStep.val _ rfl _ rfl (.bool true) rfl trivial (fun ev wq hS he hr => ?_)) ?_
                      · have r0 : ev (.tmp 91) = .bool true := hr (91, some 9) (by simp); have hk := he.1; clear hr he
                        go_simp
                      refine V3.VFrom.cons (V3.VStep.skip _ rfl rfl rfl) ?_
                      refine V3.VFrom.cons (V3.VStep.skip _ rfl rfl rfl) ?_
                      refine V3.VFrom.cons (V3.VStep.skip _ rfl rfl rfl) ?_
                      refine V3.VFrom.cons (V3.VStep.val _ rfl _ rfl (.bool true) rfl trivial (fun ev wq hS he hr => ?_)) ?_
                      · have r0 : ev (.tmp 92) = .bool true := hr (92, some 10) (by simp); have r1 : ev (.tmp 95) = undef := hr (95, some 13) (by simp); have hk := he.1; clear hr he
                        go_simp
                      refine V3.VFrom.cons (V3.VStep.val _ rfl _ rfl (.bool true) rfl trivial (fun ev wq hS he hr => ?_)) ?_
                      · have r0 : ev (.tmp 96) = .bool true := hr (96, some 14) (by simp); have hk := he.1; clear hr he
                        go_simp
                      refine V3.VFrom.cons (V3.VStep.skip _ rfl rfl rfl) ?_
                      refine V3.VFrom.cons (V3.VStep.skip _ rfl rfl rfl) ?_
                      refine V3.VFrom.cons (V3.VStep.skip _ rfl rfl rfl) ?_
                      refine V3.VFrom.cons (V3.VStep.skip _ rfl rfl rfl) ?_
                      refine V3.VFrom.cons (V3.VStep.skip _ rfl rfl rfl) ?_
                      refine V3.VFrom.cons (V3.VStep.skip _ rfl rfl rfl) ?_
                      refine V3.VFrom.cons (V3.VStep.skip _ rfl rfl rfl) ?_
                      refine V3.VFrom.cons (V3.VStep.skip _ rfl rfl rfl) ?_
                      refine V3.VFrom.cons (V3.VStep.skip _ rfl rfl rfl) ?_
                      refine V3.VFrom.cons (V3.VStep.val _ rfl _ rfl (.bool true) rfl trivial (fun ev wq hS he hr => ?_)) ?_
                      · have r0 : ev (.tmp 97) = .bool true := hr (97, some 15) (by simp); have r1 : ev (.tmp 106) = undef := hr (106, some 24) (by simp); have hk := he.1; clear hr he
                        go_simp
                      exact V3.VFrom.nil
                    case hS => exact hid (Kp.refl Nb w4).drew
                    case hend =>
                      intro w5 h5
                      have KW5 := hid h5.out
                      have BN5 := hid (BN4.out.kept h5.out (fun h => h))
                      have K5 := hid (K4.out.trans h5.out (fun _ _ h => h))
                      clear h5
                      simp only [V3.putAll, List.zip_cons_cons, List.zip_nil_right, List.foldl_cons, List.foldl_nil, Act.put, List.setIfInBounds_toArray, List.set_cons_zero, List.set_cons_succ]
                      have TH := hid (item_there (ks := ⟨#[]⟩) (dn := 0) (dd := 0) (vp := .slice none 0 0) (vv := .slice none 0 0) (g := false) BN5.out rfl)
                      have HW := hid (row_set (vs := itL ⟨#[]⟩ 0 0 (.slice none 0 0) false (.slice none 0 0)) (cs := itL ⟨#[]⟩ 0 0 (.slice none 0 0) false (.slice none 0 0)) BN5.out rfl)
                      have HKW : Hid (Kp Nb w (w5.setCells N 0 (itL ⟨#[]⟩ 0 0 (.slice none 0 0) false (.slice none 0 0)))) := hid (K5.out.trans (kp_setsN (Kp.refl _ w5)) (fun i hi h => by have h' : i = N := h; have := HNW.out; omega))
                      have HPF : Hid (PR = none) := hid (HPX.out)
                      go_wp2_with (first
                        | (refine at_storeV 28 (.tmp 2) (.tmp 108) (by rfl) ?_; refine wpList_store_mid (by rfl) 28 (.tmp 2) (.tmp 108) (by rfl) N 0 (itL ⟨#[]⟩ 0 0 (.slice none 0 0) false (.slice none 0 0)).toArray (by rfl) (by rfl) TH.out item_info (item_one _ _ _ _ _ _ _ _ _ _) ?_))
                      refine bodyPost_ret (results_ctD rfl _ N (by rfl) _ (.bool false) (by rfl) (row_loadVar Tryz.underlying28 rfl (item_infoL _ _ _ _ _ _) HW.out 0 (fun j _ => by rw [Nat.zero_add]))) rfl ?_
                      rw [HPF.out]
                      exact ⟨.slice none 0 0, .slice none 0 0, rfl, itz_ok _, HKW.out⟩
                  | some past =>
                    simp only [Option.getD_some, Option.isSome_some] at HV3 HO4 ⊢
                    by_cases hone : dc.length = 1
                    · obtain ⟨r, rfl⟩ : ∃ r, dc = [r] := List.length_eq_one_iff.1 hone
                      obtain ⟨n, f, tt⟩ := r
                      have HRI2 : Hid (PR = if f = tt then endP key (n, f, tt) past v else none) := hid HRI.out
                      clear hone HRI
                      have HRO := hid (HO4.out.ok (n, f, tt) (by simp))
                      obtain ⟨y3, c3, e3⟩ := HV3.out.shape
                      subst e3
                      have hrows := HO4.out.2
                      rcases hrows with ⟨_, e⟩ | ⟨blk, off, cap, e, -, -, hr⟩
                      · cases e
                      · have e' : y2 = some ⟨blk, off, none⟩ ∧ c2 = cap := by injection e with e1 e2 e3; exact ⟨e1, e3⟩
                        obtain ⟨rfl, rfl⟩ := e'
                        have HC0 : Hid (w4.cell? ⟨blk, off, none⟩ = some (.int .i64 n)) := hid (by
                          have := hr 0 (by show 0 < 1; decide) 0 _ rfl
                          rw [show off + 0 * 3 + 0 = off by omega] at this
                          exact this)
                        have HC1 : Hid (w4.cell? ⟨blk, off + 1, none⟩ = some (.int .i64 f)) := hid (by
                          have := hr 0 (by show 0 < 1; decide) 1 _ rfl
                          rw [show off + 0 * 3 + 1 = off + 1 by omega] at this
                          exact this)
                        have HC2 : Hid (w4.cell? ⟨blk, off + 2, none⟩ = some (.int .i64 tt)) := hid (by
                          have := hr 0 (by show 0 < 1; decide) 2 _ rfl
                          rw [show off + 0 * 3 + 2 = off + 2 by omega] at this
                          exact this)
                        obtain ⟨sk, hsk⟩ : ∃ s, st key = s := ⟨_, rfl⟩
                        have HSK := hid hsk
                        have HKB := hid (HBK.out key rfl)
                        rw [hsk]
                        obtain ⟨n3, hn3⟩ : ∃ m, past.length = m := ⟨_, rfl⟩
                        simp only [hn3] at HV3
                        simp only [hn3, List.length_singleton]
                        clear hr e hsk hn3 HO4 HBK
                        by_cases hft : f = tt
                        · have HG2 : Hid ((f != tt) = false) := hid (by rw [hft]; simp)
                          have HRI3 : Hid (PR = endP key (n, f, tt) past v) := hid (by rw [HRI2.out, if_pos hft])
                          clear hft HRI2
                          go_upto_region 15 with fail
                          refine V3.region_vals2 [none, none, none, none, none, none, none, none, none, none, none, none, none, none, none, none, none, none, none, none, none, none, none, none, none, none, none, none, none, none, none, none, none, none, none, none, none, none, none, none, none, none, none, none, none, none, none, none, none, none, none, none, none, none, none, none, none, none, none, none, none, none, none, none, none, none, none, none, none, none, none, none, none, none, none, none, none, none, none, none, none, none, some 0, some 1, some 2, some 3, some 4, some 5, some 6, some 7, some 8, some 9, some 10, some 11, some 12, some 13, some 14, some 15, some 16, some 17, some 18, some 19, some 20, some 21, some 22, some 23, some 24, some 25, none, none, none, none, none, none, none, none, none, none, none, none, none, none, none, none, none, none, none, none, none, none, none, none, none, none, none, none, none, none, none, none, none, none, none, none, none, none, none, none, none, none, none, none] [[(9, none)], [(82, some 0)], [(83, some 1)], [(11, none)], [(85, some 3)], [(84, some 2), (86, some 4)], [(87, some 5)], [(13, none)], [(89, some 7)], [(88, some 6), (90, some 8)], [(91, some 9)], [(10, none)], [(93, some 11)], [(94, some 12)], [(92, some 10), (95, some 13)], [(96, some 14)], [(10, none)], [(98, some 16)], [(99, some 17)], [(100, some 18)], [(10, none)], [(102, some 20)], [(103, some 21)], [(104, some 22)], [(101, some 19), (105, some 23)], [(97, some 15), (106, some 24)]] [some 82, some 83, some 84, some 85, some 86, some 87, some 88, some 89, some 90, some 91, some 92, some 93, some 94, some 95, some 96, some 97, some 98, some 99, some 100, some 101, some 102, some 103, some 104, some 105, some 106, some 107] [.bool true, .bool false, .bool false, .bool true, .bool false, .bool false, .bool false, .bool true, .bool false, .bool false, .bool false, .slice (some ⟨blk, off, none⟩) 1 c2, .int .i64 ((1 : Nat) : Int), .bool false, .bool false, .bool false, .slice (some ⟨blk, off, none⟩) 1 c2, .pointer (some ⟨blk, off, none⟩), .pointer (some ⟨blk, off + 1, none⟩), .int .i64 f, .slice (some ⟨blk, off, none⟩) 1 c2, .pointer (some ⟨blk, off, none⟩), .pointer (some ⟨blk, off + 2, none⟩), .int .i64 tt, .bool false, .bool false] (fun wq => Hid (Kp Nb w4 wq)) (by kernel_rfl) (by kernel_rfl) (by kernel_rfl) ?hS (V3.VFrom.all (n := 26) (by kernel_rfl) ?hstep) ?hend
                          case hstep =>
                            refine V3.VFrom.cons (V3.VStep.val _ rfl _ rfl (.bool true) rfl trivial (fun ev wq hS he hr => ?_)) ?_
                            · have r0 : ev (.tmp 9) = .bool true := hr (9, none) (by simp); have hk := he.1; clear hr he
                              go_simp
                            refine V3.VFrom.cons (V3.VStep.val _ rfl _ rfl (.bool false) rfl trivial (fun ev wq hS he hr => ?_)) ?_
                            · have r0 : ev (.tmp 82) = .bool true := hr (82, some 0) (by simp); have hk := he.1; clear hr he
                              go_simp
                            refine V3.VFrom.cons (V3.VStep.val _ rfl _ rfl (.bool false) rfl trivial (fun ev wq hS he hr => ?_)) ?_
                            · have r0 : ev (.tmp 83) = .bool false := hr (83, some 1) (by simp); have hk := he.1; clear hr he
                              go_simp
                            refine V3.VFrom.cons (V3.VStep.val _ rfl _ rfl (.bool true) rfl rfl (fun ev wq hS he hr => ?_)) ?_
                            · have r0 : ev (.tmp 11) = .bool true := hr (11, none) (by simp); have hk := he.1; clear hr he
                              go_simp
                            refine V3.VFrom.cons (V3.VStep.val _ rfl _ rfl (.bool false) rfl rfl (fun ev wq hS he hr => ?_)) ?_
                            · have r0 : ev (.tmp 85) = .bool true := hr (85, some 3) (by simp); have hk := he.1; clear hr he
                              go_simp
                            refine V3.VFrom.cons (V3.VStep.val _ rfl _ rfl (.bool false) rfl trivial (fun ev wq hS he hr => ?_)) ?_
                            · have r0 : ev (.tmp 84) = .bool false := hr (84, some 2) (by simp); have r1 : ev (.tmp 86) = .bool false := hr (86, some 4) (by simp); have hk := he.1; clear hr he
                              go_simp
                            refine V3.VFrom.cons (V3.VStep.val _ rfl _ rfl (.bool false) rfl trivial (fun ev wq hS he hr => ?_)) ?_
                            · have r0 : ev (.tmp 87) = .bool false := hr (87, some 5) (by simp); have hk := he.1; clear hr he
                              go_simp
                            refine V3.VFrom.cons (V3.VStep.val _ rfl _ rfl (.bool true) rfl rfl (fun ev wq hS he hr => ?_)) ?_
                            · have r0 : ev (.tmp 13) = .bool true := hr (13, none) (by simp); have hk := he.1; clear hr he
                              go_simp
                            refine V3.VFrom.cons (V3.VStep.val _ rfl _ rfl (.bool false) rfl rfl (fun ev wq hS he hr => ?_)) ?_
                            · have r0 : ev (.tmp 89) = .bool true := hr (89, some 7) (by simp); have hk := he.1; clear hr he
                              go_simp
                            refine V3.VFrom.cons (V3.VStep.val _ rfl _ rfl (.bool false) rfl trivial (fun ev wq hS he hr => ?_)) ?_
                            · have r0 : ev (.tmp 88) = .bool false := hr (88, some 6) (by simp); have r1 : ev (.tmp 90) = .bool false := hr (90, some 8) (by simp); have hk := he.1; clear hr he
                              go_simp
                            refine V3.VFrom.cons (V3.VStep.val _ rfl _ rfl (.bool false) rfl trivial (fun ev wq hS he hr => ?_)) ?_
                            · have r0 : ev (.tmp 91) = .bool false := hr (91, some 9) (by simp); have hk := he.1; clear hr he
                              go_simp
                            refine V3.VFrom.cons (V3.VStep.val _ rfl _ rfl (.slice (some ⟨blk, off, none⟩) 1 c2) rfl rfl (fun ev wq hS he hr => ?_)) ?_
                            · have r0 : ev (.tmp 10) = .slice (some ⟨blk, off, none⟩) 1 c2 := hr (10, none) (by simp); have hk := he.1; clear hr he
                              go_simp
                            refine V3.VFrom.cons (V3.VStep.val _ rfl _ rfl (.int .i64 ((1 : Nat) : Int)) rfl rfl (fun ev wq hS he hr => ?_)) ?_
                            · have r0 : ev (.tmp 93) = .slice (some ⟨blk, off, none⟩) 1 c2 := hr (93, some 11) (by simp); have hk := he.1; clear hr he
                              exact exec_lenK rfl r0
                            refine V3.VFrom.cons (V3.VStep.val _ rfl _ rfl (.bool false) rfl rfl (fun ev wq hS he hr => ?_)) ?_
                            · have r0 : ev (.tmp 94) = .int .i64 ((1 : Nat) : Int) := hr (94, some 12) (by simp); have hk := he.1; clear hr he
                              go_simp
                            refine V3.VFrom.cons (V3.VStep.val _ rfl _ rfl (.bool false) rfl trivial (fun ev wq hS he hr => ?_)) ?_
                            · have r0 : ev (.tmp 92) = .bool false := hr (92, some 10) (by simp); have r1 : ev (.tmp 95) = .bool false := hr (95, some 13) (by simp); have hk := he.1; clear hr he
                              go_simp
                            refine V3.VFrom.cons (V3.VStep.val _ rfl _ rfl (.bool false) rfl trivial (fun ev wq hS he hr => ?_)) ?_
                            · have r0 : ev (.tmp 96) = .bool false := hr (96, some 14) (by simp); have hk := he.1; clear hr he
                              go_simp
                            refine V3.VFrom.cons (V3.VStep.val _ rfl _ rfl (.slice (some ⟨blk, off, none⟩) 1 c2) rfl rfl (fun ev wq hS he hr => ?_)) ?_
                            · have r0 : ev (.tmp 10) = .slice (some ⟨blk, off, none⟩) 1 c2 := hr (10, none) (by simp); have hk := he.1; clear hr he
                              go_simp
                            refine V3.VFrom.cons (V3.VStep.val _ rfl _ rfl (.pointer (some ⟨blk, off, none⟩)) rfl rfl (fun ev wq hS he hr => ?_)) ?_
                            · have r0 : ev (.tmp 98) = .slice (some ⟨blk, off, none⟩) 1 c2 := hr (98, some 16) (by simp); have hk := he.1; clear hr he
                              go_simp
                            refine V3.VFrom.cons (V3.VStep.val _ rfl _ rfl (.pointer (some ⟨blk, off + 1, none⟩)) rfl rfl (fun ev wq hS he hr => ?_)) ?_
                            · have r0 : ev (.tmp 99) = .pointer (some ⟨blk, off, none⟩) := hr (99, some 17) (by simp); have hk := he.1; clear hr he
                              go_simp
                            refine V3.VFrom.cons (V3.VStep.val _ rfl _ rfl (.int .i64 f) rfl rfl (fun ev wq hS he hr => ?_)) ?_
                            · have r0 : ev (.tmp 100) = .pointer (some ⟨blk, off + 1, none⟩) := hr (100, some 18) (by simp); have hk := he.1; clear hr he
                              have c0 : wq.cell? ⟨blk, off + 1, none⟩ = some (.int .i64 f) := hS.out.cell (HC1.out) (fun h => h)
                              go_simp
                            refine V3.VFrom.cons (V3.VStep.val _ rfl _ rfl (.slice (some ⟨blk, off, none⟩) 1 c2) rfl rfl (fun ev wq hS he hr => ?_)) ?_
                            · have r0 : ev (.tmp 10) = .slice (some ⟨blk, off, none⟩) 1 c2 := hr (10, none) (by simp); have hk := he.1; clear hr he
                              go_simp
                            refine V3.VFrom.cons (V3.VStep.val _ rfl _ rfl (.pointer (some ⟨blk, off, none⟩)) rfl rfl (fun ev wq hS he hr => ?_)) ?_
                            · have r0 : ev (.tmp 102) = .slice (some ⟨blk, off, none⟩) 1 c2 := hr (102, some 20) (by simp); have hk := he.1; clear hr he
                              go_simp
                            refine V3.VFrom.cons (V3.VStep.val _ rfl _ rfl (.pointer (some ⟨blk, off + 2, none⟩)) rfl rfl (fun ev wq hS he hr => ?_)) ?_
                            · have r0 : ev (.tmp 103) = .pointer (some ⟨blk, off, none⟩) := hr (103, some 21) (by simp); have hk := he.1; clear hr he
                              go_simp
                            refine V3.VFrom.cons (V3.VStep.val _ rfl _ rfl (.int .i64 tt) rfl rfl (fun ev wq hS he hr => ?_)) ?_
                            · have r0 : ev (.tmp 104) = .pointer (some ⟨blk, off + 2, none⟩) := hr (104, some 22) (by simp); have hk := he.1; clear hr he
                              have c0 : wq.cell? ⟨blk, off + 2, none⟩ = some (.int .i64 tt) := hS.out.cell (HC2.out) (fun h => h)
                              go_simp
                            refine V3.VFrom.cons (V3.VStep.val _ rfl _ rfl (.bool false) rfl rfl (fun ev wq hS he hr => ?_)) ?_
                            · have r0 : ev (.tmp 101) = .int .i64 f := hr (101, some 19) (by simp); have r1 : ev (.tmp 105) = .int .i64 tt := hr (105, some 23) (by simp); have hk := he.1; clear hr he
                              have g1 := HG2.out
                              go_simp
                            refine V3.VFrom.cons (V3.VStep.val _ rfl _ rfl (.bool false) rfl trivial (fun ev wq hS he hr => ?_)) ?_
                            · have r0 : ev (.tmp 97) = .bool false := hr (97, some 15) (by simp); have r1 : ev (.tmp 106) = .bool false := hr (106, some 24) (by simp); have hk := he.1; clear hr he
                              go_simp
                            exact V3.VFrom.nil
                          case hS => exact hid (Kp.refl Nb w4).drew
                          case hend =>
                            intro w5 h5
                            have KW5 := hid h5.out
                            have BN5 := hid (BN4.out.kept h5.out (fun h => h))
                            have K5 := hid (K4.out.trans h5.out (fun _ _ h => h))
                            clear h5
                            simp only [V3.putAll, List.zip_cons_cons, List.zip_nil_right, List.foldl_cons, List.foldl_nil, Act.put, List.setIfInBounds_toArray, List.set_cons_zero, List.set_cons_succ]
                            have HCX0 := hid (KW5.out.cell HC0.out (fun h => h))
                            have HCX1 := hid (KW5.out.cell HC1.out (fun h => h))
                            have HV5 := hid (HV3.out.kept KW5.out)
                            have HXV5 := hid (KW5.out.cell HXV4.out (fun h => h))
                            clear KW5 HC0 HC1 HC2 HV3 HXV4 HG2
                            go_upto_region 17 with fail
                            refine region_ghost (g0 := (0 : Nat)) [none, none, none, none, none, none, none, none, none, none, none, none, none, none, some 12, none, none, none, none, none, none, none, none, none, none, none, none, none, none, none, none, none, none, none, none, none, none, none, none, none, none, none, none, none, none, none, none, none, none, none, none, none, none, none, none, none, none, none, none, none, none, none, none, none, none, none, none, none, none, none, none, none, none, none, none, none, none, none, none, none, none, none, none, none, none, none, none, none, none, none, none, none, none, none, none, none, none, none, none, none, none, none, none, none, none, none, none, none, none, some 0, some 1, some 2, some 3, some 4, some 5, some 6, some 7, some 8, some 9, some 10, some 11, none, none, none, none, none, none, none, none, none, none, none, none, none, none, none, none, none, none, none, none, none, none, none, none, none, none, none, none, none, none, none] [[(8, none)], [(10, none)], [(110, some 1)], [(111, some 2)], [(112, some 3)], [(10, none)], [(114, some 5)], [(115, some 6)], [(116, some 7)], [(113, some 4), (117, some 8)], [(12, none)], [(109, some 0), (118, some 9), (119, some 10)], [], [(14, some 12), (120, some 11)]] [some 109, some 110, some 111, some 112, some 113, some 114, some 115, some 116, some 117, some 118, some 119, some 120, some 14, none] (fun g => [.string sk, .slice (some ⟨blk, off, none⟩) 1 c2, .pointer (some ⟨blk, off, none⟩), .pointer (some ⟨blk, off, none⟩), .int .i64 n, .slice (some ⟨blk, off, none⟩) 1 c2, .pointer (some ⟨blk, off, none⟩), .pointer (some ⟨blk, off + 1, none⟩), .int .i64 f, dotV n f, .slice y3 n3 c3, itV sk n f (.slice y3 n3 c3) false (.slice none 0 0), .pointer (some ⟨g, 0, none⟩), undef]) [12, 13] (fun (bs : List Bool) (g : Nat) wq => Hid (Kp Nb w5 wq ∧ (bs.getD 0 false = true → w5.heap.size ≤ g) ∧ (bs.getD 0 false = true → bs.getD 1 false = false → Blk wq g 28 (itL ⟨#[]⟩ 0 0 (.slice none 0 0) false (.slice none 0 0))) ∧ (bs.getD 1 false = true → Blk wq g 28 (itL sk n f (.slice y3 n3 c3) false (.slice none 0 0))))) (by kernel_rfl) (by kernel_rfl) (fun g => by kernel_rfl) (by kernel_rfl) ?hS (GFrom.all (n := 14) (by kernel_rfl) ?hstep) ?hend
                            case hstep =>
                              refine GFrom.cons (GStep.val _ rfl rfl _ rfl (fun g => .string sk) (fun _ => rfl) (fun _ => trivial) (fun bs g ev wq hS he hr => ?_)) ?_
                              · have r0 : ev (.tmp 8) = .string sk := hr (8, none) (by simp); have hk := he.1; clear hr he
                                go_simp
                              refine GFrom.cons (GStep.val _ rfl rfl _ rfl (fun g => .slice (some ⟨blk, off, none⟩) 1 c2) (fun _ => rfl) (fun _ => trivial) (fun bs g ev wq hS he hr => ?_)) ?_
                              · have r0 : ev (.tmp 10) = .slice (some ⟨blk, off, none⟩) 1 c2 := hr (10, none) (by simp); have hk := he.1; clear hr he
                                go_simp
                              refine GFrom.cons (GStep.val _ rfl rfl _ rfl (fun g => .pointer (some ⟨blk, off, none⟩)) (fun _ => rfl) (fun _ => trivial) (fun bs g ev wq hS he hr => ?_)) ?_
                              · have r0 : ev (.tmp 110) = .slice (some ⟨blk, off, none⟩) 1 c2 := hr (110, some 1) (by simp); have hk := he.1; clear hr he
                                go_simp
                              refine GFrom.cons (GStep.val _ rfl rfl _ rfl (fun g => .pointer (some ⟨blk, off, none⟩)) (fun _ => rfl) (fun _ => trivial) (fun bs g ev wq hS he hr => ?_)) ?_
                              · have r0 : ev (.tmp 111) = .pointer (some ⟨blk, off, none⟩) := hr (111, some 2) (by simp); have hk := he.1; clear hr he
                                go_simp
                              refine GFrom.cons (GStep.val _ rfl rfl _ rfl (fun g => .int .i64 n) (fun _ => rfl) (fun _ => trivial) (fun bs g ev wq hS he hr => ?_)) ?_
                              · have r0 : ev (.tmp 112) = .pointer (some ⟨blk, off, none⟩) := hr (112, some 3) (by simp); have hk := he.1; clear hr he
                                have c0 : wq.cell? ⟨blk, off, none⟩ = some (.int .i64 n) := hS.out.1.cell (HCX0.out) (fun h => h)
                                go_simp
                              refine GFrom.cons (GStep.val _ rfl rfl _ rfl (fun g => .slice (some ⟨blk, off, none⟩) 1 c2) (fun _ => rfl) (fun _ => trivial) (fun bs g ev wq hS he hr => ?_)) ?_
                              · have r0 : ev (.tmp 10) = .slice (some ⟨blk, off, none⟩) 1 c2 := hr (10, none) (by simp); have hk := he.1; clear hr he
                                go_simp
                              refine GFrom.cons (GStep.val _ rfl rfl _ rfl (fun g => .pointer (some ⟨blk, off, none⟩)) (fun _ => rfl) (fun _ => trivial) (fun bs g ev wq hS he hr => ?_)) ?_
                              · have r0 : ev (.tmp 114) = .slice (some ⟨blk, off, none⟩) 1 c2 := hr (114, some 5) (by simp); have hk := he.1; clear hr he
                                go_simp
                              refine GFrom.cons (GStep.val _ rfl rfl _ rfl (fun g => .pointer (some ⟨blk, off + 1, none⟩)) (fun _ => rfl) (fun _ => trivial) (fun bs g ev wq hS he hr => ?_)) ?_
                              · have r0 : ev (.tmp 115) = .pointer (some ⟨blk, off, none⟩) := hr (115, some 6) (by simp); have hk := he.1; clear hr he
                                go_simp
                              refine GFrom.cons (GStep.val _ rfl rfl _ rfl (fun g => .int .i64 f) (fun _ => rfl) (fun _ => trivial) (fun bs g ev wq hS he hr => ?_)) ?_
                              · have r0 : ev (.tmp 116) = .pointer (some ⟨blk, off + 1, none⟩) := hr (116, some 7) (by simp); have hk := he.1; clear hr he
                                have c0 : wq.cell? ⟨blk, off + 1, none⟩ = some (.int .i64 f) := hS.out.1.cell (HCX1.out) (fun h => h)
                                go_simp
                              refine GFrom.cons (GStep.val _ rfl rfl _ rfl (fun g => dotV n f) (fun _ => rfl) (fun _ => trivial) (fun bs g ev wq hS he hr => ?_)) ?_
                              · have r0 : ev (.tmp 113) = .int .i64 n := hr (113, some 4) (by simp); have r1 : ev (.tmp 117) = .int .i64 f := hr (117, some 8) (by simp); have hk := he.1; clear hr he
                                go_simp
                              refine GFrom.cons (GStep.val _ rfl rfl _ rfl (fun g => .slice y3 n3 c3) (fun _ => rfl) (fun _ => trivial) (fun bs g ev wq hS he hr => ?_)) ?_
                              · have r0 : ev (.tmp 12) = .slice y3 n3 c3 := hr (12, none) (by simp); have hk := he.1; clear hr he
                                go_simp
                              refine GFrom.cons (GStep.val _ rfl rfl _ rfl (fun g => itV sk n f (.slice y3 n3 c3) false (.slice none 0 0)) (fun _ => rfl) (fun _ => trivial) (fun bs g ev wq hS he hr => ?_)) ?_
                              · have r0 : ev (.tmp 109) = .string sk := hr (109, some 0) (by simp); have r1 : ev (.tmp 118) = dotV n f := hr (118, some 9) (by simp); have r2 : ev (.tmp 119) = .slice y3 n3 c3 := hr (119, some 10) (by simp); have hk := he.1; clear hr he
                                exact exec_build rfl (by simp [r0, r1, r2]) (build_i3 wq _ _ _ _ _ _)
                              refine GFrom.cons (GStep.make _ rfl _ rfl (fun _ => trivial) (fun Lx g ev wq hL hd hcl hS he hr => ?_)) ?_
                              · clear hr; have hk := he.1
                                have l13 : Lx 13 = false := by cases h : Lx 13 with | false => rfl | true => (have := hcl 13 _ rfl h 12 (by kernel_rfl); rw [hL] at this; cases this)
                                have e : bitsAt [12, 13] Lx = [false, false] := by simp [bitsAt, hL, l13]
                                have e2 : bitsAt [12, 13] (upd Lx 12) = [true, false] := by simp [bitsAt, upd, l13]
                                rw [e] at hS
                                exact ⟨.pointer (some ⟨wq.heap.size, 0, none⟩), wq.heap.size, wq.alloc (.cells (itL ⟨#[]⟩ 0 0 (.slice none 0 0) false (.slice none 0 0)).toArray 28), by go_simp, rfl, old_setV _ hL rfl, by rw [e2]; exact hid ⟨hS.out.1.trans ((Kp.refl Nb wq).alloc _) (fun _ _ h => h), fun _ => hS.out.1.size, fun _ _ => Blk.new wq _ (itL ⟨#[]⟩ 0 0 (.slice none 0 0) false (.slice none 0 0)), (fun e => by cases e)⟩⟩
                              refine GFrom.cons (GStep.storem _ rfl _ rfl (fun _ => rfl) (fun _ => trivial) (fun Lx g ev wq hL hd hcl hS he hr => ?_)) ?_
                              · have r0 : ev (.tmp 14) = .pointer (some ⟨g, 0, none⟩) := hr (14, some 12) (by simp); have r1 : ev (.tmp 120) = itV sk n f (.slice y3 n3 c3) false (.slice none 0 0) := hr (120, some 11) (by simp); clear hr he
                                have l12 : Lx 12 = true := hd 12 (by kernel_rfl)
                                have e : bitsAt [12, 13] Lx = [true, false] := by simp [bitsAt, hL, l12]
                                have e2 : bitsAt [12, 13] (upd Lx 13) = [true, true] := by simp [bitsAt, upd, l12]
                                rw [e] at hS
                                have hb := hS.out.2.2.1 rfl rfl
                                exact ⟨_, exec_store rfl r0 r1 (store_i1 hb), by rw [e2]; exact hid ⟨Kp.setCells (fun h => absurd h (by have := hS.out.2.1 rfl; omega)) _ 0 _ hS.out.1, fun _ => hS.out.2.1 rfl, (fun _ e => by cases e), fun _ => row_set hb rfl⟩⟩
                              exact GFrom.nil
                            case hS => exact hid ⟨(Kp.refl Nb w5).drew, (fun e => by cases e), (fun e => by cases e), (fun e => by cases e)⟩
                            case hend =>
                              intro X w6 h6
                              have BX6 := hid (h6.out.2.2.2 rfl)
                              have KW6 := hid (h6.out.1)
                              have HXN : Hid (N < X) := hid (by have := h6.out.2.1 rfl; have := BN5.out.lt; omega)
                              have K6 := hid (K5.out.trans KW6.out (fun _ _ h => h))
                              have BN6 := hid (BN5.out.kept KW6.out (fun h => h))
                              have IT6 : Hid (ItOk w6 ⟨key, n, f, past, false, []⟩ (.slice y3 n3 c3) (.slice none 0 0)) := hid ⟨HKB.out, HRO.out.1, HRO.out.2.1, HV5.out.kept KW6.out, ⟨isb_nil, .inl ⟨⟨_, _, rfl⟩, rfl⟩⟩⟩
                              have HNX : Hid (w.heap.size ≤ N ∧ N < X) := hid (by have := HNW.out; have := HXN.out; omega)
                              have xv := KW6.out.cell HXV5.out (fun h => h)
                              clear h6 BN5 K5 HCX0 HCX1 KW6 HV5 HXV5
                              simp only [putAll, List.zip_cons_cons, List.zip_nil_right, List.foldl_cons, List.foldl_nil, Act.put, List.setIfInBounds_toArray, List.set_cons_zero, List.set_cons_succ]
                              have HEP : Hid (PR = match valP v with | some (g, val) => if rightI ⟨key, n, f, past, g, val⟩ then some ⟨key, n, f, past, g, val⟩ else none | none => none) := hid HRI3.out
                              have HVP : Hid (valP v = if v = [103, 111, 110, 101] then some (true, []) else if v = [46] then some (false, []) else match unhL v with | some (z :: zs) => some (false, z :: zs) | _ => none) := hid rfl
                              have bsl : ∀ c : List UInt8, ((bs v).toList == c) = decide (v = c) := fun c => by
                                have e : (bs v).toList = v := ByteArray.toList_mk _
                                rw [e, Bool.eq_iff_iff, beq_iff_eq, decide_eq_true_eq]
                              have q1 := bsl [103, 111, 110, 101]
                              have q2 := bsl [46]
                              obtain ⟨g1, hg1⟩ : ∃ b, decide (v = [103, 111, 110, 101]) = b := ⟨_, rfl⟩
                              obtain ⟨g2, hg2⟩ : ∃ b, decide (v = [46]) = b := ⟨_, rfl⟩
                              have HVP2 : Hid (valP v = if g1 then some (true, []) else if g2 then some (false, []) else match unhL v with | some (z :: zs) => some (false, z :: zs) | _ => none) := hid (by rw [HVP.out, ← hg1, ← hg2]; simp only [decide_eq_true_eq])
                              have HBV := hid (fun zs (h : unhL v = some zs) => (hex_unh v zs h).1)
                              have HLV := hid (fun zs (h : unhL v = some zs) => (by have h2 := (hex_unh v zs h).2; have := hexL_len zs; rw [h2] at this; have := HLK.out.2.2.1; omega : zs.length ≤ 1000))
                              rw [hg1] at q1
                              rw [hg2] at q2
                              obtain ⟨ru, hru⟩ : ∃ x, unhL v = x := ⟨_, rfl⟩
                              rw [hru] at HVP2 C4 HBV HLV
                              obtain ⟨sv, hsv⟩ : ∃ t, bs v = t := ⟨_, rfl⟩
                              rw [hsv] at q1 q2 C4 xv
                              have hwr := HWR.out
                              have hlm := HLM.out
                              have hlc := HCW.out
                              clear bsl hg1 hg2 hru hsv HVP HRI3
                              cases g1 with
                              | true =>
                                have HEND : Hid (PR = if rightI ⟨key, n, f, past, true, []⟩ then some ⟨key, n, f, past, true, []⟩ else none) := hid (by rw [HEP.out, HVP2.out]; rfl)
                                have fz := BX6.out.frozen 4
                                have ck : w6.cell? ⟨X, 4, none⟩ = some (.bool false) := BX6.out.cell 4
                                obtain ⟨w8, hw8⟩ : ∃ W, W = w6.setCell ⟨X, 4, none⟩ (.bool true) := ⟨_, rfl⟩
                                have ks : Kp (Jb X) w6 w8 := by rw [hw8]; exact (Kp.refl (Jb X) w6).set 4 _
                                have BX8 : Hid (Blk w8 X 28 (itL sk n f (.slice y3 n3 c3) true (.slice none 0 0))) := hid (by rw [hw8]; exact BX6.out.set 4 _)
                                have BN8 := hid (BN6.out.kept ks (fun h => by have h' : N = X := h; have := HXN.out; omega))
                                have K8 : Hid (Kp Nb w w8) := hid (K6.out.trans ks (fun i hi h => by have h' : i = X := h; have := HNX.out; omega))
                                have IT8 : Hid (ItOk w8 ⟨key, n, f, past, true, []⟩ (.slice y3 n3 c3) (.slice none 0 0)) := hid (by have h := IT6.out.besideI BX6.out ks; exact ⟨h.key, h.dn, h.dd, h.past, h.val⟩)
                                clear ks HEP HVP2
                                go_upto_region 26 with fail
                                rw [← hw8]
                                clear hw8 fz ck BX6 BN6 K6 IT6 q1 q2 xv hwr hlm hlc
                                have CR0 := iright_x _ _ _ w8 IT8.out
                                unfold itVq itV at CR0
                                dsimp only at CR0
                                rw [HSK.out] at CR0
                                have CR := hid CR0
                                clear CR0
                                obtain ⟨rx, hrx⟩ : ∃ b, rightI ⟨key, n, f, past, true, []⟩ = b := ⟨_, rfl⟩
                                rw [hrx] at CR HEND
                                clear hrx
                                go_wp2_with (first
                                  | (refine wpList_val (by rfl) _ _ (exec_loadD (x := .tmp 14) rfl (by rfl) (load_item BX8.out)) ?_))
                                refine CR.out.mono ?_
                                rintro e w9 ⟨rfl, k9⟩
                                have BX9 := hid (BX8.out.kept k9 (fun h => h))
                                have BN9 := hid (BN8.out.kept k9 (fun h => h))
                                have K9 := hid (K8.out.trans k9 (fun _ _ h => h))
                                have IT9 := hid (IT8.out.kept k9)
                                clear k9 CR BX8 BN8 K8 IT8
                                cases rx with
                                | false =>
                                  have TH := hid (item_there (ks := ⟨#[]⟩) (dn := 0) (dd := 0) (vp := .slice none 0 0) (vv := .slice none 0 0) (g := false) BN9.out rfl)
                                  have HW := hid (row_set (vs := itL ⟨#[]⟩ 0 0 (.slice none 0 0) false (.slice none 0 0)) (cs := itL ⟨#[]⟩ 0 0 (.slice none 0 0) false (.slice none 0 0)) BN9.out rfl)
                                  have HKW : Hid (Kp Nb w (w9.setCells N 0 (itL ⟨#[]⟩ 0 0 (.slice none 0 0) false (.slice none 0 0)))) := hid (K9.out.trans (kp_setsN (Kp.refl _ w9)) (fun i hi h => by have h' : i = N := h; have := HNW.out; omega))
                                  have HPF : Hid (PR = none) := hid (HEND.out)
                                  go_wp2_with (first
                                    | (refine at_storeV 28 (.tmp 2) (.tmp 150) (by rfl) ?_; refine wpList_store_mid (by rfl) 28 (.tmp 2) (.tmp 150) (by rfl) N 0 (itL ⟨#[]⟩ 0 0 (.slice none 0 0) false (.slice none 0 0)).toArray (by rfl) (by rfl) TH.out item_info (item_one _ _ _ _ _ _ _ _ _ _) ?_))
                                  refine bodyPost_ret (results_ctD rfl _ N (by rfl) _ (.bool false) (by rfl) (row_loadVar Tryz.underlying28 rfl (item_infoL _ _ _ _ _ _) HW.out 0 (fun j _ => by rw [Nat.zero_add]))) rfl ?_
                                  rw [HPF.out]
                                  exact ⟨.slice none 0 0, .slice none 0 0, rfl, itz_ok _, HKW.out⟩
                                | true =>
                                  have TH := hid (item_there (ks := sk) (dn := n) (dd := f) (vp := .slice y3 n3 c3) (vv := .slice none 0 0) (g := true) BN9.out rfl)
                                  have HW := hid (row_set (vs := itL ⟨#[]⟩ 0 0 (.slice none 0 0) false (.slice none 0 0)) (cs := itL sk n f (.slice y3 n3 c3) true (.slice none 0 0)) BN9.out rfl)
                                  have HKW : Hid (Kp Nb w (w9.setCells N 0 (itL sk n f (.slice y3 n3 c3) true (.slice none 0 0)))) := hid (K9.out.trans (kp_setsN (Kp.refl _ w9)) (fun i hi h => by have h' : i = N := h; have := HNW.out; omega))
                                  have ITW := hid (IT9.out.besideI BN9.out (kp_setsN (vs := itL sk n f (.slice y3 n3 c3) true (.slice none 0 0)) (Kp.refl _ w9)))
                                  have HPF : Hid (PR = some ⟨key, n, f, past, true, []⟩) := hid HEND.out
                                  go_wp2_with (first
                                    | (refine wpList_val (by rfl) _ _ (exec_loadD (x := .tmp 14) rfl (by rfl) (load_item BX9.out)) ?_)
                                    | (refine at_storeV 28 (.tmp 2) (.tmp 151) (by rfl) ?_; refine wpList_store_mid (by rfl) 28 (.tmp 2) (.tmp 151) (by rfl) N 0 (itL sk n f (.slice y3 n3 c3) true (.slice none 0 0)).toArray (by rfl) (by rfl) TH.out item_info (item_one _ _ _ _ _ _ _ _ _ _) ?_))
                                  refine bodyPost_ret (results_ctD rfl _ N (by rfl) _ (.bool true) (by rfl) (row_loadVar Tryz.underlying28 rfl (item_infoL _ _ _ _ _ _) HW.out 0 (fun j _ => by rw [Nat.zero_add]))) rfl ?_
                                  rw [HPF.out]
                                  exact ⟨.slice y3 n3 c3, .slice none 0 0, by show Ending.returned _ = _; rw [← HSK.out]; rfl, ITW.out, HKW.out⟩
                              | false =>
                                cases g2 with
                                | true =>
                                  have HEND : Hid (PR = if rightI ⟨key, n, f, past, false, []⟩ then some ⟨key, n, f, past, false, []⟩ else none) := hid (by rw [HEP.out, HVP2.out]; rfl)
                                  have q3 : (sv.toList != [46]) = false := by rw [bne, q2]; rfl
                                  obtain ⟨w8, hw8⟩ : ∃ W, W = w6 := ⟨_, rfl⟩
                                  have BX8 : Hid (Blk w8 X 28 (itL sk n f (.slice y3 n3 c3) false (.slice none 0 0))) := hid (by rw [hw8]; exact BX6.out)
                                  have BN8 : Hid (Blk w8 N 28 (itL ⟨#[]⟩ 0 0 (.slice none 0 0) false (.slice none 0 0))) := hid (by rw [hw8]; exact BN6.out)
                                  have K8 : Hid (Kp Nb w w8) := hid (by rw [hw8]; exact K6.out)
                                  have IT8 : Hid (ItOk w8 ⟨key, n, f, past, false, []⟩ (.slice y3 n3 c3) (.slice none 0 0)) := hid (by rw [hw8]; exact IT6.out)
                                  clear HEP HVP2
                                  go_upto_region 26 with fail
                                  rw [← hw8]
                                  clear hw8 BX6 BN6 K6 IT6 q1 q2 q3 xv hwr hlm hlc
                                  have CR0 := iright_x _ _ _ w8 IT8.out
                                  unfold itVq itV at CR0
                                  dsimp only at CR0
                                  rw [HSK.out] at CR0
                                  have CR := hid CR0
                                  clear CR0
                                  obtain ⟨rx, hrx⟩ : ∃ b, rightI ⟨key, n, f, past, false, []⟩ = b := ⟨_, rfl⟩
                                  rw [hrx] at CR HEND
                                  clear hrx
                                  go_wp2_with (first
                                    | (refine wpList_val (by rfl) _ _ (exec_loadD (x := .tmp 14) rfl (by rfl) (load_item BX8.out)) ?_))
                                  refine CR.out.mono ?_
                                  rintro e w9 ⟨rfl, k9⟩
                                  have BX9 := hid (BX8.out.kept k9 (fun h => h))
                                  have BN9 := hid (BN8.out.kept k9 (fun h => h))
                                  have K9 := hid (K8.out.trans k9 (fun _ _ h => h))
                                  have IT9 := hid (IT8.out.kept k9)
                                  clear k9 CR BX8 BN8 K8 IT8
                                  cases rx with
                                  | false =>
                                    have TH := hid (item_there (ks := ⟨#[]⟩) (dn := 0) (dd := 0) (vp := .slice none 0 0) (vv := .slice none 0 0) (g := false) BN9.out rfl)
                                    have HW := hid (row_set (vs := itL ⟨#[]⟩ 0 0 (.slice none 0 0) false (.slice none 0 0)) (cs := itL ⟨#[]⟩ 0 0 (.slice none 0 0) false (.slice none 0 0)) BN9.out rfl)
                                    have HKW : Hid (Kp Nb w (w9.setCells N 0 (itL ⟨#[]⟩ 0 0 (.slice none 0 0) false (.slice none 0 0)))) := hid (K9.out.trans (kp_setsN (Kp.refl _ w9)) (fun i hi h => by have h' : i = N := h; have := HNW.out; omega))
                                    have HPF : Hid (PR = none) := hid (HEND.out)
                                    go_wp2_with (first
                                      | (refine at_storeV 28 (.tmp 2) (.tmp 150) (by rfl) ?_; refine wpList_store_mid (by rfl) 28 (.tmp 2) (.tmp 150) (by rfl) N 0 (itL ⟨#[]⟩ 0 0 (.slice none 0 0) false (.slice none 0 0)).toArray (by rfl) (by rfl) TH.out item_info (item_one _ _ _ _ _ _ _ _ _ _) ?_))
                                    refine bodyPost_ret (results_ctD rfl _ N (by rfl) _ (.bool false) (by rfl) (row_loadVar Tryz.underlying28 rfl (item_infoL _ _ _ _ _ _) HW.out 0 (fun j _ => by rw [Nat.zero_add]))) rfl ?_
                                    rw [HPF.out]
                                    exact ⟨.slice none 0 0, .slice none 0 0, rfl, itz_ok _, HKW.out⟩
                                  | true =>
                                    have TH := hid (item_there (ks := sk) (dn := n) (dd := f) (vp := .slice y3 n3 c3) (vv := .slice none 0 0) (g := false) BN9.out rfl)
                                    have HW := hid (row_set (vs := itL ⟨#[]⟩ 0 0 (.slice none 0 0) false (.slice none 0 0)) (cs := itL sk n f (.slice y3 n3 c3) false (.slice none 0 0)) BN9.out rfl)
                                    have HKW : Hid (Kp Nb w (w9.setCells N 0 (itL sk n f (.slice y3 n3 c3) false (.slice none 0 0)))) := hid (K9.out.trans (kp_setsN (Kp.refl _ w9)) (fun i hi h => by have h' : i = N := h; have := HNW.out; omega))
                                    have ITW := hid (IT9.out.besideI BN9.out (kp_setsN (vs := itL sk n f (.slice y3 n3 c3) false (.slice none 0 0)) (Kp.refl _ w9)))
                                    have HPF : Hid (PR = some ⟨key, n, f, past, false, []⟩) := hid HEND.out
                                    go_wp2_with (first
                                      | (refine wpList_val (by rfl) _ _ (exec_loadD (x := .tmp 14) rfl (by rfl) (load_item BX9.out)) ?_)
                                      | (refine at_storeV 28 (.tmp 2) (.tmp 151) (by rfl) ?_; refine wpList_store_mid (by rfl) 28 (.tmp 2) (.tmp 151) (by rfl) N 0 (itL sk n f (.slice y3 n3 c3) false (.slice none 0 0)).toArray (by rfl) (by rfl) TH.out item_info (item_one _ _ _ _ _ _ _ _ _ _) ?_))
                                    refine bodyPost_ret (results_ctD rfl _ N (by rfl) _ (.bool true) (by rfl) (row_loadVar Tryz.underlying28 rfl (item_infoL _ _ _ _ _ _) HW.out 0 (fun j _ => by rw [Nat.zero_add]))) rfl ?_
                                    rw [HPF.out]
                                    exact ⟨.slice y3 n3 c3, .slice none 0 0, by show Ending.returned _ = _; rw [← HSK.out]; rfl, ITW.out, HKW.out⟩
                                | false =>
                                  have q3 : (sv.toList != [46]) = true := by rw [bne, q2]; rfl
                                  have HEP2 : Hid (PR = match (match ru with | some (z :: zs) => some (false, z :: zs) | _ => none) with | some (g, val) => if rightI ⟨key, n, f, past, g, val⟩ then some ⟨key, n, f, past, g, val⟩ else none | none => none) := hid (by rw [HEP.out, HVP2.out]; rfl)
                                  clear HEP HVP2
                                  go_wp2_with fail
                                  refine (C4.out w6).mono ?_
                                  rintro e w7 ⟨rfl, k7⟩
                                  have BX7 := hid (BX6.out.kept k7 (fun h => h))
                                  have BN7 := hid (BN6.out.kept k7 (fun h => h))
                                  have IT7 := hid (IT6.out.kept k7)
                                  have K7 := hid (K6.out.trans k7 (fun _ _ h => h))
                                  clear k7 C4 BX6 BN6 IT6 K6 q1 q2 q3 xv hwr hlm hlc
                                  cases ru with
                                  | none =>
                                    have HPX : Hid (PR = none) := hid HEP2.out
                                    simp only [Option.isSome_none]
                                    have TH := hid (item_there (ks := ⟨#[]⟩) (dn := 0) (dd := 0) (vp := .slice none 0 0) (vv := .slice none 0 0) (g := false) BN7.out rfl)
                                    have HW := hid (row_set (vs := itL ⟨#[]⟩ 0 0 (.slice none 0 0) false (.slice none 0 0)) (cs := itL ⟨#[]⟩ 0 0 (.slice none 0 0) false (.slice none 0 0)) BN7.out rfl)
                                    have HKW : Hid (Kp Nb w (w7.setCells N 0 (itL ⟨#[]⟩ 0 0 (.slice none 0 0) false (.slice none 0 0)))) := hid (K7.out.trans (kp_setsN (Kp.refl _ w7)) (fun i hi h => by have h' : i = N := h; have := HNW.out; omega))
                                    have HPF : Hid (PR = none) := hid (HPX.out)
                                    go_wp2_with (first
                                      | (refine at_storeV 28 (.tmp 2) (.tmp 143) (by rfl) ?_; refine wpList_store_mid (by rfl) 28 (.tmp 2) (.tmp 143) (by rfl) N 0 (itL ⟨#[]⟩ 0 0 (.slice none 0 0) false (.slice none 0 0)).toArray (by rfl) (by rfl) TH.out item_info (item_one _ _ _ _ _ _ _ _ _ _) ?_))
                                    refine bodyPost_ret (results_ctD rfl _ N (by rfl) _ (.bool false) (by rfl) (row_loadVar Tryz.underlying28 rfl (item_infoL _ _ _ _ _ _) HW.out 0 (fun j _ => by rw [Nat.zero_add]))) rfl ?_
                                    rw [HPF.out]
                                    exact ⟨.slice none 0 0, .slice none 0 0, rfl, itz_ok _, HKW.out⟩
                                  | some val =>
                                    simp only [Option.isSome_some, Option.getD_some]
                                    by_cases hv0 : val = []
                                    · have HPX : Hid (PR = none) := hid (by rw [HEP2.out, hv0])
                                      have hse : ((st val).toList == []) = true := by rw [hv0, st_list]; rfl
                                      clear hv0
                                      have TH := hid (item_there (ks := ⟨#[]⟩) (dn := 0) (dd := 0) (vp := .slice none 0 0) (vv := .slice none 0 0) (g := false) BN7.out rfl)
                                      have HW := hid (row_set (vs := itL ⟨#[]⟩ 0 0 (.slice none 0 0) false (.slice none 0 0)) (cs := itL ⟨#[]⟩ 0 0 (.slice none 0 0) false (.slice none 0 0)) BN7.out rfl)
                                      have HKW : Hid (Kp Nb w (w7.setCells N 0 (itL ⟨#[]⟩ 0 0 (.slice none 0 0) false (.slice none 0 0)))) := hid (K7.out.trans (kp_setsN (Kp.refl _ w7)) (fun i hi h => by have h' : i = N := h; have := HNW.out; omega))
                                      have HPF : Hid (PR = none) := hid (HPX.out)
                                      go_wp2_with (first
                                        | (refine at_storeV 28 (.tmp 2) (.tmp 143) (by rfl) ?_; refine wpList_store_mid (by rfl) 28 (.tmp 2) (.tmp 143) (by rfl) N 0 (itL ⟨#[]⟩ 0 0 (.slice none 0 0) false (.slice none 0 0)).toArray (by rfl) (by rfl) TH.out item_info (item_one _ _ _ _ _ _ _ _ _ _) ?_))
                                      refine bodyPost_ret (results_ctD rfl _ N (by rfl) _ (.bool false) (by rfl) (row_loadVar Tryz.underlying28 rfl (item_infoL _ _ _ _ _ _) HW.out 0 (fun j _ => by rw [Nat.zero_add]))) rfl ?_
                                      rw [HPF.out]
                                      exact ⟨.slice none 0 0, .slice none 0 0, rfl, itz_ok _, HKW.out⟩
                                    · obtain ⟨z, zs, hvz⟩ : ∃ z zs, val = z :: zs := by
                                        cases val with
                                        | nil => exact absurd rfl hv0
                                        | cons z zs => exact ⟨z, zs, rfl⟩
                                      have HEND : Hid (PR = if rightI ⟨key, n, f, past, false, val⟩ then some ⟨key, n, f, past, false, val⟩ else none) := hid (by rw [HEP2.out, hvz])
                                      have hse : ((st val).toList == []) = false := by
                                        rw [st_list, hvz]
                                        rfl
                                      obtain ⟨y4, c4, w7b, hcv, hb4, k7b⟩ := conv_str val (HBV.out val rfl) (by have := HLV.out val rfl; omega) w7
                                      have HB4 : Hid (BySl Nb w7b (.slice y4 val.length c4) val) := hid (hb4.mono (fun _ h => h.elim))
                                      have BX7b := hid (BX7.out.kept k7b (fun h => h))
                                      have BN7b := hid (BN7.out.kept k7b (fun h => h))
                                      have IT7b := hid (IT7.out.kept k7b)
                                      have K7b := hid (K7.out.trans k7b (fun _ _ h => h))
                                      obtain ⟨n4, hn4⟩ : ∃ m, val.length = m := ⟨_, rfl⟩
                                      rw [hn4] at hcv HB4
                                      obtain ⟨su, hsu⟩ : ∃ t, st val = t := ⟨_, rfl⟩
                                      rw [hsu] at hcv hse ⊢
                                      have fz := BX7b.out.frozen 5
                                      have ck : w7b.cell? ⟨X, 5, none⟩ = some (.slice none 0 0) := BX7b.out.cell 5
                                      obtain ⟨w8, hw8⟩ : ∃ W, W = w7b.setCell ⟨X, 5, none⟩ (.slice y4 n4 c4) := ⟨_, rfl⟩
                                      have ks : Kp (Jb X) w7b w8 := by rw [hw8]; exact (Kp.refl (Jb X) w7b).set 5 _
                                      have BX8 : Hid (Blk w8 X 28 (itL sk n f (.slice y3 n3 c3) false (.slice y4 n4 c4))) := hid (by rw [hw8]; exact BX7b.out.set 5 _)
                                      have BN8 := hid (BN7b.out.kept ks (fun h => by have h' : N = X := h; have := HXN.out; omega))
                                      have K8 : Hid (Kp Nb w w8) := hid (K7b.out.trans ks (fun i hi h => by have h' : i = X := h; have := HNX.out; omega))
                                      have IT8 : Hid (ItOk w8 ⟨key, n, f, past, false, val⟩ (.slice y3 n3 c3) (.slice y4 n4 c4)) := hid (by have h := IT7b.out.besideI BX7b.out ks; exact ⟨h.key, h.dn, h.dd, h.past, by_besideI HB4.out BX7b.out ks⟩)
                                      clear ks hn4 hsu hv0 hvz hb4 k7b HEP2 BX7 BN7 IT7 K7
                                      go_upto_region 26 with fail
                                      rw [← hw8]
                                      clear hw8 fz ck hcv hse BX7b BN7b K7b IT7b
                                      have CR0 := iright_x _ _ _ w8 IT8.out
                                      unfold itVq itV at CR0
                                      dsimp only at CR0
                                      rw [HSK.out] at CR0
                                      have CR := hid CR0
                                      clear CR0
                                      obtain ⟨rx, hrx⟩ : ∃ b, rightI ⟨key, n, f, past, false, val⟩ = b := ⟨_, rfl⟩
                                      rw [hrx] at CR HEND
                                      clear hrx
                                      go_wp2_with (first
                                        | (refine wpList_val (by rfl) _ _ (exec_loadD (x := .tmp 14) rfl (by rfl) (load_item BX8.out)) ?_))
                                      refine CR.out.mono ?_
                                      rintro e w9 ⟨rfl, k9⟩
                                      have BX9 := hid (BX8.out.kept k9 (fun h => h))
                                      have BN9 := hid (BN8.out.kept k9 (fun h => h))
                                      have K9 := hid (K8.out.trans k9 (fun _ _ h => h))
                                      have IT9 := hid (IT8.out.kept k9)
                                      clear k9 CR BX8 BN8 K8 IT8
                                      cases rx with
                                      | false =>
                                        have TH := hid (item_there (ks := ⟨#[]⟩) (dn := 0) (dd := 0) (vp := .slice none 0 0) (vv := .slice none 0 0) (g := false) BN9.out rfl)
                                        have HW := hid (row_set (vs := itL ⟨#[]⟩ 0 0 (.slice none 0 0) false (.slice none 0 0)) (cs := itL ⟨#[]⟩ 0 0 (.slice none 0 0) false (.slice none 0 0)) BN9.out rfl)
                                        have HKW : Hid (Kp Nb w (w9.setCells N 0 (itL ⟨#[]⟩ 0 0 (.slice none 0 0) false (.slice none 0 0)))) := hid (K9.out.trans (kp_setsN (Kp.refl _ w9)) (fun i hi h => by have h' : i = N := h; have := HNW.out; omega))
                                        have HPF : Hid (PR = none) := hid (HEND.out)
                                        go_wp2_with (first
                                          | (refine at_storeV 28 (.tmp 2) (.tmp 150) (by rfl) ?_; refine wpList_store_mid (by rfl) 28 (.tmp 2) (.tmp 150) (by rfl) N 0 (itL ⟨#[]⟩ 0 0 (.slice none 0 0) false (.slice none 0 0)).toArray (by rfl) (by rfl) TH.out item_info (item_one _ _ _ _ _ _ _ _ _ _) ?_))
                                        refine bodyPost_ret (results_ctD rfl _ N (by rfl) _ (.bool false) (by rfl) (row_loadVar Tryz.underlying28 rfl (item_infoL _ _ _ _ _ _) HW.out 0 (fun j _ => by rw [Nat.zero_add]))) rfl ?_
                                        rw [HPF.out]
                                        exact ⟨.slice none 0 0, .slice none 0 0, rfl, itz_ok _, HKW.out⟩
                                      | true =>
                                        have TH := hid (item_there (ks := sk) (dn := n) (dd := f) (vp := .slice y3 n3 c3) (vv := .slice y4 n4 c4) (g := false) BN9.out rfl)
                                        have HW := hid (row_set (vs := itL ⟨#[]⟩ 0 0 (.slice none 0 0) false (.slice none 0 0)) (cs := itL sk n f (.slice y3 n3 c3) false (.slice y4 n4 c4)) BN9.out rfl)
                                        have HKW : Hid (Kp Nb w (w9.setCells N 0 (itL sk n f (.slice y3 n3 c3) false (.slice y4 n4 c4)))) := hid (K9.out.trans (kp_setsN (Kp.refl _ w9)) (fun i hi h => by have h' : i = N := h; have := HNW.out; omega))
                                        have ITW := hid (IT9.out.besideI BN9.out (kp_setsN (vs := itL sk n f (.slice y3 n3 c3) false (.slice y4 n4 c4)) (Kp.refl _ w9)))
                                        have HPF : Hid (PR = some ⟨key, n, f, past, false, val⟩) := hid HEND.out
                                        go_wp2_with (first
                                          | (refine wpList_val (by rfl) _ _ (exec_loadD (x := .tmp 14) rfl (by rfl) (load_item BX9.out)) ?_)
                                          | (refine at_storeV 28 (.tmp 2) (.tmp 151) (by rfl) ?_; refine wpList_store_mid (by rfl) 28 (.tmp 2) (.tmp 151) (by rfl) N 0 (itL sk n f (.slice y3 n3 c3) false (.slice y4 n4 c4)).toArray (by rfl) (by rfl) TH.out item_info (item_one _ _ _ _ _ _ _ _ _ _) ?_))
                                        refine bodyPost_ret (results_ctD rfl _ N (by rfl) _ (.bool true) (by rfl) (row_loadVar Tryz.underlying28 rfl (item_infoL _ _ _ _ _ _) HW.out 0 (fun j _ => by rw [Nat.zero_add]))) rfl ?_
                                        rw [HPF.out]
                                        exact ⟨.slice y3 n3 c3, .slice y4 n4 c4, by show Ending.returned _ = _; rw [← HSK.out]; rfl, ITW.out, HKW.out⟩
                        · have HG2 : Hid ((f != tt) = true) := hid (by rw [bne_iff_ne]; exact hft)
                          have HPX : Hid (PR = none) := hid (by rw [HRI2.out, if_neg hft])
                          clear hft HRI2
                          go_upto_region 15 with fail
                          refine V3.region_vals2 [none, none, none, none, none, none, none, none, none, none, none, none, none, none, none, none, none, none, none, none, none, none, none, none, none, none, none, none, none, none, none, none, none, none, none, none, none, none, none, none, none, none, none, none, none, none, none, none, none, none, none, none, none, none, none, none, none, none, none, none, none, none, none, none, none, none, none, none, none, none, none, none, none, none, none, none, none, none, none, none, none, none, some 0, some 1, some 2, some 3, some 4, some 5, some 6, some 7, some 8, some 9, some 10, some 11, some 12, some 13, some 14, some 15, some 16, some 17, some 18, some 19, some 20, some 21, some 22, some 23, some 24, some 25, none, none, none, none, none, none, none, none, none, none, none, none, none, none, none, none, none, none, none, none, none, none, none, none, none, none, none, none, none, none, none, none, none, none, none, none, none, none, none, none, none, none, none, none] [[(9, none)], [(82, some 0)], [(83, some 1)], [(11, none)], [(85, some 3)], [(84, some 2), (86, some 4)], [(87, some 5)], [(13, none)], [(89, some 7)], [(88, some 6), (90, some 8)], [(91, some 9)], [(10, none)], [(93, some 11)], [(94, some 12)], [(92, some 10), (95, some 13)], [(96, some 14)], [(10, none)], [(98, some 16)], [(99, some 17)], [(100, some 18)], [(10, none)], [(102, some 20)], [(103, some 21)], [(104, some 22)], [(101, some 19), (105, some 23)], [(97, some 15), (106, some 24)]] [some 82, some 83, some 84, some 85, some 86, some 87, some 88, some 89, some 90, some 91, some 92, some 93, some 94, some 95, some 96, some 97, some 98, some 99, some 100, some 101, some 102, some 103, some 104, some 105, some 106, some 107] [.bool true, .bool false, .bool false, .bool true, .bool false, .bool false, .bool false, .bool true, .bool false, .bool false, .bool false, .slice (some ⟨blk, off, none⟩) 1 c2, .int .i64 ((1 : Nat) : Int), .bool false, .bool false, .bool false, .slice (some ⟨blk, off, none⟩) 1 c2, .pointer (some ⟨blk, off, none⟩), .pointer (some ⟨blk, off + 1, none⟩), .int .i64 f, .slice (some ⟨blk, off, none⟩) 1 c2, .pointer (some ⟨blk, off, none⟩), .pointer (some ⟨blk, off + 2, none⟩), .int .i64 tt, .bool true, .bool true] (fun wq => Hid (Kp Nb w4 wq)) (by kernel_rfl) (by kernel_rfl) (by kernel_rfl) ?hS (V3.VFrom.all (n := 26) (by kernel_rfl) ?hstep) ?hend
                          case hstep =>
                            refine V3.VFrom.cons (V3.VStep.val _ rfl _ rfl (.bool true) rfl trivial (fun ev wq hS he hr => ?_)) ?_
                            · have r0 : ev (.tmp 9) = .bool true := hr (9, none) (by simp); have hk := he.1; clear hr he
                              go_simp
                            refine V3.VFrom.cons (V3.VStep.val _ rfl _ rfl (.bool false) rfl trivial (fun ev wq hS he hr => ?_)) ?_
                            · have r0 : ev (.tmp 82) = .bool true := hr (82, some 0) (by simp); have hk := he.1; clear hr he
                              go_simp
                            refine V3.VFrom.cons (V3.VStep.val _ rfl _ rfl (.bool false) rfl trivial (fun ev wq hS he hr => ?_)) ?_
                            · have r0 : ev (.tmp 83) = .bool false := hr (83, some 1) (by simp); have hk := he.1; clear hr he
                              go_simp
                            refine V3.VFrom.cons (V3.VStep.val _ rfl _ rfl (.bool true) rfl rfl (fun ev wq hS he hr => ?_)) ?_
                            · have r0 : ev (.tmp 11) = .bool true := hr (11, none) (by simp); have hk := he.1; clear hr he
                              go_simp
                            refine V3.VFrom.cons (V3.VStep.val _ rfl _ rfl (.bool false) rfl rfl (fun ev wq hS he hr => ?_)) ?_
                            · have r0 : ev (.tmp 85) = .bool true := hr (85, some 3) (by simp); have hk := he.1; clear hr he
                              go_simp
                            refine V3.VFrom.cons (V3.VStep.val _ rfl _ rfl (.bool false) rfl trivial (fun ev wq hS he hr => ?_)) ?_
                            · have r0 : ev (.tmp 84) = .bool false := hr (84, some 2) (by simp); have r1 : ev (.tmp 86) = .bool false := hr (86, some 4) (by simp); have hk := he.1; clear hr he
                              go_simp
                            refine V3.VFrom.cons (V3.VStep.val _ rfl _ rfl (.bool false) rfl trivial (fun ev wq hS he hr => ?_)) ?_
                            · have r0 : ev (.tmp 87) = .bool false := hr (87, some 5) (by simp); have hk := he.1; clear hr he
                              go_simp
                            refine V3.VFrom.cons (V3.VStep.val _ rfl _ rfl (.bool true) rfl rfl (fun ev wq hS he hr => ?_)) ?_
                            · have r0 : ev (.tmp 13) = .bool true := hr (13, none) (by simp); have hk := he.1; clear hr he
                              go_simp
                            refine V3.VFrom.cons (V3.VStep.val _ rfl _ rfl (.bool false) rfl rfl (fun ev wq hS he hr => ?_)) ?_
                            · have r0 : ev (.tmp 89) = .bool true := hr (89, some 7) (by simp); have hk := he.1; clear hr he
                              go_simp
                            refine V3.VFrom.cons (V3.VStep.val _ rfl _ rfl (.bool false) rfl trivial (fun ev wq hS he hr => ?_)) ?_
                            · have r0 : ev (.tmp 88) = .bool false := hr (88, some 6) (by simp); have r1 : ev (.tmp 90) = .bool false := hr (90, some 8) (by simp); have hk := he.1; clear hr he
                              go_simp
                            refine V3.VFrom.cons (V3.VStep.val _ rfl _ rfl (.bool false) rfl trivial (fun ev wq hS he hr => ?_)) ?_
                            · have r0 : ev (.tmp 91) = .bool false := hr (91, some 9) (by simp); have hk := he.1; clear hr he
                              go_simp
                            refine V3.VFrom.cons (V3.VStep.val _ rfl _ rfl (.slice (some ⟨blk, off, none⟩) 1 c2) rfl rfl (fun ev wq hS he hr => ?_)) ?_
                            · have r0 : ev (.tmp 10) = .slice (some ⟨blk, off, none⟩) 1 c2 := hr (10, none) (by simp); have hk := he.1; clear hr he
                              go_simp
                            refine V3.VFrom.cons (V3.VStep.val _ rfl _ rfl (.int .i64 ((1 : Nat) : Int)) rfl rfl (fun ev wq hS he hr => ?_)) ?_
                            · have r0 : ev (.tmp 93) = .slice (some ⟨blk, off, none⟩) 1 c2 := hr (93, some 11) (by simp); have hk := he.1; clear hr he
                              exact exec_lenK rfl r0
                            refine V3.VFrom.cons (V3.VStep.val _ rfl _ rfl (.bool false) rfl rfl (fun ev wq hS he hr => ?_)) ?_
                            · have r0 : ev (.tmp 94) = .int .i64 ((1 : Nat) : Int) := hr (94, some 12) (by simp); have hk := he.1; clear hr he
                              go_simp
                            refine V3.VFrom.cons (V3.VStep.val _ rfl _ rfl (.bool false) rfl trivial (fun ev wq hS he hr => ?_)) ?_
                            · have r0 : ev (.tmp 92) = .bool false := hr (92, some 10) (by simp); have r1 : ev (.tmp 95) = .bool false := hr (95, some 13) (by simp); have hk := he.1; clear hr he
                              go_simp
                            refine V3.VFrom.cons (V3.VStep.val _ rfl _ rfl (.bool false) rfl trivial (fun ev wq hS he hr => ?_)) ?_
                            · have r0 : ev (.tmp 96) = .bool false := hr (96, some 14) (by simp); have hk := he.1; clear hr he
                              go_simp
                            refine V3.VFrom.cons (V3.VStep.val _ rfl _ rfl (.slice (some ⟨blk, off, none⟩) 1 c2) rfl rfl (fun ev wq hS he hr => ?_)) ?_
                            · have r0 : ev (.tmp 10) = .slice (some ⟨blk, off, none⟩) 1 c2 := hr (10, none) (by simp); have hk := he.1; clear hr he
                              go_simp
                            refine V3.VFrom.cons (V3.VStep.val _ rfl _ rfl (.pointer (some ⟨blk, off, none⟩)) rfl rfl (fun ev wq hS he hr => ?_)) ?_
                            · have r0 : ev (.tmp 98) = .slice (some ⟨blk, off, none⟩) 1 c2 := hr (98, some 16) (by simp); have hk := he.1; clear hr he
                              go_simp
                            refine V3.VFrom.cons (V3.VStep.val _ rfl _ rfl (.pointer (some ⟨blk, off + 1, none⟩)) rfl rfl (fun ev wq hS he hr => ?_)) ?_
                            · have r0 : ev (.tmp 99) = .pointer (some ⟨blk, off, none⟩) := hr (99, some 17) (by simp); have hk := he.1; clear hr he
                              go_simp
                            refine V3.VFrom.cons (V3.VStep.val _ rfl _ rfl (.int .i64 f) rfl rfl (fun ev wq hS he hr => ?_)) ?_
                            · have r0 : ev (.tmp 100) = .pointer (some ⟨blk, off + 1, none⟩) := hr (100, some 18) (by simp); have hk := he.1; clear hr he
                              have c0 : wq.cell? ⟨blk, off + 1, none⟩ = some (.int .i64 f) := hS.out.cell (HC1.out) (fun h => h)
                              go_simp
                            refine V3.VFrom.cons (V3.VStep.val _ rfl _ rfl (.slice (some ⟨blk, off, none⟩) 1 c2) rfl rfl (fun ev wq hS he hr => ?_)) ?_
                            · have r0 : ev (.tmp 10) = .slice (some ⟨blk, off, none⟩) 1 c2 := hr (10, none) (by simp); have hk := he.1; clear hr he
                              go_simp
                            refine V3.VFrom.cons (V3.VStep.val _ rfl _ rfl (.pointer (some ⟨blk, off, none⟩)) rfl rfl (fun ev wq hS he hr => ?_)) ?_
                            · have r0 : ev (.tmp 102) = .slice (some ⟨blk, off, none⟩) 1 c2 := hr (102, some 20) (by simp); have hk := he.1; clear hr he
                              go_simp
                            refine V3.VFrom.cons (V3.VStep.val _ rfl _ rfl (.pointer (some ⟨blk, off + 2, none⟩)) rfl rfl (fun ev wq hS he hr => ?_)) ?_
                            · have r0 : ev (.tmp 103) = .pointer (some ⟨blk, off, none⟩) := hr (103, some 21) (by simp); have hk := he.1; clear hr he
                              go_simp
                            refine V3.VFrom.cons (V3.VStep.val _ rfl _ rfl (.int .i64 tt) rfl rfl (fun ev wq hS he hr => ?_)) ?_
                            · have r0 : ev (.tmp 104) = .pointer (some ⟨blk, off + 2, none⟩) := hr (104, some 22) (by simp); have hk := he.1; clear hr he
                              have c0 : wq.cell? ⟨blk, off + 2, none⟩ = some (.int .i64 tt) := hS.out.cell (HC2.out) (fun h => h)
                              go_simp
                            refine V3.VFrom.cons (V3.VStep.val _ rfl _ rfl (.bool true) rfl rfl (fun ev wq hS he hr => ?_)) ?_
                            · have r0 : ev (.tmp 101) = .int .i64 f := hr (101, some 19) (by simp); have r1 : ev (.tmp 105) = .int .i64 tt := hr (105, some 23) (by simp); have hk := he.1; clear hr he
                              have g1 := HG2.out
                              go_simp
                            refine V3.VFrom.cons (V3.VStep.val _ rfl _ rfl (.bool true) rfl trivial (fun ev wq hS he hr => ?_)) ?_
                            · have r0 : ev (.tmp 97) = .bool false := hr (97, some 15) (by simp); have r1 : ev (.tmp 106) = .bool true := hr (106, some 24) (by simp); have hk := he.1; clear hr he
                              go_simp
                            exact V3.VFrom.nil
                          case hS => exact hid (Kp.refl Nb w4).drew
                          case hend =>
                            intro w5 h5
                            have KW5 := hid h5.out
                            have BN5 := hid (BN4.out.kept h5.out (fun h => h))
                            have K5 := hid (K4.out.trans h5.out (fun _ _ h => h))
                            clear h5
                            simp only [V3.putAll, List.zip_cons_cons, List.zip_nil_right, List.foldl_cons, List.foldl_nil, Act.put, List.setIfInBounds_toArray, List.set_cons_zero, List.set_cons_succ]
                            have TH := hid (item_there (ks := ⟨#[]⟩) (dn := 0) (dd := 0) (vp := .slice none 0 0) (vv := .slice none 0 0) (g := false) BN5.out rfl)
                            have HW := hid (row_set (vs := itL ⟨#[]⟩ 0 0 (.slice none 0 0) false (.slice none 0 0)) (cs := itL ⟨#[]⟩ 0 0 (.slice none 0 0) false (.slice none 0 0)) BN5.out rfl)
                            have HKW : Hid (Kp Nb w (w5.setCells N 0 (itL ⟨#[]⟩ 0 0 (.slice none 0 0) false (.slice none 0 0)))) := hid (K5.out.trans (kp_setsN (Kp.refl _ w5)) (fun i hi h => by have h' : i = N := h; have := HNW.out; omega))
                            have HPF : Hid (PR = none) := hid (HPX.out)
                            go_wp2_with (first
                              | (refine at_storeV 28 (.tmp 2) (.tmp 108) (by rfl) ?_; refine wpList_store_mid (by rfl) 28 (.tmp 2) (.tmp 108) (by rfl) N 0 (itL ⟨#[]⟩ 0 0 (.slice none 0 0) false (.slice none 0 0)).toArray (by rfl) (by rfl) TH.out item_info (item_one _ _ _ _ _ _ _ _ _ _) ?_))
                            refine bodyPost_ret (results_ctD rfl _ N (by rfl) _ (.bool false) (by rfl) (row_loadVar Tryz.underlying28 rfl (item_infoL _ _ _ _ _ _) HW.out 0 (fun j _ => by rw [Nat.zero_add]))) rfl ?_
                            rw [HPF.out]
                            exact ⟨.slice none 0 0, .slice none 0 0, rfl, itz_ok _, HKW.out⟩
                    · have HG1 : Hid (((dc.length : Int) != 1) = true) := hid (by rw [bne_iff_ne]; omega)
                      have HPX : Hid (PR = none) := hid (by
                        rw [HRI.out]
                        match dc, hone with
                        | [], _ => rfl
                        | [r], h => exact absurd rfl h
                        | _ :: _ :: _, _ => rfl)
                      obtain ⟨nd, hnd⟩ : ∃ m, dc.length = m := ⟨_, rfl⟩
                      rw [hnd] at HG1
                      simp only [hnd]
                      clear hnd hone
                      go_upto_region 15 with fail
                      refine V3.region_vals2 [none, none, none, none, none, none, none, none, none, none, none, none, none, none, none, none, none, none, none, none, none, none, none, none, none, none, none, none, none, none, none, none, none, none, none, none, none, none, none, none, none, none, none, none, none, none, none, none, none, none, none, none, none, none, none, none, none, none, none, none, none, none, none, none, none, none, none, none, none, none, none, none, none, none, none, none, none, none, none, none, none, none, some 0, some 1, some 2, some 3, some 4, some 5, some 6, some 7, some 8, some 9, some 10, some 11, some 12, some 13, some 14, some 15, some 16, some 17, some 18, some 19, some 20, some 21, some 22, some 23, some 24, some 25, none, none, none, none, none, none, none, none, none, none, none, none, none, none, none, none, none, none, none, none, none, none, none, none, none, none, none, none, none, none, none, none, none, none, none, none, none, none, none, none, none, none, none, none] [[(9, none)], [(82, some 0)], [(83, some 1)], [(11, none)], [(85, some 3)], [(84, some 2), (86, some 4)], [(87, some 5)], [(13, none)], [(89, some 7)], [(88, some 6), (90, some 8)], [(91, some 9)], [(10, none)], [(93, some 11)], [(94, some 12)], [(92, some 10), (95, some 13)], [(96, some 14)], [(10, none)], [(98, some 16)], [(99, some 17)], [(100, some 18)], [(10, none)], [(102, some 20)], [(103, some 21)], [(104, some 22)], [(101, some 19), (105, some 23)], [(97, some 15), (106, some 24)]] [some 82, some 83, some 84, some 85, some 86, some 87, some 88, some 89, some 90, some 91, some 92, some 93, some 94, some 95, some 96, some 97, some 98, some 99, some 100, some 101, some 102, some 103, some 104, some 105, some 106, some 107] [.bool true, .bool false, .bool false, .bool true, .bool false, .bool false, .bool false, .bool true, .bool false, .bool false, .bool false, .slice y2 nd c2, .int .i64 (nd : Int), .bool true, .bool true, .bool true, undef, undef, undef, undef, undef, undef, undef, undef, undef, .bool true] (fun wq => Hid (Kp Nb w4 wq)) (by kernel_rfl) (by kernel_rfl) (by kernel_rfl) ?hS (V3.VFrom.all (n := 26) (by kernel_rfl) ?hstep) ?hend
                      case hstep =>
                        refine V3.VFrom.cons (V3.VStep.val _ rfl _ rfl (.bool true) rfl trivial (fun ev wq hS he hr => ?_)) ?_
                        · have r0 : ev (.tmp 9) = .bool true := hr (9, none) (by simp); have hk := he.1; clear hr he
                          go_simp
                        refine V3.VFrom.cons (V3.VStep.val _ rfl _ rfl (.bool false) rfl trivial (fun ev wq hS he hr => ?_)) ?_
                        · have r0 : ev (.tmp 82) = .bool true := hr (82, some 0) (by simp); have hk := he.1; clear hr he
                          go_simp
                        refine V3.VFrom.cons (V3.VStep.val _ rfl _ rfl (.bool false) rfl trivial (fun ev wq hS he hr => ?_)) ?_
                        · have r0 : ev (.tmp 83) = .bool false := hr (83, some 1) (by simp); have hk := he.1; clear hr he
                          go_simp
                        refine V3.VFrom.cons (V3.VStep.val _ rfl _ rfl (.bool true) rfl rfl (fun ev wq hS he hr => ?_)) ?_
                        · have r0 : ev (.tmp 11) = .bool true := hr (11, none) (by simp); have hk := he.1; clear hr he
                          go_simp
                        refine V3.VFrom.cons (V3.VStep.val _ rfl _ rfl (.bool false) rfl rfl (fun ev wq hS he hr => ?_)) ?_
                        · have r0 : ev (.tmp 85) = .bool true := hr (85, some 3) (by simp); have hk := he.1; clear hr he
                          go_simp
                        refine V3.VFrom.cons (V3.VStep.val _ rfl _ rfl (.bool false) rfl trivial (fun ev wq hS he hr => ?_)) ?_
                        · have r0 : ev (.tmp 84) = .bool false := hr (84, some 2) (by simp); have r1 : ev (.tmp 86) = .bool false := hr (86, some 4) (by simp); have hk := he.1; clear hr he
                          go_simp
                        refine V3.VFrom.cons (V3.VStep.val _ rfl _ rfl (.bool false) rfl trivial (fun ev wq hS he hr => ?_)) ?_
                        · have r0 : ev (.tmp 87) = .bool false := hr (87, some 5) (by simp); have hk := he.1; clear hr he
                          go_simp
                        refine V3.VFrom.cons (V3.VStep.val _ rfl _ rfl (.bool true) rfl rfl (fun ev wq hS he hr => ?_)) ?_
                        · have r0 : ev (.tmp 13) = .bool true := hr (13, none) (by simp); have hk := he.1; clear hr he
                          go_simp
                        refine V3.VFrom.cons (V3.VStep.val _ rfl _ rfl (.bool false) rfl rfl (fun ev wq hS he hr => ?_)) ?_
                        · have r0 : ev (.tmp 89) = .bool true := hr (89, some 7) (by simp); have hk := he.1; clear hr he
                          go_simp
                        refine V3.VFrom.cons (V3.VStep.val _ rfl _ rfl (.bool false) rfl trivial (fun ev wq hS he hr => ?_)) ?_
                        · have r0 : ev (.tmp 88) = .bool false := hr (88, some 6) (by simp); have r1 : ev (.tmp 90) = .bool false := hr (90, some 8) (by simp); have hk := he.1; clear hr he
                          go_simp
                        refine V3.VFrom.cons (V3.VStep.val _ rfl _ rfl (.bool false) rfl trivial (fun ev wq hS he hr => ?_)) ?_
                        · have r0 : ev (.tmp 91) = .bool false := hr (91, some 9) (by simp); have hk := he.1; clear hr he
                          go_simp
                        refine V3.VFrom.cons (V3.VStep.val _ rfl _ rfl (.slice y2 nd c2) rfl rfl (fun ev wq hS he hr => ?_)) ?_
                        · have r0 : ev (.tmp 10) = .slice y2 nd c2 := hr (10, none) (by simp); have hk := he.1; clear hr he
                          go_simp
                        refine V3.VFrom.cons (V3.VStep.val _ rfl _ rfl (.int .i64 (nd : Int)) rfl rfl (fun ev wq hS he hr => ?_)) ?_
                        · have r0 : ev (.tmp 93) = .slice y2 nd c2 := hr (93, some 11) (by simp); have hk := he.1; clear hr he
                          exact exec_lenK rfl r0
                        refine V3.VFrom.cons (V3.VStep.val _ rfl _ rfl (.bool true) rfl rfl (fun ev wq hS he hr => ?_)) ?_
                        · have r0 : ev (.tmp 94) = .int .i64 (nd : Int) := hr (94, some 12) (by simp); have hk := he.1; clear hr he
                          have g1 := HG1.out
                          go_simp
                        refine V3.VFrom.cons (V3.VStep.val _ rfl _ rfl (.bool true) rfl trivial (fun ev wq hS he hr => ?_)) ?_
                        · have r0 : ev (.tmp 92) = .bool false := hr (92, some 10) (by simp); have r1 : ev (.tmp 95) = .bool true := hr (95, some 13) (by simp); have hk := he.1; clear hr he
                          go_simp
                        refine V3.VFrom.cons (V3.VStep.val _ rfl _ rfl (.bool true) rfl trivial (fun ev wq hS he hr => ?_)) ?_
                        · have r0 : ev (.tmp 96) = .bool true := hr (96, some 14) (by simp); have hk := he.1; clear hr he
                          go_simp
                        refine V3.VFrom.cons (V3.VStep.skip _ rfl rfl rfl) ?_
                        refine V3.VFrom.cons (V3.VStep.skip _ rfl rfl rfl) ?_
                        refine V3.VFrom.cons (V3.VStep.skip _ rfl rfl rfl) ?_
                        refine V3.VFrom.cons (V3.VStep.skip _ rfl rfl rfl) ?_
                        refine V3.VFrom.cons (V3.VStep.skip _ rfl rfl rfl) ?_
                        refine V3.VFrom.cons (V3.VStep.skip _ rfl rfl rfl) ?_
                        refine V3.VFrom.cons (V3.VStep.skip _ rfl rfl rfl) ?_
                        refine V3.VFrom.cons (V3.VStep.skip _ rfl rfl rfl) ?_
                        refine V3.VFrom.cons (V3.VStep.skip _ rfl rfl rfl) ?_
                        refine V3.VFrom.cons (V3.VStep.val _ rfl _ rfl (.bool true) rfl trivial (fun ev wq hS he hr => ?_)) ?_
                        · have r0 : ev (.tmp 97) = .bool true := hr (97, some 15) (by simp); have r1 : ev (.tmp 106) = undef := hr (106, some 24) (by simp); have hk := he.1; clear hr he
                          go_simp
                        exact V3.VFrom.nil
                      case hS => exact hid (Kp.refl Nb w4).drew
                      case hend =>
                        intro w5 h5
                        have KW5 := hid h5.out
                        have BN5 := hid (BN4.out.kept h5.out (fun h => h))
                        have K5 := hid (K4.out.trans h5.out (fun _ _ h => h))
                        clear h5
                        simp only [V3.putAll, List.zip_cons_cons, List.zip_nil_right, List.foldl_cons, List.foldl_nil, Act.put, List.setIfInBounds_toArray, List.set_cons_zero, List.set_cons_succ]
                        have TH := hid (item_there (ks := ⟨#[]⟩) (dn := 0) (dd := 0) (vp := .slice none 0 0) (vv := .slice none 0 0) (g := false) BN5.out rfl)
                        have HW := hid (row_set (vs := itL ⟨#[]⟩ 0 0 (.slice none 0 0) false (.slice none 0 0)) (cs := itL ⟨#[]⟩ 0 0 (.slice none 0 0) false (.slice none 0 0)) BN5.out rfl)
                        have HKW : Hid (Kp Nb w (w5.setCells N 0 (itL ⟨#[]⟩ 0 0 (.slice none 0 0) false (.slice none 0 0)))) := hid (K5.out.trans (kp_setsN (Kp.refl _ w5)) (fun i hi h => by have h' : i = N := h; have := HNW.out; omega))
                        have HPF : Hid (PR = none) := hid (HPX.out)
                        go_wp2_with (first
                          | (refine at_storeV 28 (.tmp 2) (.tmp 108) (by rfl) ?_; refine wpList_store_mid (by rfl) 28 (.tmp 2) (.tmp 108) (by rfl) N 0 (itL ⟨#[]⟩ 0 0 (.slice none 0 0) false (.slice none 0 0)).toArray (by rfl) (by rfl) TH.out item_info (item_one _ _ _ _ _ _ _ _ _ _) ?_))
                        refine bodyPost_ret (results_ctD rfl _ N (by rfl) _ (.bool false) (by rfl) (row_loadVar Tryz.underlying28 rfl (item_infoL _ _ _ _ _ _) HW.out 0 (fun j _ => by rw [Nat.zero_add]))) rfl ?_
                        rw [HPF.out]
                        exact ⟨.slice none 0 0, .slice none 0 0, rfl, itz_ok _, HKW.out⟩
end

end Go.Proofs.YtogoophofgkboaaGreatDoor
