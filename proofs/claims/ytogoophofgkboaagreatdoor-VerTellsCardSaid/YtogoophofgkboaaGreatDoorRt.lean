/-
  Of the texts VeX what is used. No condition but what each says.
-/
import Derived.Test.YtogoophofgkboaaGreatDoorRs
namespace Go.Proofs.YtogoophofgkboaaGreatDoor
section
open Go.RowKit
/-- For an arm: the operation is this store (and no other rule is tried at another one). -/
theorem at_storeV {P : Program} {ops : Array Oper} {rest : List Oper} {o : Oper} {a : Act} {w : World} {Q : Exit → Act → World → Prop} (T : TypeId) (x y : Operand) (_ : o.op = .store T x y) (h : wpList P ops Q (o :: rest) a w) : wpList P ops Q (o :: rest) a w := h
theorem cut_len4 {s sep a b : List UInt8} {t : Bool} (h : Lib.cut s sep = (a, b, t)) : a.length ≤ s.length ∧ b.length ≤ s.length := by
  unfold Lib.cut at h
  split at h
  · simp only [Prod.mk.injEq] at h
    rw [← h.1, ← h.2.1, List.length_take, List.length_drop]
    omega
  · simp only [Prod.mk.injEq] at h
    rw [← h.1, ← h.2.1]
    simp
theorem parsedI_bytes (k d p v : List UInt8) (h : (parsedI k d p v).2 = true) : IsBytes (parsedI k d p v).1.key ∧ IsBytes (parsedI k d p v).1.val := by
  unfold parsedI at h ⊢
  cases hk : readB k 24 with
  | none => rw [hk] at h; exact Bool.noConfusion h
  | some key =>
    cases hd : parT d with
    | none => rw [hk, hd] at h; exact Bool.noConfusion h
    | some dc =>
      cases hp : parT p with
      | none =>
        rw [hk, hd, hp] at h
        match dc, h with
        | [], h => exact Bool.noConfusion h
        | [_], h => exact Bool.noConfusion h
        | _ :: _ :: _, h => exact Bool.noConfusion h
      | some past =>
        rw [hk, hd, hp] at h
        match dc, h with
        | [], h => exact Bool.noConfusion h
        | _ :: _ :: _, h => exact Bool.noConfusion h
        | [r], h =>
          dsimp only at h ⊢
          split
          · exact ⟨readB_bytes hk, isb_nil⟩
          · rename_i hv
            rw [if_neg hv] at h
            refine ⟨readB_bytes hk, ?_⟩
            cases hr : readB v 64 with
            | none => exact isb_nil
            | some zs => exact readB_bytes hr
theorem readB_hex {zs : List Int} (h : IsBytes zs) (h0 : zs.length ≠ 0) (most : Nat) (hm : zs.length ≤ most) : readB (hexL zs) most = some zs := by
  have hl := hexL_len zs
  unfold readB
  rw [if_neg, if_neg, unh_hex zs h]
  · rintro (h | h | h) <;> omega
  · intro e
    rw [e] at hl
    simp at hl
    omega
theorem readB_hexW {zs : List Int} (h : IsBytes zs) (most : Nat) (hm : zs.length ≤ most) : readB (hexW zs) most = some zs := by
  unfold hexW
  split
  · rename_i h0
    rw [List.length_eq_zero_iff.1 h0]
    rfl
  · rename_i h0
    exact readB_hex h h0 most hm
/-- A right item's text: its four words are that item. -/
theorem parsed_of {s : List UInt8} {x : ItQ} (h : IsTx s x) : parsedI (hexL x.key) (textR (x.dn, x.dd, x.dd)) (textC x.past) (valT x) = (x, true) := by
  obtain ⟨h1, h2, h3, h4, h5, h6, h7⟩ := rightI_facts h.right
  have e1 := readB_hex h.key (by omega) 24 h1
  have e2 := (parT_iff _ _).2 ⟨(textC_one (dot_good h.right)).1, rfl⟩
  rw [(textC_one (dot_good h.right)).2] at e2
  have e3 := (parT_iff _ _).2 ⟨h4, rfl⟩
  unfold parsedI
  rw [e1, e2, e3]
  dsimp only
  cases hg : x.gone with
  | true =>
    have ev : valT x = [103, 111, 110, 101] := by unfold valT; rw [hg]; rfl
    rw [if_pos ev]
    obtain ⟨a, b, c, d, f, i⟩ := x
    dsimp only at hg h7 ⊢
    rw [hg, h7 hg]
  | false =>
    have ev : valT x = hexW x.val := by unfold valT; rw [hg]; rfl
    have hne : valT x ≠ [103, 111, 110, 101] := by
      rw [ev]
      intro e
      unfold hexW at e
      split at e
      · exact absurd e (by decide)
      · exact (hexL_mem h.val (c := 103) (by rw [e]; simp)).2.2 rfl
    rw [if_neg hne, ev, readB_hexW h.val 64 h5]
    obtain ⟨a, b, c, d, f, i⟩ := x
    dsimp only at hg ⊢
    rw [hg]
    rfl
/-- Which item a text is, as the program finds it. -/
theorem parI_cuts {s k r1 d r2 p v : List UInt8} {b1 b2 b3 : Bool} (h1 : Lib.cut s [32] = (k, r1, b1)) (h2 : Lib.cut r1 [32, 91] = (d, r2, b2)) (h3 : Lib.cut r2 [93, 32] = (p, v, b3)) :
    parI s = if (parsedI k d p v).2 = true ∧ textI (parsedI k d p v).1 = s ∧ rightI (parsedI k d p v).1 = true then some (parsedI k d p v).1 else none := by
  split
  · rename_i h
    obtain ⟨a, b, c⟩ := h
    refine (parI_iff s _).2 ⟨c, (parsedI_bytes k d p v a).1, (parsedI_bytes k d p v a).2, ?_⟩
    unfold textI at b
    rwa [if_pos c] at b
  · rename_i h
    refine parI_none s (fun x hx => h ?_)
    obtain ⟨c1, c2, c3⟩ := tx_cuts hx
    rw [c1] at h1
    simp only [Prod.mk.injEq] at h1
    obtain ⟨rfl, rfl, -⟩ := h1
    rw [c2] at h2
    simp only [Prod.mk.injEq] at h2
    obtain ⟨rfl, rfl, -⟩ := h2
    rw [c3] at h3
    simp only [Prod.mk.injEq] at h3
    obtain ⟨rfl, rfl, -⟩ := h3
    rw [parsed_of hx]
    refine ⟨rfl, ?_, hx.right⟩
    unfold textI
    rw [if_pos hx.right]
    exact hx.text
set_option maxRecDepth 100000 in
set_option maxHeartbeats 8000000 in
theorem iparse_gen (s k r1 d r2 p v : List UInt8) (b1 b2 b3 : Bool) (hc1 : Lib.cut s [32] = (k, r1, b1)) (hc2 : Lib.cut r1 [32, 91] = (d, r2, b2)) (hc3 : Lib.cut r2 [93, 32] = (p, v, b3)) (w : World) (hl : s.length ≤ 100000) (lk : k.length ≤ 1000) (ld : d.length ≤ 1000) (lp : p.length ≤ 1000) (lv : v.length ≤ 1000) (hm : Mx w) (he : Ev w) (ht : Tab w) :
    Calls Tryz.prog 33 #[.string (bs s)] w fun e w' => ∃ vp vv, e = .returned (.tuple #[itVq ((parI s).getD itZ) vp vv, .bool (parI s).isSome]) ∧ ItOk w' ((parI s).getD itZ) vp vv ∧ Kp Nb w w' := by
  have l1 := cut_len4 hc1
  have l2 := cut_len4 hc2
  have HPR := hid (parI_cuts hc1 hc2 hc3)
  obtain ⟨PR, hPR⟩ : ∃ x, parI s = x := ⟨_, rfl⟩
  rw [hPR] at HPR ⊢
  obtain ⟨N, hN⟩ : ∃ N, w.heap.size = N := ⟨_, rfl⟩
  obtain ⟨W, hW⟩ : ∃ W, W = w.alloc (.cells #[.string ⟨#[]⟩, .int .i64 0, .int .i64 0, .slice none 0 0, .bool false, .slice none 0 0] 28) := ⟨_, rfl⟩
  have BN0 : Hid (Blk W N 28 (itL ⟨#[]⟩ 0 0 (.slice none 0 0) false (.slice none 0 0))) := hid (by rw [hW, ← hN]; exact Blk.new w _ (itL ⟨#[]⟩ 0 0 (.slice none 0 0) false (.slice none 0 0)))
  have K0 : Hid (Kp Nb w W) := hid (by rw [hW]; exact (Kp.refl Nb w).alloc _)
  have HNW := hid hN
  have HM := hid (show Mx W ∧ Ev W ∧ Tab W from ⟨hm.kept K0.out, he.kept K0.out, ht.kept K0.out⟩)
  have C1 := hid (cut_any s [32] k r1 b1 W HM.out.1 (by omega) hc1)
  have C2 := hid (fun wx (q : Kp Nb W wx) => cut_any r1 [32, 91] d r2 b2 wx (HM.out.1.kept q) (by omega) hc2)
  have C3 := hid (fun wx (q : Kp Nb W wx) => cut_any r2 [93, 32] p v b3 wx (HM.out.1.kept q) (by omega) hc3)
  have C4 := hid (fun wx (q : Kp Nb W wx) => iparsed_any k d p v wx (by omega) (by omega) (by omega) (by omega) (HM.out.1.kept q) (HM.out.2.1.kept q) (HM.out.2.2.kept q))
  obtain ⟨⟨x, b⟩, hxb⟩ : ∃ x, parsedI k d p v = x := ⟨_, rfl⟩
  rw [hxb] at HPR C4
  dsimp only at HPR C4
  have HE : Hid (((bs (textI x)).toList == (bs s).toList) = decide (textI x = s)) := hid (by
    have e : ∀ l : List UInt8, (bs l).toList = l := fun l => ByteArray.toList_mk _
    rw [e, e, Bool.eq_iff_iff, beq_iff_eq, decide_eq_true_eq])
  have CT0 := hid (fun vp vv wx (h : ItOk wx x vp vv) (q : Kp Nb W wx) => itext_any x vp vv wx h (HM.out.2.2.kept q))
  have CR0 := hid (fun vp vv wx (h : ItOk wx x vp vv) => iright_any x vp vv wx h)
  obtain ⟨eq, heq⟩ : ∃ e, decide (textI x = s) = e := ⟨_, rfl⟩
  obtain ⟨rx, hrx⟩ : ∃ e, rightI x = e := ⟨_, rfl⟩
  have HPR2 : Hid (PR = if b = true ∧ eq = true ∧ rx = true then some x else none) := hid (by rw [HPR.out, ← heq, ← hrx]; simp only [decide_eq_true_eq])
  rw [heq] at HE
  rw [hrx] at CR0
  obtain ⟨ss, hss⟩ : ∃ t, bs s = t := ⟨_, rfl⟩
  obtain ⟨tx, htx⟩ : ∃ t, bs (textI x) = t := ⟨_, rfl⟩
  obtain ⟨kk, hkk⟩ : ∃ t, bs k = t := ⟨_, rfl⟩
  obtain ⟨q1, hq1⟩ : ∃ t, bs r1 = t := ⟨_, rfl⟩
  obtain ⟨kd, hkd⟩ : ∃ t, bs d = t := ⟨_, rfl⟩
  obtain ⟨q2, hq2⟩ : ∃ t, bs r2 = t := ⟨_, rfl⟩
  obtain ⟨kp, hkp⟩ : ∃ t, bs p = t := ⟨_, rfl⟩
  obtain ⟨kv, hkv⟩ : ∃ t, bs v = t := ⟨_, rfl⟩
  rw [htx, hss] at HE
  rw [htx] at CT0
  rw [hss, hkk, hq1] at C1
  rw [hq1, hkd, hq2] at C2
  rw [hq2, hkp, hkv] at C3
  rw [hkk, hkd, hkp, hkv] at C4
  rw [hss]
  clear hPR HPR l1 l2 lk ld lp lv hc1 hc2 hc3 hm he ht hl hxb heq hrx hss htx hkk hq1 hkd hq2 hkp hkv
  go_enter Tryz.func33, Tryz.ntmps33
  go_upto_region 1 with fail
  try rw [hN]
  rw [← hW]
  clear hW hN
  go_wp2_with fail
  refine C1.out.mono ?_
  rintro e w1 ⟨rfl, k1⟩
  have KW1 := hid k1
  clear k1 C1
  go_wp2_with fail
  refine (C2.out w1 KW1.out).mono ?_
  rintro e w2 ⟨rfl, k2⟩
  have KW2 := hid (KW1.out.trans k2 (fun _ _ h => h))
  clear k2 C2 KW1
  go_wp2_with fail
  refine (C3.out w2 KW2.out).mono ?_
  rintro e w3 ⟨rfl, k3⟩
  have KW3 := hid (KW2.out.trans k3 (fun _ _ h => h))
  clear k3 C3 KW2
  go_wp2_with fail
  refine (C4.out w3 KW3.out).mono ?_
  rintro e w4 ⟨vp, vv, rfl, hit, k4⟩
  have KW4 := hid (KW3.out.trans k4 (fun _ _ h => h))
  have IT4 := hid hit
  obtain ⟨yp, dp, e1⟩ := hit.past.shape
  obtain ⟨yv, dv, e2⟩ := by_shape hit.val
  subst e1 e2
  have K4 := hid (K0.out.trans KW4.out (fun _ _ h => h))
  have BN4 := hid (BN0.out.kept KW4.out (fun h => h))
  clear hit k4 C4 KW3 K0 BN0
  obtain ⟨X, hX⟩ : ∃ X, w4.heap.size = X := ⟨_, rfl⟩
  obtain ⟨V, hV⟩ : ∃ V, V = (w4.alloc (.cells #[.string ⟨#[]⟩, .int .i64 0, .int .i64 0, .slice none 0 0, .bool false, .slice none 0 0] 28)).setCells X 0 (itL (st x.key) x.dn x.dd (.slice yp x.past.length dp) x.gone (.slice yv x.val.length dv)) := ⟨_, rfl⟩
  have hz : Blk (w4.alloc (.cells #[.string ⟨#[]⟩, .int .i64 0, .int .i64 0, .slice none 0 0, .bool false, .slice none 0 0] 28)) X 28 (itL ⟨#[]⟩ 0 0 (.slice none 0 0) false (.slice none 0 0)) := by rw [← hX]; exact Blk.new w4 _ (itL ⟨#[]⟩ 0 0 (.slice none 0 0) false (.slice none 0 0))
  have ks : Kp Nb w4 V := by rw [hV]; exact Kp.setCells (fun h => absurd h (by omega)) _ 0 _ ((Kp.refl Nb w4).alloc _)
  have BX := hid (show Blk V X 28 (itL (st x.key) x.dn x.dd (.slice yp x.past.length dp) x.gone (.slice yv x.val.length dv)) by rw [hV]; exact row_set hz rfl)
  have BNV := hid (BN4.out.kept ks (fun h => h))
  have KV := hid (K4.out.trans ks (fun _ _ h => h))
  have KWV := hid (KW4.out.trans ks (fun _ _ h => h))
  have ITV := hid (IT4.out.kept ks)
  have TH := hid (item_there (ks := st x.key) (dn := x.dn) (dd := x.dd) (vp := .slice yp x.past.length dp) (vv := .slice yv x.val.length dv) (g := x.gone) hz rfl)
  have CT := hid (fun wx (q : Kp Nb V wx) => CT0.out _ _ wx (ITV.out.kept q) (KWV.out.trans q (fun _ _ h => h)))
  have CR := hid (fun wx (q : Kp Nb V wx) => CR0.out _ _ wx (ITV.out.kept q))
  clear ks hz IT4 BN4 K4 KW4 CT0 CR0
  obtain ⟨key, dn, dd, past, gn, val⟩ := x
  unfold itVq itV at *
  dsimp only at *
  obtain ⟨nP, hnP⟩ : ∃ n, past.length = n := ⟨_, rfl⟩
  obtain ⟨nV, hnV⟩ : ∃ n, val.length = n := ⟨_, rfl⟩
  obtain ⟨sk, hsk⟩ : ∃ s, st key = s := ⟨_, rfl⟩
  have HSK := hid hsk
  have HNN := hid (And.intro hnP hnV)
  simp only [hnP, hnV, hsk] at hV BX ITV TH CT CR ⊢
  clear hnP hnV hsk
  go_upto_region 5 with (first
    | (refine at_storeV 28 (.tmp 12) (.tmp 38) (by rfl) ?_; refine wpList_store_mid (by rfl) 28 (.tmp 12) (.tmp 38) (by rfl) X 0 (itL sk dn dd (.slice yp nP dp) gn (.slice yv nV dv)).toArray (by rfl) (by rfl) TH.out item_info (item_one _ _ _ _ _ _ _ _ _ _) ?_))
  try rw [hX]
  rw [show (w4.alloc (.cells #[.string ⟨#[]⟩, .int .i64 0, .int .i64 0, .slice none 0 0, .bool false, .slice none 0 0] 28)).setCells X 0 (itL sk dn dd (.slice yp nP dp) gn (.slice yv nV dv)) = V from hV.symm]
  clear hV TH hX
  cases b with
  | false =>
    have TH := hid (item_there (ks := ⟨#[]⟩) (dn := 0) (dd := 0) (vp := .slice none 0 0) (vv := .slice none 0 0) (g := false) BNV.out rfl)
    have HW := hid (row_set (vs := itL ⟨#[]⟩ 0 0 (.slice none 0 0) false (.slice none 0 0)) (cs := itL ⟨#[]⟩ 0 0 (.slice none 0 0) false (.slice none 0 0)) BNV.out rfl)
    have HKW : Hid (Kp Nb w (V.setCells N 0 (itL ⟨#[]⟩ 0 0 (.slice none 0 0) false (.slice none 0 0)))) := hid (KV.out.trans (kp_setsN (Kp.refl _ V)) (fun i hi h => by have h' : i = N := h; have := HNW.out; omega))
    have HPF : Hid (PR = none) := hid (HPR2.out)
    go_wp2_with (first
      | (refine at_storeV 28 (.tmp 2) (.tmp 53) (by rfl) ?_; refine wpList_store_mid (by rfl) 28 (.tmp 2) (.tmp 53) (by rfl) N 0 (itL ⟨#[]⟩ 0 0 (.slice none 0 0) false (.slice none 0 0)).toArray (by rfl) (by rfl) TH.out item_info (item_one _ _ _ _ _ _ _ _ _ _) ?_))
    refine bodyPost_ret (results_ctD rfl _ N (by rfl) _ (.bool false) (by rfl) (row_loadVar Tryz.underlying28 rfl (item_infoL _ _ _ _ _ _) HW.out 0 (fun j _ => by rw [Nat.zero_add]))) rfl ?_
    rw [HPF.out]
    exact ⟨.slice none 0 0, .slice none 0 0, rfl, itz_ok _, HKW.out⟩
  | true =>
    go_wp2_with (first
      | (refine wpList_valI (by rfl) _ _ (exec_loadD (x := .tmp 12) rfl (by rfl) (load_item BX.out)) ?_))
    refine (CT.out V (Kp.refl _ _)).mono ?_
    rintro e w5 ⟨rfl, k5⟩
    have KV5 := hid k5
    have BX5 := hid (BX.out.kept k5 (fun h => h))
    have BN5 := hid (BNV.out.kept k5 (fun h => h))
    have K5 := hid (KV.out.trans k5 (fun _ _ h => h))
    clear k5 CT BX BNV KV
    cases eq with
    | false =>
      have hne : (tx.toList == ss.toList) = false := HE.out
      have TH := hid (item_there (ks := ⟨#[]⟩) (dn := 0) (dd := 0) (vp := .slice none 0 0) (vv := .slice none 0 0) (g := false) BN5.out rfl)
      have HW := hid (row_set (vs := itL ⟨#[]⟩ 0 0 (.slice none 0 0) false (.slice none 0 0)) (cs := itL ⟨#[]⟩ 0 0 (.slice none 0 0) false (.slice none 0 0)) BN5.out rfl)
      have HKW : Hid (Kp Nb w (w5.setCells N 0 (itL ⟨#[]⟩ 0 0 (.slice none 0 0) false (.slice none 0 0)))) := hid (K5.out.trans (kp_setsN (Kp.refl _ w5)) (fun i hi h => by have h' : i = N := h; have := HNW.out; omega))
      have HPF : Hid (PR = none) := hid (HPR2.out)
      go_wp2_with (first
        | (refine at_storeV 28 (.tmp 2) (.tmp 53) (by rfl) ?_; refine wpList_store_mid (by rfl) 28 (.tmp 2) (.tmp 53) (by rfl) N 0 (itL ⟨#[]⟩ 0 0 (.slice none 0 0) false (.slice none 0 0)).toArray (by rfl) (by rfl) TH.out item_info (item_one _ _ _ _ _ _ _ _ _ _) ?_))
      refine bodyPost_ret (results_ctD rfl _ N (by rfl) _ (.bool false) (by rfl) (row_loadVar Tryz.underlying28 rfl (item_infoL _ _ _ _ _ _) HW.out 0 (fun j _ => by rw [Nat.zero_add]))) rfl ?_
      rw [HPF.out]
      exact ⟨.slice none 0 0, .slice none 0 0, rfl, itz_ok _, HKW.out⟩
    | true =>
      have hne : (tx.toList == ss.toList) = true := HE.out
      go_wp2_with (first
        | (refine wpList_valI (by rfl) _ _ (exec_loadD (x := .tmp 12) rfl (by rfl) (load_item BX5.out)) ?_))
      refine (CR.out w5 KV5.out).mono ?_
      rintro e w6 ⟨rfl, k6⟩
      have BX6 := hid (BX5.out.kept k6 (fun h => h))
      have BN6 := hid (BN5.out.kept k6 (fun h => h))
      have K6 := hid (K5.out.trans k6 (fun _ _ h => h))
      have IT6 := hid ((ITV.out.kept KV5.out).kept k6)
      clear k6 CR BX5 BN5 K5 KV5 ITV hne
      cases rx with
      | false =>
        have TH := hid (item_there (ks := ⟨#[]⟩) (dn := 0) (dd := 0) (vp := .slice none 0 0) (vv := .slice none 0 0) (g := false) BN6.out rfl)
        have HW := hid (row_set (vs := itL ⟨#[]⟩ 0 0 (.slice none 0 0) false (.slice none 0 0)) (cs := itL ⟨#[]⟩ 0 0 (.slice none 0 0) false (.slice none 0 0)) BN6.out rfl)
        have HKW : Hid (Kp Nb w (w6.setCells N 0 (itL ⟨#[]⟩ 0 0 (.slice none 0 0) false (.slice none 0 0)))) := hid (K6.out.trans (kp_setsN (Kp.refl _ w6)) (fun i hi h => by have h' : i = N := h; have := HNW.out; omega))
        have HPF : Hid (PR = none) := hid (HPR2.out)
        go_wp2_with (first
          | (refine at_storeV 28 (.tmp 2) (.tmp 53) (by rfl) ?_; refine wpList_store_mid (by rfl) 28 (.tmp 2) (.tmp 53) (by rfl) N 0 (itL ⟨#[]⟩ 0 0 (.slice none 0 0) false (.slice none 0 0)).toArray (by rfl) (by rfl) TH.out item_info (item_one _ _ _ _ _ _ _ _ _ _) ?_))
        refine bodyPost_ret (results_ctD rfl _ N (by rfl) _ (.bool false) (by rfl) (row_loadVar Tryz.underlying28 rfl (item_infoL _ _ _ _ _ _) HW.out 0 (fun j _ => by rw [Nat.zero_add]))) rfl ?_
        rw [HPF.out]
        exact ⟨.slice none 0 0, .slice none 0 0, rfl, itz_ok _, HKW.out⟩
      | true =>
        have TH := hid (item_there (ks := sk) (dn := dn) (dd := dd) (vp := .slice yp nP dp) (vv := .slice yv nV dv) (g := gn) BN6.out rfl)
        have HW := hid (row_set (vs := itL ⟨#[]⟩ 0 0 (.slice none 0 0) false (.slice none 0 0)) (cs := itL sk dn dd (.slice yp nP dp) gn (.slice yv nV dv)) BN6.out rfl)
        have HKW : Hid (Kp Nb w (w6.setCells N 0 (itL sk dn dd (.slice yp nP dp) gn (.slice yv nV dv)))) := hid (K6.out.trans (kp_setsN (Kp.refl _ w6)) (fun i hi h => by have h' : i = N := h; have := HNW.out; omega))
        have ITW := hid (IT6.out.besideI BN6.out (kp_setsN (vs := itL sk dn dd (.slice yp nP dp) gn (.slice yv nV dv)) (Kp.refl _ w6)))
        have HPF : Hid (PR = some ⟨key, dn, dd, past, gn, val⟩) := hid HPR2.out
        go_wp2_with (first
          | (refine wpList_val (by rfl) _ _ (exec_loadD (x := .tmp 12) rfl (by rfl) (load_item BX6.out)) ?_)
          | (refine at_storeV 28 (.tmp 2) (.tmp 54) (by rfl) ?_; refine wpList_store_mid (by rfl) 28 (.tmp 2) (.tmp 54) (by rfl) N 0 (itL sk dn dd (.slice yp nP dp) gn (.slice yv nV dv)).toArray (by rfl) (by rfl) TH.out item_info (item_one _ _ _ _ _ _ _ _ _ _) ?_))
        refine bodyPost_ret (results_ctD rfl _ N (by rfl) _ (.bool true) (by rfl) (row_loadVar Tryz.underlying28 rfl (item_infoL _ _ _ _ _ _) HW.out 0 (fun j _ => by rw [Nat.zero_add]))) rfl ?_
        rw [HPF.out]
        exact ⟨.slice yp nP dp, .slice yv nV dv, by show Ending.returned _ = _; rw [← HSK.out]; rfl, ITW.out, HKW.out⟩
theorem iparse_any (s : List UInt8) (w : World) (hl : s.length ≤ 1000) (hm : Mx w) (he : Ev w) (ht : Tab w) :
    Calls Tryz.prog 33 #[.string (bs s)] w fun e w' => ∃ vp vv, e = .returned (.tuple #[itVq ((parI s).getD itZ) vp vv, .bool (parI s).isSome]) ∧ ItOk w' ((parI s).getD itZ) vp vv ∧ Kp Nb w w' := by
  obtain ⟨⟨k, r1, b1⟩, hc1⟩ : ∃ x, Lib.cut s [32] = x := ⟨_, rfl⟩
  obtain ⟨⟨d, r2, b2⟩, hc2⟩ : ∃ x, Lib.cut r1 [32, 91] = x := ⟨_, rfl⟩
  obtain ⟨⟨p, v, b3⟩, hc3⟩ : ∃ x, Lib.cut r2 [93, 32] = x := ⟨_, rfl⟩
  have l1 := cut_len4 hc1
  have l2 := cut_len4 hc2
  have l3 := cut_len4 hc3
  exact iparse_gen s k r1 d r2 p v b1 b2 b3 hc1 hc2 hc3 w (by omega) (by omega) (by omega) (by omega) (by omega) hm he ht
end

end Go.Proofs.YtogoophofgkboaaGreatDoor
