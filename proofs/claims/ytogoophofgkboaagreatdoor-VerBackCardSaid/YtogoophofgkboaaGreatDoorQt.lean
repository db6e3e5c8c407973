/-
  Of the texts VeL, VeW, VeX, VeY what is used. No condition but what each says.
-/
import Derived.Test.YtogoophofgkboaaGreatDoorQo
import Derived.Test.YtogoophofgkboaaGreatDoorQc
import Derived.Test.YtogoophofgkboaaGreatDoorQr
import Derived.Test.YtogoophofgkboaaGreatDoorQs
import Derived.Test.YtogoophofgkboaaGreatDoorQi
namespace Go.Proofs.YtogoophofgkboaaGreatDoor
section
open Go.RowKit
theorem ItOk.besideI {w w' : World} {X t : Nat} {x : ItQ} {vp vv : Value} {ks : ByteArray} {dn dd : Int} {y y' : Option Addr} {n d n' d' : Nat} {g : Bool} (h : ItOk w x vp vv) (hx : Blk w X t [.string ks, .int .i64 dn, .int .i64 dd, .slice y n d, .bool g, .slice y' n' d']) (k : Kp (Jb X) w w') : ItOk w' x vp vv := ⟨h.key, h.dn, h.dd, cl_beside h.past hx k, by_besideI h.val hx k⟩
theorem kp_setsN {w w' : World} {N : Nat} {vs : List Value} (k : Kp (Jb N) w w') : Kp (Jb N) w (w'.setCells N 0 vs) := Kp.setCells (S := Jb N) (B := N) (fun _ => show N = N from rfl) _ 0 _ k
end
section
open Go.RowKit
/-- What four words are, as far as they can be an item. -/
def parsedI (k d p v : List UInt8) : ItQ × Bool :=
  match readB k 24, parT d, parT p with
  | some key, some [r], some past => if v = [103, 111, 110, 101] then (⟨key, r.1, r.2.1, past, true, []⟩, true) else (⟨key, r.1, r.2.1, past, false, (readB v 64).getD []⟩, (readB v 64).isSome)
  | _, _, _ => (itZ, false)
theorem build_i3 (w : World) (s : ByteArray) (n f : Int) (y : Option Addr) (m c : Nat) : (Instr.build 28 #[(0, .string s), (1, .agg #[.int .i64 n, .int .i64 f]), (2, .slice y m c)]).run Tryz.prog w = .ok (itV s n f (.slice y m c) false (.slice none 0 0)) w := by
  kernel_rfl
theorem store_i1 {w : World} {N : Nat} {s : ByteArray} {n f : Int} {y : Option Addr} {m c : Nat} (h : Blk w N 28 (itL ⟨#[]⟩ 0 0 (.slice none 0 0) false (.slice none 0 0))) : (Instr.storeAt 28 (.pointer (some ⟨N, 0, none⟩)) (itV s n f (.slice y m c) false (.slice none 0 0))).run Tryz.prog w = .ok () (w.setCells N 0 (itL s n f (.slice y m c) false (.slice none 0 0))) :=
  run_storeAt_mid w N 0 28 (itL s n f (.slice y m c) false (.slice none 0 0)).toArray (item_there h rfl) (item_infoA _ _ _ _ _ _) (item_one _ _ _ _ _ _ _ _ _ _)
theorem readB_bytes {s : List UInt8} {m : Nat} {zs : List Int} (h : readB s m = some zs) : IsBytes zs := by
  unfold readB at h
  split at h
  · injection h with h; rw [← h]; exact isb_nil
  · split at h
    · cases h
    · exact (hex_unh _ _ h).1
set_option maxRecDepth 100000 in
set_option maxHeartbeats 8000000 in
theorem iparsed_any (k d p v : List UInt8) (w : World) (hk : k.length ≤ 1000) (hd : d.length ≤ 1000) (hp : p.length ≤ 1000) (hv : v.length ≤ 1000) (hm : Mx w) (he : Ev w) (ht : Tab w) :
    Calls Tryz.prog 74 #[.string (bs k), .string (bs d), .string (bs p), .string (bs v)] w fun e w' => ∃ vp vv, e = .returned (.tuple #[itVq (parsedI k d p v).1 vp vv, .bool (parsedI k d p v).2]) ∧ ItOk w' (parsedI k d p v).1 vp vv ∧ Kp Nb w w' := by
  obtain ⟨N, hN⟩ : ∃ N, w.heap.size = N := ⟨_, rfl⟩
  obtain ⟨W, hW⟩ : ∃ W, W = w.alloc (.cells #[.string ⟨#[]⟩, .int .i64 0, .int .i64 0, .slice none 0 0, .bool false, .slice none 0 0] 28) := ⟨_, rfl⟩
  have BN0 : Hid (Blk W N 28 (itL ⟨#[]⟩ 0 0 (.slice none 0 0) false (.slice none 0 0))) := hid (by rw [hW, ← hN]; exact Blk.new w _ (itL ⟨#[]⟩ 0 0 (.slice none 0 0) false (.slice none 0 0)))
  have K0 : Hid (Kp Nb w W) := hid (by rw [hW]; exact (Kp.refl Nb w).alloc _)
  have HNW := hid hN
  have HM := hid (show Mx W ∧ Ev W ∧ Tab W from ⟨hm.kept K0.out, he.kept K0.out, ht.kept K0.out⟩)
  have HLN := hid (show k.length ≤ 1000 ∧ d.length ≤ 1000 ∧ p.length ≤ 1000 ∧ v.length ≤ 1000 from ⟨hk, hd, hp, hv⟩)
  have C1 := hid (rbytes4_any k 24 W hk (by omega))
  have C2 := hid (fun wx (q : Kp Nb W wx) => dparse_any d wx HLN.out.2.1 (HM.out.1.kept q) (HM.out.2.1.kept q) (HM.out.2.2.kept q))
  have C3 := hid (fun wx (q : Kp Nb W wx) => dparse_any p wx HLN.out.2.2.1 (HM.out.1.kept q) (HM.out.2.1.kept q) (HM.out.2.2.kept q))
  have C4 := hid (fun wx => rbytes4_any v 64 wx HLN.out.2.2.2 (by omega))
  have HE : Hid (((bs v).toList == [103, 111, 110, 101]) = decide (v = [103, 111, 110, 101])) := hid (by
    have e : (bs v).toList = v := ByteArray.toList_mk _
    rw [e, Bool.eq_iff_iff, beq_iff_eq, decide_eq_true_eq])
  have HPR : Hid (parsedI k d p v = match readB k 24, parT d, parT p with
    | some key, some [r], some past => if v = [103, 111, 110, 101] then (⟨key, r.1, r.2.1, past, true, []⟩, true) else (⟨key, r.1, r.2.1, past, false, (readB v 64).getD []⟩, (readB v 64).isSome)
    | _, _, _ => (itZ, false)) := hid rfl
  obtain ⟨PR, hPR⟩ : ∃ x, parsedI k d p v = x := ⟨_, rfl⟩
  rw [hPR] at HPR ⊢
  have HBK := hid (fun zs (h : readB k 24 = some zs) => readB_bytes h)
  obtain ⟨rk, hrk⟩ : ∃ x, readB k 24 = x := ⟨_, rfl⟩
  obtain ⟨rd, hrd⟩ : ∃ x, parT d = x := ⟨_, rfl⟩
  obtain ⟨rp, hrp⟩ : ∃ x, parT p = x := ⟨_, rfl⟩
  obtain ⟨rv, hrv⟩ : ∃ x, readB v 64 = x := ⟨_, rfl⟩
  have HBV := hid (fun zs (h : rv = some zs) => readB_bytes (hrv.trans h))
  obtain ⟨gv, hgv⟩ : ∃ x, decide (v = [103, 111, 110, 101]) = x := ⟨_, rfl⟩
  have HGV := hid (show (v = [103, 111, 110, 101]) ↔ gv = true by rw [← hgv, decide_eq_true_eq])
  rw [hrk] at HPR C1 HBK
  rw [hrd] at HPR C2
  rw [hrp] at HPR C3
  rw [hrv] at HPR C4
  rw [hgv] at HE
  obtain ⟨sv, hsv⟩ : ∃ t, bs v = t := ⟨_, rfl⟩
  rw [hsv] at HE C4 ⊢
  obtain ⟨sk1, hsk1⟩ : ∃ t, bs k = t := ⟨_, rfl⟩
  rw [hsk1] at C1 ⊢
  obtain ⟨sd1, hsd1⟩ : ∃ t, bs d = t := ⟨_, rfl⟩
  rw [hsd1] at C2 ⊢
  obtain ⟨sp1, hsp1⟩ : ∃ t, bs p = t := ⟨_, rfl⟩
  rw [hsp1] at C3 ⊢
  clear hPR hrk hrd hrp hrv hgv hsv hsk1 hsd1 hsp1 hm he ht hk hd hp hv
  go_enter Tryz.func74, Tryz.ntmps74
  go_upto_region 1 with fail
  try rw [hN]
  rw [← hW]
  clear hW hN
  go_wp2_with fail
  refine C1.out.mono ?_
  rintro e w1 ⟨v1, rfl, hb1, -, k1⟩
  have HB1 := hid hb1
  have KW1 := hid k1
  clear hb1 k1 C1
  go_wp2_with fail
  refine (C2.out w1 KW1.out).mono ?_
  rintro e w2 ⟨v2, rfl, hc2, k2⟩
  have HV2 := hid hc2
  have HB2 := hid (HB1.out.kept k2 (fun _ h => h))
  have KW2 := hid (KW1.out.trans k2 (fun _ _ h => h))
  clear hc2 k2 C2 HB1 KW1
  go_wp2_with fail
  refine (C3.out w2 KW2.out).mono ?_
  rintro e w3 ⟨v3, rfl, hc3, k3⟩
  have HV3 := hid hc3
  have HB3 := hid (HB2.out.kept k3 (fun _ h => h))
  have HO3 := hid (HV2.out.kept k3)
  have KW3 := hid (KW2.out.trans k3 (fun _ _ h => h))
  have K3 := hid (K0.out.trans KW3.out (fun _ _ h => h))
  have BN3 := hid (BN0.out.kept KW3.out (fun h => h))
  clear hc3 k3 C3 HB2 KW2 HV2 BN0 K0
  obtain ⟨y2, c2, e2⟩ := HO3.out.shape
  subst e2
  cases rk with
  | none =>
    simp only [Option.isSome_none]
    have TH := hid (item_there (ks := ⟨#[]⟩) (dn := 0) (dd := 0) (vp := .slice none 0 0) (vv := .slice none 0 0) (g := false) BN3.out rfl)
    have HW := hid (row_set (vs := itL ⟨#[]⟩ 0 0 (.slice none 0 0) false (.slice none 0 0)) (cs := itL ⟨#[]⟩ 0 0 (.slice none 0 0) false (.slice none 0 0)) BN3.out rfl)
    have HKW : Hid (Kp Nb w (w3.setCells N 0 (itL ⟨#[]⟩ 0 0 (.slice none 0 0) false (.slice none 0 0)))) := hid (K3.out.trans (kp_setsN (Kp.refl _ w3)) (fun i hi h => by have h' : i = N := h; have := HNW.out; omega))
    have HPF : Hid (PR = (itZ, false)) := hid (HPR.out)
    go_wp2_with (first
      | (refine wpList_store_mid (by rfl) 28 (.tmp 8) (.tmp 47) (by rfl) N 0 (itL ⟨#[]⟩ 0 0 (.slice none 0 0) false (.slice none 0 0)).toArray (by rfl) (by rfl) TH.out item_info (item_one _ _ _ _ _ _ _ _ _ _) ?_))
    refine bodyPost_ret (results_ctD rfl _ N (by rfl) _ (.bool false) (by rfl) (row_loadVar Tryz.underlying28 rfl (item_infoL _ _ _ _ _ _) HW.out 0 (fun j _ => by rw [Nat.zero_add]))) rfl ?_
    rw [HPF.out]
    exact ⟨.slice none 0 0, .slice none 0 0, rfl, itz_ok _, HKW.out⟩
  | some key =>
    cases rd with
    | none =>
      simp only [Option.isSome_none, Option.isSome_some]
      have TH := hid (item_there (ks := ⟨#[]⟩) (dn := 0) (dd := 0) (vp := .slice none 0 0) (vv := .slice none 0 0) (g := false) BN3.out rfl)
      have HW := hid (row_set (vs := itL ⟨#[]⟩ 0 0 (.slice none 0 0) false (.slice none 0 0)) (cs := itL ⟨#[]⟩ 0 0 (.slice none 0 0) false (.slice none 0 0)) BN3.out rfl)
      have HKW : Hid (Kp Nb w (w3.setCells N 0 (itL ⟨#[]⟩ 0 0 (.slice none 0 0) false (.slice none 0 0)))) := hid (K3.out.trans (kp_setsN (Kp.refl _ w3)) (fun i hi h => by have h' : i = N := h; have := HNW.out; omega))
      have HPF : Hid (PR = (itZ, false)) := hid (HPR.out)
      go_wp2_with (first
        | (refine wpList_store_mid (by rfl) 28 (.tmp 8) (.tmp 47) (by rfl) N 0 (itL ⟨#[]⟩ 0 0 (.slice none 0 0) false (.slice none 0 0)).toArray (by rfl) (by rfl) TH.out item_info (item_one _ _ _ _ _ _ _ _ _ _) ?_))
      refine bodyPost_ret (results_ctD rfl _ N (by rfl) _ (.bool false) (by rfl) (row_loadVar Tryz.underlying28 rfl (item_infoL _ _ _ _ _ _) HW.out 0 (fun j _ => by rw [Nat.zero_add]))) rfl ?_
      rw [HPF.out]
      exact ⟨.slice none 0 0, .slice none 0 0, rfl, itz_ok _, HKW.out⟩
    | some dc =>
      cases rp with
      | none =>
        simp only [Option.isSome_none, Option.isSome_some]
        have TH := hid (item_there (ks := ⟨#[]⟩) (dn := 0) (dd := 0) (vp := .slice none 0 0) (vv := .slice none 0 0) (g := false) BN3.out rfl)
        have HW := hid (row_set (vs := itL ⟨#[]⟩ 0 0 (.slice none 0 0) false (.slice none 0 0)) (cs := itL ⟨#[]⟩ 0 0 (.slice none 0 0) false (.slice none 0 0)) BN3.out rfl)
        have HKW : Hid (Kp Nb w (w3.setCells N 0 (itL ⟨#[]⟩ 0 0 (.slice none 0 0) false (.slice none 0 0)))) := hid (K3.out.trans (kp_setsN (Kp.refl _ w3)) (fun i hi h => by have h' : i = N := h; have := HNW.out; omega))
        have HPF : Hid (PR = (itZ, false)) := hid (by rw [HPR.out]; match dc with | [] => rfl | [_] => rfl | _ :: _ :: _ => rfl)
        go_wp2_with (first
          | (refine wpList_store_mid (by rfl) 28 (.tmp 8) (.tmp 47) (by rfl) N 0 (itL ⟨#[]⟩ 0 0 (.slice none 0 0) false (.slice none 0 0)).toArray (by rfl) (by rfl) TH.out item_info (item_one _ _ _ _ _ _ _ _ _ _) ?_))
        refine bodyPost_ret (results_ctD rfl _ N (by rfl) _ (.bool false) (by rfl) (row_loadVar Tryz.underlying28 rfl (item_infoL _ _ _ _ _ _) HW.out 0 (fun j _ => by rw [Nat.zero_add]))) rfl ?_
        rw [HPF.out]
        exact ⟨.slice none 0 0, .slice none 0 0, rfl, itz_ok _, HKW.out⟩
      | some past =>
        simp only [Option.getD_some, Option.isSome_some] at HB3 HV3 HO3 ⊢
        by_cases hone : dc.length = 1
        · obtain ⟨r, rfl⟩ : ∃ r, dc = [r] := List.length_eq_one_iff.1 hone
          obtain ⟨n, f, tt⟩ := r
          have HPS : Hid (PR = if gv = true then (⟨key, n, f, past, true, []⟩, true) else (⟨key, n, f, past, false, rv.getD []⟩, rv.isSome)) := hid (by
            rw [HPR.out]
            show (if v = [103, 111, 110, 101] then _ else _) = _
            simp only [HGV.out])
          clear hone HPR
          have HRO := hid (HO3.out.ok (n, f, tt) (by simp))
          obtain ⟨y1, c1, e1⟩ := by_shape HB3.out
          subst e1
          obtain ⟨y3, c3, e3⟩ := HV3.out.shape
          subst e3
          have hrows := HO3.out.2
          rcases hrows with ⟨_, e⟩ | ⟨blk, off, cap, e, -, -, hr⟩
          · cases e
          · have e' : y2 = some ⟨blk, off, none⟩ ∧ c2 = cap := by injection e with e1 e2 e3; exact ⟨e1, e3⟩
            obtain ⟨rfl, rfl⟩ := e'
            have hc0 : w3.cell? ⟨blk, off, none⟩ = some (.int .i64 n) := by
              have := hr 0 (by show 0 < 1; decide) 0 _ rfl
              rw [show off + 0 * 3 + 0 = off by omega] at this
              exact this
            have hc1 : w3.cell? ⟨blk, off + 1, none⟩ = some (.int .i64 f) := by
              have := hr 0 (by show 0 < 1; decide) 1 _ rfl
              rw [show off + 0 * 3 + 1 = off + 1 by omega] at this
              exact this
            have HC0 := hid hc0
            have HC1 := hid hc1
            have HCV0 := hid (fun wx (q : Kp Nb w3 wx) => conv_any (HB3.out.kept q (fun _ h => h)))
            obtain ⟨sk, hsk⟩ : ∃ s, st key = s := ⟨_, rfl⟩
            have HSK := hid hsk
            rw [hsk] at HCV0
            have HKB := hid HB3.out.1
            obtain ⟨n1, hn1⟩ : ∃ m, key.length = m := ⟨_, rfl⟩
            obtain ⟨n3, hn3⟩ : ∃ m, past.length = m := ⟨_, rfl⟩
            simp only [hn1] at HCV0
            simp only [hn3] at HV3
            simp only [hn1, hn3, List.length_singleton]
            have HCV := HCV0
            clear hr e hc0 hc1 hsk hn1 hn3 HB3 HO3 HBK HCV0
            go_upto_region 6 with fail
            refine region_ghost (g0 := (0 : Nat)) [none, none, none, none, none, none, none, none, none, none, none, none, none, none, none, none, some 13, none, none, none, none, none, none, none, none, none, none, none, none, none, none, none, none, none, none, none, none, none, none, none, none, none, none, none, none, none, none, none, some 0, some 1, some 2, some 3, some 4, some 5, some 6, some 7, some 8, some 9, some 10, some 11, some 12, none, none, none, none, none, none, none, none, none, none, none, none] [[(10, none)], [(48, some 0)], [(12, none)], [(50, some 2)], [(51, some 3)], [(52, some 4)], [(12, none)], [(54, some 6)], [(55, some 7)], [(56, some 8)], [(53, some 5), (57, some 9)], [(14, none)], [(49, some 1), (58, some 10), (59, some 11)], [], [(16, some 13), (60, some 12)]] [some 48, some 49, some 50, some 51, some 52, some 53, some 54, some 55, some 56, some 57, some 58, some 59, some 60, some 16, none] (fun g => [.slice y1 n1 c1, .string sk, .slice (some ⟨blk, off, none⟩) 1 c2, .pointer (some ⟨blk, off, none⟩), .pointer (some ⟨blk, off, none⟩), .int .i64 n, .slice (some ⟨blk, off, none⟩) 1 c2, .pointer (some ⟨blk, off, none⟩), .pointer (some ⟨blk, off + 1, none⟩), .int .i64 f, dotV n f, .slice y3 n3 c3, itV sk n f (.slice y3 n3 c3) false (.slice none 0 0), .pointer (some ⟨g, 0, none⟩), undef]) [13, 14] (fun (bs : List Bool) (g : Nat) wq => Hid (Kp Nb w3 wq ∧ (bs.getD 0 false = true → w3.heap.size ≤ g) ∧ (bs.getD 0 false = true → bs.getD 1 false = false → Blk wq g 28 (itL ⟨#[]⟩ 0 0 (.slice none 0 0) false (.slice none 0 0))) ∧ (bs.getD 1 false = true → Blk wq g 28 (itL sk n f (.slice y3 n3 c3) false (.slice none 0 0))))) (by kernel_rfl) (by kernel_rfl) (fun g => by kernel_rfl) (by kernel_rfl) ?hS (GFrom.all (n := 15) (by kernel_rfl) ?hstep) ?hend
            case hstep =>
              refine GFrom.cons (GStep.val _ rfl rfl _ rfl (fun g => .slice y1 n1 c1) (fun _ => rfl) (fun _ => trivial) (fun bs g ev wq hS he hr => ?_)) ?_
              · have r0 : ev (.tmp 10) = .slice y1 n1 c1 := hr (10, none) (by simp); have hk := he.1; clear hr he
                go_simp
              refine GFrom.cons (GStep.val _ rfl rfl _ rfl (fun g => .string sk) (fun _ => rfl) (fun _ => trivial) (fun bs g ev wq hS he hr => ?_)) ?_
              · have r0 : ev (.tmp 48) = .slice y1 n1 c1 := hr (48, some 0) (by simp); have hk := he.1; clear hr he
                exact exec_convT rfl r0 (HCV.out wq hS.out.1)
              refine GFrom.cons (GStep.val _ rfl rfl _ rfl (fun g => .slice (some ⟨blk, off, none⟩) 1 c2) (fun _ => rfl) (fun _ => trivial) (fun bs g ev wq hS he hr => ?_)) ?_
              · have r0 : ev (.tmp 12) = .slice (some ⟨blk, off, none⟩) 1 c2 := hr (12, none) (by simp); have hk := he.1; clear hr he
                go_simp
              refine GFrom.cons (GStep.val _ rfl rfl _ rfl (fun g => .pointer (some ⟨blk, off, none⟩)) (fun _ => rfl) (fun _ => trivial) (fun bs g ev wq hS he hr => ?_)) ?_
              · have r0 : ev (.tmp 50) = .slice (some ⟨blk, off, none⟩) 1 c2 := hr (50, some 2) (by simp); have hk := he.1; clear hr he
                go_simp
              refine GFrom.cons (GStep.val _ rfl rfl _ rfl (fun g => .pointer (some ⟨blk, off, none⟩)) (fun _ => rfl) (fun _ => trivial) (fun bs g ev wq hS he hr => ?_)) ?_
              · have r0 : ev (.tmp 51) = .pointer (some ⟨blk, off, none⟩) := hr (51, some 3) (by simp); have hk := he.1; clear hr he
                go_simp
              refine GFrom.cons (GStep.val _ rfl rfl _ rfl (fun g => .int .i64 n) (fun _ => rfl) (fun _ => trivial) (fun bs g ev wq hS he hr => ?_)) ?_
              · have r0 : ev (.tmp 52) = .pointer (some ⟨blk, off, none⟩) := hr (52, some 4) (by simp); have hk := he.1; clear hr he
                have c0 : wq.cell? ⟨blk, off, none⟩ = some (.int .i64 n) := hS.out.1.cell (HC0.out) (fun h => h)
                go_simp
              refine GFrom.cons (GStep.val _ rfl rfl _ rfl (fun g => .slice (some ⟨blk, off, none⟩) 1 c2) (fun _ => rfl) (fun _ => trivial) (fun bs g ev wq hS he hr => ?_)) ?_
              · have r0 : ev (.tmp 12) = .slice (some ⟨blk, off, none⟩) 1 c2 := hr (12, none) (by simp); have hk := he.1; clear hr he
                go_simp
              refine GFrom.cons (GStep.val _ rfl rfl _ rfl (fun g => .pointer (some ⟨blk, off, none⟩)) (fun _ => rfl) (fun _ => trivial) (fun bs g ev wq hS he hr => ?_)) ?_
              · have r0 : ev (.tmp 54) = .slice (some ⟨blk, off, none⟩) 1 c2 := hr (54, some 6) (by simp); have hk := he.1; clear hr he
                go_simp
              refine GFrom.cons (GStep.val _ rfl rfl _ rfl (fun g => .pointer (some ⟨blk, off + 1, none⟩)) (fun _ => rfl) (fun _ => trivial) (fun bs g ev wq hS he hr => ?_)) ?_
              · have r0 : ev (.tmp 55) = .pointer (some ⟨blk, off, none⟩) := hr (55, some 7) (by simp); have hk := he.1; clear hr he
                go_simp
              refine GFrom.cons (GStep.val _ rfl rfl _ rfl (fun g => .int .i64 f) (fun _ => rfl) (fun _ => trivial) (fun bs g ev wq hS he hr => ?_)) ?_
              · have r0 : ev (.tmp 56) = .pointer (some ⟨blk, off + 1, none⟩) := hr (56, some 8) (by simp); have hk := he.1; clear hr he
                have c0 : wq.cell? ⟨blk, off + 1, none⟩ = some (.int .i64 f) := hS.out.1.cell (HC1.out) (fun h => h)
                go_simp
              refine GFrom.cons (GStep.val _ rfl rfl _ rfl (fun g => dotV n f) (fun _ => rfl) (fun _ => trivial) (fun bs g ev wq hS he hr => ?_)) ?_
              · have r0 : ev (.tmp 53) = .int .i64 n := hr (53, some 5) (by simp); have r1 : ev (.tmp 57) = .int .i64 f := hr (57, some 9) (by simp); have hk := he.1; clear hr he
                go_simp
              refine GFrom.cons (GStep.val _ rfl rfl _ rfl (fun g => .slice y3 n3 c3) (fun _ => rfl) (fun _ => trivial) (fun bs g ev wq hS he hr => ?_)) ?_
              · have r0 : ev (.tmp 14) = .slice y3 n3 c3 := hr (14, none) (by simp); have hk := he.1; clear hr he
                go_simp
              refine GFrom.cons (GStep.val _ rfl rfl _ rfl (fun g => itV sk n f (.slice y3 n3 c3) false (.slice none 0 0)) (fun _ => rfl) (fun _ => trivial) (fun bs g ev wq hS he hr => ?_)) ?_
              · have r0 : ev (.tmp 49) = .string sk := hr (49, some 1) (by simp); have r1 : ev (.tmp 58) = dotV n f := hr (58, some 10) (by simp); have r2 : ev (.tmp 59) = .slice y3 n3 c3 := hr (59, some 11) (by simp); have hk := he.1; clear hr he
                exact exec_build rfl (by simp [r0, r1, r2]) (build_i3 wq _ _ _ _ _ _)
              refine GFrom.cons (GStep.make _ rfl _ rfl (fun _ => trivial) (fun Lx g ev wq hL hd hcl hS he hr => ?_)) ?_
              · clear hr; have hk := he.1
                have l14 : Lx 14 = false := by cases h : Lx 14 with | false => rfl | true => (have := hcl 14 _ rfl h 13 (by kernel_rfl); rw [hL] at this; cases this)
                have e : bitsAt [13, 14] Lx = [false, false] := by simp [bitsAt, hL, l14]
                have e2 : bitsAt [13, 14] (upd Lx 13) = [true, false] := by simp [bitsAt, upd, l14]
                rw [e] at hS
                exact ⟨.pointer (some ⟨wq.heap.size, 0, none⟩), wq.heap.size, wq.alloc (.cells (itL ⟨#[]⟩ 0 0 (.slice none 0 0) false (.slice none 0 0)).toArray 28), by go_simp, rfl, old_setV _ hL rfl, by rw [e2]; exact hid ⟨hS.out.1.trans ((Kp.refl Nb wq).alloc _) (fun _ _ h => h), fun _ => hS.out.1.size, fun _ _ => Blk.new wq _ (itL ⟨#[]⟩ 0 0 (.slice none 0 0) false (.slice none 0 0)), (fun e => by cases e)⟩⟩
              refine GFrom.cons (GStep.storem _ rfl _ rfl (fun _ => rfl) (fun _ => trivial) (fun Lx g ev wq hL hd hcl hS he hr => ?_)) ?_
              · have r0 : ev (.tmp 16) = .pointer (some ⟨g, 0, none⟩) := hr (16, some 13) (by simp); have r1 : ev (.tmp 60) = itV sk n f (.slice y3 n3 c3) false (.slice none 0 0) := hr (60, some 12) (by simp); clear hr he
                have l13 : Lx 13 = true := hd 13 (by kernel_rfl)
                have e : bitsAt [13, 14] Lx = [true, false] := by simp [bitsAt, hL, l13]
                have e2 : bitsAt [13, 14] (upd Lx 14) = [true, true] := by simp [bitsAt, upd, l13]
                rw [e] at hS
                have hb := hS.out.2.2.1 rfl rfl
                exact ⟨_, exec_store rfl r0 r1 (store_i1 hb), by rw [e2]; exact hid ⟨Kp.setCells (fun h => absurd h (by have := hS.out.2.1 rfl; omega)) _ 0 _ hS.out.1, fun _ => hS.out.2.1 rfl, (fun _ e => by cases e), fun _ => row_set hb rfl⟩⟩
              exact GFrom.nil
            case hS => exact hid ⟨(Kp.refl Nb w3).drew, (fun e => by cases e), (fun e => by cases e), (fun e => by cases e)⟩
            case hend =>
              intro X w6 h6
              have BX6 := hid (h6.out.2.2.2 rfl)
              have KW6 := hid (h6.out.1)
              have HXN : Hid (N < X) := hid (by have := h6.out.2.1 rfl; have := BN3.out.lt; omega)
              have K6 := hid (K3.out.trans KW6.out (fun _ _ h => h))
              have BN6 := hid (BN3.out.kept KW6.out (fun h => h))
              have IT6 : Hid (ItOk w6 ⟨key, n, f, past, false, []⟩ (.slice y3 n3 c3) (.slice none 0 0)) := hid ⟨HKB.out, HRO.out.1, HRO.out.2.1, HV3.out.kept KW6.out, ⟨isb_nil, .inl ⟨⟨_, _, rfl⟩, rfl⟩⟩⟩
              have HNX : Hid (w.heap.size ≤ N ∧ N < X) := hid (by have := HNW.out; have := HXN.out; omega)
              clear h6 BN3 K3 HCV HC0 HC1 KW6 HV3
              simp only [putAll, List.zip_cons_cons, List.zip_nil_right, List.foldl_cons, List.foldl_nil, Act.put, List.setIfInBounds_toArray, List.set_cons_zero, List.set_cons_succ]
              cases gv with
              | true =>
                have hgo : (sv.toList == [103, 111, 110, 101]) = true := HE.out
                have HPF : Hid (PR = (⟨key, n, f, past, true, []⟩, true)) := hid HPS.out
                have fz := BX6.out.frozen 4
                have ck : w6.cell? ⟨X, 4, none⟩ = some (.bool false) := BX6.out.cell 4
                obtain ⟨w8, hw8⟩ : ∃ W, W = w6.setCell ⟨X, 4, none⟩ (.bool true) := ⟨_, rfl⟩
                have ks : Kp (Jb X) w6 w8 := by rw [hw8]; exact (Kp.refl (Jb X) w6).set 4 _
                have BX8 : Hid (Blk w8 X 28 (itL sk n f (.slice y3 n3 c3) true (.slice none 0 0))) := hid (by rw [hw8]; exact BX6.out.set 4 _)
                have BN8 := hid (BN6.out.kept ks (fun h => by have h' : N = X := h; have := HXN.out; omega))
                have K8 : Hid (Kp Nb w w8) := hid (K6.out.trans ks (fun i hi h => by have h' : i = X := h; have := HNX.out; omega))
                have IT8 : Hid (ItOk w8 ⟨key, n, f, past, true, []⟩ (.slice y3 n3 c3) (.slice none 0 0)) := hid (by have h := IT6.out.besideI BX6.out ks; exact ⟨h.key, h.dn, h.dd, h.past, h.val⟩)
                clear ks HPS HE
                go_upto_region 9 with fail
                rw [← hw8]
                clear hw8 fz ck BX6 BN6 K6 IT6 hgo
                have TH := hid (item_there (ks := sk) (dn := n) (dd := f) (vp := .slice y3 n3 c3) (vv := .slice none 0 0) (g := true) BN8.out rfl)
                have HW := hid (row_set (vs := itL ⟨#[]⟩ 0 0 (.slice none 0 0) false (.slice none 0 0)) (cs := itL sk n f (.slice y3 n3 c3) true (.slice none 0 0)) BN8.out rfl)
                have HKW : Hid (Kp Nb w (w8.setCells N 0 (itL sk n f (.slice y3 n3 c3) true (.slice none 0 0)))) := hid (K8.out.trans (kp_setsN (Kp.refl _ w8)) (fun i hi h => by have h' : i = N := h; have := HNW.out; omega))
                have ITW := hid (IT8.out.besideI BN8.out (kp_setsN (vs := itL sk n f (.slice y3 n3 c3) true (.slice none 0 0)) (Kp.refl _ w8)))
                go_wp2_with (first
                  | (refine wpList_val (by rfl) _ _ (exec_loadD (x := .tmp 16) rfl (by rfl) (load_item BX8.out)) ?_)
                  | (refine wpList_store_mid (by rfl) 28 (.tmp 8) (.tmp 64) (by rfl) N 0 (itL sk n f (.slice y3 n3 c3) true (.slice none 0 0)).toArray (by rfl) (by rfl) TH.out item_info (item_one _ _ _ _ _ _ _ _ _ _) ?_))
                refine bodyPost_ret (results_ctD rfl _ N (by rfl) _ (.bool true) (by rfl) (row_loadVar Tryz.underlying28 rfl (item_infoL _ _ _ _ _ _) HW.out 0 (fun j _ => by rw [Nat.zero_add]))) rfl ?_
                rw [HPF.out]
                exact ⟨.slice y3 n3 c3, .slice none 0 0, by unfold itVq; dsimp only; rw [HSK.out], ITW.out, HKW.out⟩
              | false =>
                have hgo : (sv.toList == [103, 111, 110, 101]) = false := HE.out
                have HPF : Hid (PR = (⟨key, n, f, past, false, rv.getD []⟩, rv.isSome)) := hid HPS.out
                clear HPS HE
                go_wp2_with fail
                refine (C4.out w6).mono ?_
                rintro e w7 ⟨v4, rfl, hb4, -, k7⟩
                have HB4 := hid hb4
                have BX7 := hid (BX6.out.kept k7 (fun h => h))
                have BN7 := hid (BN6.out.kept k7 (fun h => h))
                have IT7 := hid (IT6.out.kept k7)
                have K7 := hid (K6.out.trans k7 (fun _ _ h => h))
                clear hb4 k7 C4 BX6 BN6 IT6 K6 hgo
                obtain ⟨y4, c4, e4⟩ := by_shape HB4.out
                subst e4
                obtain ⟨rb, hrb⟩ : ∃ b, rv.isSome = b := ⟨_, rfl⟩
                obtain ⟨val, hval⟩ : ∃ b, rv.getD [] = b := ⟨_, rfl⟩
                rw [hrb, hval] at HPF
                rw [hrb]
                rw [hval] at HB4
                simp only [hval]
                obtain ⟨n4, hn4⟩ : ∃ m, val.length = m := ⟨_, rfl⟩
                simp only [hn4] at HB4
                simp only [hn4]
                have fz := BX7.out.frozen 5
                have ck : w7.cell? ⟨X, 5, none⟩ = some (.slice none 0 0) := BX7.out.cell 5
                obtain ⟨w8, hw8⟩ : ∃ W, W = w7.setCell ⟨X, 5, none⟩ (.slice y4 n4 c4) := ⟨_, rfl⟩
                have ks : Kp (Jb X) w7 w8 := by rw [hw8]; exact (Kp.refl (Jb X) w7).set 5 _
                have BX8 : Hid (Blk w8 X 28 (itL sk n f (.slice y3 n3 c3) false (.slice y4 n4 c4))) := hid (by rw [hw8]; exact BX7.out.set 5 _)
                have BN8 := hid (BN7.out.kept ks (fun h => by have h' : N = X := h; have := HXN.out; omega))
                have K8 : Hid (Kp Nb w w8) := hid (K7.out.trans ks (fun i hi h => by have h' : i = X := h; have := HNX.out; omega))
                have IT8 : Hid (ItOk w8 ⟨key, n, f, past, false, val⟩ (.slice y3 n3 c3) (.slice y4 n4 c4)) := hid (by have h := IT7.out.besideI BX7.out ks; exact ⟨h.key, h.dn, h.dd, h.past, by_besideI HB4.out BX7.out ks⟩)
                clear ks hrb hval hn4
                go_upto_region 11 with fail
                rw [← hw8]
                clear hw8 fz ck BX7 BN7 K7 IT7
                have TH := hid (item_there (ks := sk) (dn := n) (dd := f) (vp := .slice y3 n3 c3) (vv := .slice y4 n4 c4) (g := false) BN8.out rfl)
                have HW := hid (row_set (vs := itL ⟨#[]⟩ 0 0 (.slice none 0 0) false (.slice none 0 0)) (cs := itL sk n f (.slice y3 n3 c3) false (.slice y4 n4 c4)) BN8.out rfl)
                have HKW : Hid (Kp Nb w (w8.setCells N 0 (itL sk n f (.slice y3 n3 c3) false (.slice y4 n4 c4)))) := hid (K8.out.trans (kp_setsN (Kp.refl _ w8)) (fun i hi h => by have h' : i = N := h; have := HNW.out; omega))
                have ITW := hid (IT8.out.besideI BN8.out (kp_setsN (vs := itL sk n f (.slice y3 n3 c3) false (.slice y4 n4 c4)) (Kp.refl _ w8)))
                go_wp2_with (first
                  | (refine wpList_val (by rfl) _ _ (exec_loadD (x := .tmp 16) rfl (by rfl) (load_item BX8.out)) ?_)
                  | (refine wpList_store_mid (by rfl) 28 (.tmp 8) (.tmp 71) (by rfl) N 0 (itL sk n f (.slice y3 n3 c3) false (.slice y4 n4 c4)).toArray (by rfl) (by rfl) TH.out item_info (item_one _ _ _ _ _ _ _ _ _ _) ?_))
                refine bodyPost_ret (results_ctD rfl _ N (by rfl) _ (.bool rb) (by rfl) (row_loadVar Tryz.underlying28 rfl (item_infoL _ _ _ _ _ _) HW.out 0 (fun j _ => by rw [Nat.zero_add]))) rfl ?_
                rw [HPF.out]
                exact ⟨.slice y3 n3 c3, .slice y4 n4 c4, by unfold itVq; dsimp only; rw [HSK.out], ITW.out, HKW.out⟩
        · have g1 : ((dc.length : Int) != 1) = true := by rw [bne_iff_ne]; omega
          have HPX : Hid (PR = (itZ, false)) := hid (by
            rw [HPR.out]
            match dc, hone with
            | [], _ => rfl
            | [r], h => exact absurd rfl h
            | _ :: _ :: _, _ => rfl)
          obtain ⟨nd, hnd⟩ : ∃ m, dc.length = m := ⟨_, rfl⟩
          rw [hnd] at g1
          simp only [hnd]
          clear hnd hone
          have TH := hid (item_there (ks := ⟨#[]⟩) (dn := 0) (dd := 0) (vp := .slice none 0 0) (vv := .slice none 0 0) (g := false) BN3.out rfl)
          have HW := hid (row_set (vs := itL ⟨#[]⟩ 0 0 (.slice none 0 0) false (.slice none 0 0)) (cs := itL ⟨#[]⟩ 0 0 (.slice none 0 0) false (.slice none 0 0)) BN3.out rfl)
          have HKW : Hid (Kp Nb w (w3.setCells N 0 (itL ⟨#[]⟩ 0 0 (.slice none 0 0) false (.slice none 0 0)))) := hid (K3.out.trans (kp_setsN (Kp.refl _ w3)) (fun i hi h => by have h' : i = N := h; have := HNW.out; omega))
          have HPF : Hid (PR = (itZ, false)) := hid (HPX.out)
          go_wp2_with (first
            | (refine wpList_store_mid (by rfl) 28 (.tmp 8) (.tmp 47) (by rfl) N 0 (itL ⟨#[]⟩ 0 0 (.slice none 0 0) false (.slice none 0 0)).toArray (by rfl) (by rfl) TH.out item_info (item_one _ _ _ _ _ _ _ _ _ _) ?_))
          refine bodyPost_ret (results_ctD rfl _ N (by rfl) _ (.bool false) (by rfl) (row_loadVar Tryz.underlying28 rfl (item_infoL _ _ _ _ _ _) HW.out 0 (fun j _ => by rw [Nat.zero_add]))) rfl ?_
          rw [HPF.out]
          exact ⟨.slice none 0 0, .slice none 0 0, rfl, itz_ok _, HKW.out⟩
end
section
open Go.RowKit
/-- For an arm: the operation is this store (and no other rule is tried at another one). -/
theorem at_storeV {P : Program} {ops : Array Oper} {rest : List Oper} {o : Oper} {a : Act} {w : World} {Q : Exit → Act → World → Prop} (T : TypeId) (x y : Operand) (_ : o.op = .store T x y) (h : wpList P ops Q (o :: rest) a w) : wpList P ops Q (o :: rest) a w := h
theorem cut_len4 {s sep a b : List UInt8} {t : Bool} (h : Lib.cut s sep = (a, b, t)) : a.length ≤ s.length ∧ b.length ≤ s.length := by
  unfold Lib.cut at h
  split at h
  · simp only [Prod.mk.injEq] at h
    rw [← h.1, ← h.2.1, List.length_take, List.length_drop]
    omega
  · simp only [Prod.mk.injEq] at h
    rw [← h.1, ← h.2.1]
    simp
theorem parsedI_bytes (k d p v : List UInt8) (h : (parsedI k d p v).2 = true) : IsBytes (parsedI k d p v).1.key ∧ IsBytes (parsedI k d p v).1.val := by
  unfold parsedI at h ⊢
  cases hk : readB k 24 with
  | none => rw [hk] at h; exact Bool.noConfusion h
  | some key =>
    cases hd : parT d with
    | none => rw [hk, hd] at h; exact Bool.noConfusion h
    | some dc =>
      cases hp : parT p with
      | none =>
        rw [hk, hd, hp] at h
        match dc, h with
        | [], h => exact Bool.noConfusion h
        | [_], h => exact Bool.noConfusion h
        | _ :: _ :: _, h => exact Bool.noConfusion h
      | some past =>
        rw [hk, hd, hp] at h
        match dc, h with
        | [], h => exact Bool.noConfusion h
        | _ :: _ :: _, h => exact Bool.noConfusion h
        | [r], h =>
          dsimp only at h ⊢
          split
          · exact ⟨readB_bytes hk, isb_nil⟩
          · rename_i hv
            rw [if_neg hv] at h
            refine ⟨readB_bytes hk, ?_⟩
            cases hr : readB v 64 with
            | none => exact isb_nil
            | some zs => exact readB_bytes hr
theorem readB_hex {zs : List Int} (h : IsBytes zs) (h0 : zs.length ≠ 0) (most : Nat) (hm : zs.length ≤ most) : readB (hexL zs) most = some zs := by
  have hl := hexL_len zs
  unfold readB
  rw [if_neg, if_neg, unh_hex zs h]
  · rintro (h | h | h) <;> omega
  · intro e
    rw [e] at hl
    simp at hl
    omega
theorem readB_hexW {zs : List Int} (h : IsBytes zs) (most : Nat) (hm : zs.length ≤ most) : readB (hexW zs) most = some zs := by
  unfold hexW
  split
  · rename_i h0
    rw [List.length_eq_zero_iff.1 h0]
    rfl
  · rename_i h0
    exact readB_hex h h0 most hm
/-- A right item's text: its four words are that item. -/
theorem parsed_of {s : List UInt8} {x : ItQ} (h : IsTx s x) : parsedI (hexL x.key) (textR (x.dn, x.dd, x.dd)) (textC x.past) (valT x) = (x, true) := by
  obtain ⟨h1, h2, h3, h4, h5, h6, h7⟩ := rightI_facts h.right
  have e1 := readB_hex h.key (by omega) 24 h1
  have e2 := (parT_iff _ _).2 ⟨(textC_one (dot_good h.right)).1, rfl⟩
  rw [(textC_one (dot_good h.right)).2] at e2
  have e3 := (parT_iff _ _).2 ⟨h4, rfl⟩
  unfold parsedI
  rw [e1, e2, e3]
  dsimp only
  cases hg : x.gone with
  | true =>
    have ev : valT x = [103, 111, 110, 101] := by unfold valT; rw [hg]; rfl
    rw [if_pos ev]
    obtain ⟨a, b, c, d, f, i⟩ := x
    dsimp only at hg h7 ⊢
    rw [hg, h7 hg]
  | false =>
    have ev : valT x = hexW x.val := by unfold valT; rw [hg]; rfl
    have hne : valT x ≠ [103, 111, 110, 101] := by
      rw [ev]
      intro e
      unfold hexW at e
      split at e
      · exact absurd e (by decide)
      · exact (hexL_mem h.val (c := 103) (by rw [e]; simp)).2.2 rfl
    rw [if_neg hne, ev, readB_hexW h.val 64 h5]
    obtain ⟨a, b, c, d, f, i⟩ := x
    dsimp only at hg ⊢
    rw [hg]
    rfl
/-- Which item a text is, as the program finds it. -/
theorem parI_cuts {s k r1 d r2 p v : List UInt8} {b1 b2 b3 : Bool} (h1 : Lib.cut s [32] = (k, r1, b1)) (h2 : Lib.cut r1 [32, 91] = (d, r2, b2)) (h3 : Lib.cut r2 [93, 32] = (p, v, b3)) :
    parI s = if (parsedI k d p v).2 = true ∧ textI (parsedI k d p v).1 = s ∧ rightI (parsedI k d p v).1 = true then some (parsedI k d p v).1 else none := by
  split
  · rename_i h
    obtain ⟨a, b, c⟩ := h
    refine (parI_iff s _).2 ⟨c, (parsedI_bytes k d p v a).1, (parsedI_bytes k d p v a).2, ?_⟩
    unfold textI at b
    rwa [if_pos c] at b
  · rename_i h
    refine parI_none s (fun x hx => h ?_)
    obtain ⟨c1, c2, c3⟩ := tx_cuts hx
    rw [c1] at h1
    simp only [Prod.mk.injEq] at h1
    obtain ⟨rfl, rfl, -⟩ := h1
    rw [c2] at h2
    simp only [Prod.mk.injEq] at h2
    obtain ⟨rfl, rfl, -⟩ := h2
    rw [c3] at h3
    simp only [Prod.mk.injEq] at h3
    obtain ⟨rfl, rfl, -⟩ := h3
    rw [parsed_of hx]
    refine ⟨rfl, ?_, hx.right⟩
    unfold textI
    rw [if_pos hx.right]
    exact hx.text
set_option maxRecDepth 100000 in
set_option maxHeartbeats 8000000 in
theorem iparse_gen (s k r1 d r2 p v : List UInt8) (b1 b2 b3 : Bool) (hc1 : Lib.cut s [32] = (k, r1, b1)) (hc2 : Lib.cut r1 [32, 91] = (d, r2, b2)) (hc3 : Lib.cut r2 [93, 32] = (p, v, b3)) (w : World) (hl : s.length ≤ 100000) (lk : k.length ≤ 1000) (ld : d.length ≤ 1000) (lp : p.length ≤ 1000) (lv : v.length ≤ 1000) (hm : Mx w) (he : Ev w) (ht : Tab w) :
    Calls Tryz.prog 33 #[.string (bs s)] w fun e w' => ∃ vp vv, e = .returned (.tuple #[itVq ((parI s).getD itZ) vp vv, .bool (parI s).isSome]) ∧ ItOk w' ((parI s).getD itZ) vp vv ∧ Kp Nb w w' := by
  have l1 := cut_len4 hc1
  have l2 := cut_len4 hc2
  have HPR := hid (parI_cuts hc1 hc2 hc3)
  obtain ⟨PR, hPR⟩ : ∃ x, parI s = x := ⟨_, rfl⟩
  rw [hPR] at HPR ⊢
  obtain ⟨N, hN⟩ : ∃ N, w.heap.size = N := ⟨_, rfl⟩
  obtain ⟨W, hW⟩ : ∃ W, W = w.alloc (.cells #[.string ⟨#[]⟩, .int .i64 0, .int .i64 0, .slice none 0 0, .bool false, .slice none 0 0] 28) := ⟨_, rfl⟩
  have BN0 : Hid (Blk W N 28 (itL ⟨#[]⟩ 0 0 (.slice none 0 0) false (.slice none 0 0))) := hid (by rw [hW, ← hN]; exact Blk.new w _ (itL ⟨#[]⟩ 0 0 (.slice none 0 0) false (.slice none 0 0)))
  have K0 : Hid (Kp Nb w W) := hid (by rw [hW]; exact (Kp.refl Nb w).alloc _)
  have HNW := hid hN
  have HM := hid (show Mx W ∧ Ev W ∧ Tab W from ⟨hm.kept K0.out, he.kept K0.out, ht.kept K0.out⟩)
  have C1 := hid (cut_any s [32] k r1 b1 W HM.out.1 (by omega) hc1)
  have C2 := hid (fun wx (q : Kp Nb W wx) => cut_any r1 [32, 91] d r2 b2 wx (HM.out.1.kept q) (by omega) hc2)
  have C3 := hid (fun wx (q : Kp Nb W wx) => cut_any r2 [93, 32] p v b3 wx (HM.out.1.kept q) (by omega) hc3)
  have C4 := hid (fun wx (q : Kp Nb W wx) => iparsed_any k d p v wx (by omega) (by omega) (by omega) (by omega) (HM.out.1.kept q) (HM.out.2.1.kept q) (HM.out.2.2.kept q))
  obtain ⟨⟨x, b⟩, hxb⟩ : ∃ x, parsedI k d p v = x := ⟨_, rfl⟩
  rw [hxb] at HPR C4
  dsimp only at HPR C4
  have HE : Hid (((bs (textI x)).toList == (bs s).toList) = decide (textI x = s)) := hid (by
    have e : ∀ l : List UInt8, (bs l).toList = l := fun l => ByteArray.toList_mk _
    rw [e, e, Bool.eq_iff_iff, beq_iff_eq, decide_eq_true_eq])
  have CT0 := hid (fun vp vv wx (h : ItOk wx x vp vv) (q : Kp Nb W wx) => itext_any x vp vv wx h (HM.out.2.2.kept q))
  have CR0 := hid (fun vp vv wx (h : ItOk wx x vp vv) => iright_any x vp vv wx h)
  obtain ⟨eq, heq⟩ : ∃ e, decide (textI x = s) = e := ⟨_, rfl⟩
  obtain ⟨rx, hrx⟩ : ∃ e, rightI x = e := ⟨_, rfl⟩
  have HPR2 : Hid (PR = if b = true ∧ eq = true ∧ rx = true then some x else none) := hid (by rw [HPR.out, ← heq, ← hrx]; simp only [decide_eq_true_eq])
  rw [heq] at HE
  rw [hrx] at CR0
  obtain ⟨ss, hss⟩ : ∃ t, bs s = t := ⟨_, rfl⟩
  obtain ⟨tx, htx⟩ : ∃ t, bs (textI x) = t := ⟨_, rfl⟩
  obtain ⟨kk, hkk⟩ : ∃ t, bs k = t := ⟨_, rfl⟩
  obtain ⟨q1, hq1⟩ : ∃ t, bs r1 = t := ⟨_, rfl⟩
  obtain ⟨kd, hkd⟩ : ∃ t, bs d = t := ⟨_, rfl⟩
  obtain ⟨q2, hq2⟩ : ∃ t, bs r2 = t := ⟨_, rfl⟩
  obtain ⟨kp, hkp⟩ : ∃ t, bs p = t := ⟨_, rfl⟩
  obtain ⟨kv, hkv⟩ : ∃ t, bs v = t := ⟨_, rfl⟩
  rw [htx, hss] at HE
  rw [htx] at CT0
  rw [hss, hkk, hq1] at C1
  rw [hq1, hkd, hq2] at C2
  rw [hq2, hkp, hkv] at C3
  rw [hkk, hkd, hkp, hkv] at C4
  rw [hss]
  clear hPR HPR l1 l2 lk ld lp lv hc1 hc2 hc3 hm he ht hl hxb heq hrx hss htx hkk hq1 hkd hq2 hkp hkv
  go_enter Tryz.func33, Tryz.ntmps33
  go_upto_region 1 with fail
  try rw [hN]
  rw [← hW]
  clear hW hN
  go_wp2_with fail
  refine C1.out.mono ?_
  rintro e w1 ⟨rfl, k1⟩
  have KW1 := hid k1
  clear k1 C1
  go_wp2_with fail
  refine (C2.out w1 KW1.out).mono ?_
  rintro e w2 ⟨rfl, k2⟩
  have KW2 := hid (KW1.out.trans k2 (fun _ _ h => h))
  clear k2 C2 KW1
  go_wp2_with fail
  refine (C3.out w2 KW2.out).mono ?_
  rintro e w3 ⟨rfl, k3⟩
  have KW3 := hid (KW2.out.trans k3 (fun _ _ h => h))
  clear k3 C3 KW2
  go_wp2_with fail
  refine (C4.out w3 KW3.out).mono ?_
  rintro e w4 ⟨vp, vv, rfl, hit, k4⟩
  have KW4 := hid (KW3.out.trans k4 (fun _ _ h => h))
  have IT4 := hid hit
  obtain ⟨yp, dp, e1⟩ := hit.past.shape
  obtain ⟨yv, dv, e2⟩ := by_shape hit.val
  subst e1 e2
  have K4 := hid (K0.out.trans KW4.out (fun _ _ h => h))
  have BN4 := hid (BN0.out.kept KW4.out (fun h => h))
  clear hit k4 C4 KW3 K0 BN0
  obtain ⟨X, hX⟩ : ∃ X, w4.heap.size = X := ⟨_, rfl⟩
  obtain ⟨V, hV⟩ : ∃ V, V = (w4.alloc (.cells #[.string ⟨#[]⟩, .int .i64 0, .int .i64 0, .slice none 0 0, .bool false, .slice none 0 0] 28)).setCells X 0 (itL (st x.key) x.dn x.dd (.slice yp x.past.length dp) x.gone (.slice yv x.val.length dv)) := ⟨_, rfl⟩
  have hz : Blk (w4.alloc (.cells #[.string ⟨#[]⟩, .int .i64 0, .int .i64 0, .slice none 0 0, .bool false, .slice none 0 0] 28)) X 28 (itL ⟨#[]⟩ 0 0 (.slice none 0 0) false (.slice none 0 0)) := by rw [← hX]; exact Blk.new w4 _ (itL ⟨#[]⟩ 0 0 (.slice none 0 0) false (.slice none 0 0))
  have ks : Kp Nb w4 V := by rw [hV]; exact Kp.setCells (fun h => absurd h (by omega)) _ 0 _ ((Kp.refl Nb w4).alloc _)
  have BX := hid (show Blk V X 28 (itL (st x.key) x.dn x.dd (.slice yp x.past.length dp) x.gone (.slice yv x.val.length dv)) by rw [hV]; exact row_set hz rfl)
  have BNV := hid (BN4.out.kept ks (fun h => h))
  have KV := hid (K4.out.trans ks (fun _ _ h => h))
  have KWV := hid (KW4.out.trans ks (fun _ _ h => h))
  have ITV := hid (IT4.out.kept ks)
  have TH := hid (item_there (ks := st x.key) (dn := x.dn) (dd := x.dd) (vp := .slice yp x.past.length dp) (vv := .slice yv x.val.length dv) (g := x.gone) hz rfl)
  have CT := hid (fun wx (q : Kp Nb V wx) => CT0.out _ _ wx (ITV.out.kept q) (KWV.out.trans q (fun _ _ h => h)))
  have CR := hid (fun wx (q : Kp Nb V wx) => CR0.out _ _ wx (ITV.out.kept q))
  clear ks hz IT4 BN4 K4 KW4 CT0 CR0
  obtain ⟨key, dn, dd, past, gn, val⟩ := x
  unfold itVq itV at *
  dsimp only at *
  obtain ⟨nP, hnP⟩ : ∃ n, past.length = n := ⟨_, rfl⟩
  obtain ⟨nV, hnV⟩ : ∃ n, val.length = n := ⟨_, rfl⟩
  obtain ⟨sk, hsk⟩ : ∃ s, st key = s := ⟨_, rfl⟩
  have HSK := hid hsk
  have HNN := hid (And.intro hnP hnV)
  simp only [hnP, hnV, hsk] at hV BX ITV TH CT CR ⊢
  clear hnP hnV hsk
  go_upto_region 5 with (first
    | (refine at_storeV 28 (.tmp 12) (.tmp 38) (by rfl) ?_; refine wpList_store_mid (by rfl) 28 (.tmp 12) (.tmp 38) (by rfl) X 0 (itL sk dn dd (.slice yp nP dp) gn (.slice yv nV dv)).toArray (by rfl) (by rfl) TH.out item_info (item_one _ _ _ _ _ _ _ _ _ _) ?_))
  try rw [hX]
  rw [show (w4.alloc (.cells #[.string ⟨#[]⟩, .int .i64 0, .int .i64 0, .slice none 0 0, .bool false, .slice none 0 0] 28)).setCells X 0 (itL sk dn dd (.slice yp nP dp) gn (.slice yv nV dv)) = V from hV.symm]
  clear hV TH hX
  cases b with
  | false =>
    have TH := hid (item_there (ks := ⟨#[]⟩) (dn := 0) (dd := 0) (vp := .slice none 0 0) (vv := .slice none 0 0) (g := false) BNV.out rfl)
    have HW := hid (row_set (vs := itL ⟨#[]⟩ 0 0 (.slice none 0 0) false (.slice none 0 0)) (cs := itL ⟨#[]⟩ 0 0 (.slice none 0 0) false (.slice none 0 0)) BNV.out rfl)
    have HKW : Hid (Kp Nb w (V.setCells N 0 (itL ⟨#[]⟩ 0 0 (.slice none 0 0) false (.slice none 0 0)))) := hid (KV.out.trans (kp_setsN (Kp.refl _ V)) (fun i hi h => by have h' : i = N := h; have := HNW.out; omega))
    have HPF : Hid (PR = none) := hid (HPR2.out)
    go_wp2_with (first
      | (refine at_storeV 28 (.tmp 2) (.tmp 53) (by rfl) ?_; refine wpList_store_mid (by rfl) 28 (.tmp 2) (.tmp 53) (by rfl) N 0 (itL ⟨#[]⟩ 0 0 (.slice none 0 0) false (.slice none 0 0)).toArray (by rfl) (by rfl) TH.out item_info (item_one _ _ _ _ _ _ _ _ _ _) ?_))
    refine bodyPost_ret (results_ctD rfl _ N (by rfl) _ (.bool false) (by rfl) (row_loadVar Tryz.underlying28 rfl (item_infoL _ _ _ _ _ _) HW.out 0 (fun j _ => by rw [Nat.zero_add]))) rfl ?_
    rw [HPF.out]
    exact ⟨.slice none 0 0, .slice none 0 0, rfl, itz_ok _, HKW.out⟩
  | true =>
    go_wp2_with (first
      | (refine wpList_valI (by rfl) _ _ (exec_loadD (x := .tmp 12) rfl (by rfl) (load_item BX.out)) ?_))
    refine (CT.out V (Kp.refl _ _)).mono ?_
    rintro e w5 ⟨rfl, k5⟩
    have KV5 := hid k5
    have BX5 := hid (BX.out.kept k5 (fun h => h))
    have BN5 := hid (BNV.out.kept k5 (fun h => h))
    have K5 := hid (KV.out.trans k5 (fun _ _ h => h))
    clear k5 CT BX BNV KV
    cases eq with
    | false =>
      have hne : (tx.toList == ss.toList) = false := HE.out
      have TH := hid (item_there (ks := ⟨#[]⟩) (dn := 0) (dd := 0) (vp := .slice none 0 0) (vv := .slice none 0 0) (g := false) BN5.out rfl)
      have HW := hid (row_set (vs := itL ⟨#[]⟩ 0 0 (.slice none 0 0) false (.slice none 0 0)) (cs := itL ⟨#[]⟩ 0 0 (.slice none 0 0) false (.slice none 0 0)) BN5.out rfl)
      have HKW : Hid (Kp Nb w (w5.setCells N 0 (itL ⟨#[]⟩ 0 0 (.slice none 0 0) false (.slice none 0 0)))) := hid (K5.out.trans (kp_setsN (Kp.refl _ w5)) (fun i hi h => by have h' : i = N := h; have := HNW.out; omega))
      have HPF : Hid (PR = none) := hid (HPR2.out)
      go_wp2_with (first
        | (refine at_storeV 28 (.tmp 2) (.tmp 53) (by rfl) ?_; refine wpList_store_mid (by rfl) 28 (.tmp 2) (.tmp 53) (by rfl) N 0 (itL ⟨#[]⟩ 0 0 (.slice none 0 0) false (.slice none 0 0)).toArray (by rfl) (by rfl) TH.out item_info (item_one _ _ _ _ _ _ _ _ _ _) ?_))
      refine bodyPost_ret (results_ctD rfl _ N (by rfl) _ (.bool false) (by rfl) (row_loadVar Tryz.underlying28 rfl (item_infoL _ _ _ _ _ _) HW.out 0 (fun j _ => by rw [Nat.zero_add]))) rfl ?_
      rw [HPF.out]
      exact ⟨.slice none 0 0, .slice none 0 0, rfl, itz_ok _, HKW.out⟩
    | true =>
      have hne : (tx.toList == ss.toList) = true := HE.out
      go_wp2_with (first
        | (refine wpList_valI (by rfl) _ _ (exec_loadD (x := .tmp 12) rfl (by rfl) (load_item BX5.out)) ?_))
      refine (CR.out w5 KV5.out).mono ?_
      rintro e w6 ⟨rfl, k6⟩
      have BX6 := hid (BX5.out.kept k6 (fun h => h))
      have BN6 := hid (BN5.out.kept k6 (fun h => h))
      have K6 := hid (K5.out.trans k6 (fun _ _ h => h))
      have IT6 := hid ((ITV.out.kept KV5.out).kept k6)
      clear k6 CR BX5 BN5 K5 KV5 ITV hne
      cases rx with
      | false =>
        have TH := hid (item_there (ks := ⟨#[]⟩) (dn := 0) (dd := 0) (vp := .slice none 0 0) (vv := .slice none 0 0) (g := false) BN6.out rfl)
        have HW := hid (row_set (vs := itL ⟨#[]⟩ 0 0 (.slice none 0 0) false (.slice none 0 0)) (cs := itL ⟨#[]⟩ 0 0 (.slice none 0 0) false (.slice none 0 0)) BN6.out rfl)
        have HKW : Hid (Kp Nb w (w6.setCells N 0 (itL ⟨#[]⟩ 0 0 (.slice none 0 0) false (.slice none 0 0)))) := hid (K6.out.trans (kp_setsN (Kp.refl _ w6)) (fun i hi h => by have h' : i = N := h; have := HNW.out; omega))
        have HPF : Hid (PR = none) := hid (HPR2.out)
        go_wp2_with (first
          | (refine at_storeV 28 (.tmp 2) (.tmp 53) (by rfl) ?_; refine wpList_store_mid (by rfl) 28 (.tmp 2) (.tmp 53) (by rfl) N 0 (itL ⟨#[]⟩ 0 0 (.slice none 0 0) false (.slice none 0 0)).toArray (by rfl) (by rfl) TH.out item_info (item_one _ _ _ _ _ _ _ _ _ _) ?_))
        refine bodyPost_ret (results_ctD rfl _ N (by rfl) _ (.bool false) (by rfl) (row_loadVar Tryz.underlying28 rfl (item_infoL _ _ _ _ _ _) HW.out 0 (fun j _ => by rw [Nat.zero_add]))) rfl ?_
        rw [HPF.out]
        exact ⟨.slice none 0 0, .slice none 0 0, rfl, itz_ok _, HKW.out⟩
      | true =>
        have TH := hid (item_there (ks := sk) (dn := dn) (dd := dd) (vp := .slice yp nP dp) (vv := .slice yv nV dv) (g := gn) BN6.out rfl)
        have HW := hid (row_set (vs := itL ⟨#[]⟩ 0 0 (.slice none 0 0) false (.slice none 0 0)) (cs := itL sk dn dd (.slice yp nP dp) gn (.slice yv nV dv)) BN6.out rfl)
        have HKW : Hid (Kp Nb w (w6.setCells N 0 (itL sk dn dd (.slice yp nP dp) gn (.slice yv nV dv)))) := hid (K6.out.trans (kp_setsN (Kp.refl _ w6)) (fun i hi h => by have h' : i = N := h; have := HNW.out; omega))
        have ITW := hid (IT6.out.besideI BN6.out (kp_setsN (vs := itL sk dn dd (.slice yp nP dp) gn (.slice yv nV dv)) (Kp.refl _ w6)))
        have HPF : Hid (PR = some ⟨key, dn, dd, past, gn, val⟩) := hid HPR2.out
        go_wp2_with (first
          | (refine wpList_val (by rfl) _ _ (exec_loadD (x := .tmp 12) rfl (by rfl) (load_item BX6.out)) ?_)
          | (refine at_storeV 28 (.tmp 2) (.tmp 54) (by rfl) ?_; refine wpList_store_mid (by rfl) 28 (.tmp 2) (.tmp 54) (by rfl) N 0 (itL sk dn dd (.slice yp nP dp) gn (.slice yv nV dv)).toArray (by rfl) (by rfl) TH.out item_info (item_one _ _ _ _ _ _ _ _ _ _) ?_))
        refine bodyPost_ret (results_ctD rfl _ N (by rfl) _ (.bool true) (by rfl) (row_loadVar Tryz.underlying28 rfl (item_infoL _ _ _ _ _ _) HW.out 0 (fun j _ => by rw [Nat.zero_add]))) rfl ?_
        rw [HPF.out]
        exact ⟨.slice yp nP dp, .slice yv nV dv, by show Ending.returned _ = _; rw [← HSK.out]; rfl, ITW.out, HKW.out⟩
theorem iparse_any (s : List UInt8) (w : World) (hl : s.length ≤ 1000) (hm : Mx w) (he : Ev w) (ht : Tab w) :
    Calls Tryz.prog 33 #[.string (bs s)] w fun e w' => ∃ vp vv, e = .returned (.tuple #[itVq ((parI s).getD itZ) vp vv, .bool (parI s).isSome]) ∧ ItOk w' ((parI s).getD itZ) vp vv ∧ Kp Nb w w' := by
  obtain ⟨⟨k, r1, b1⟩, hc1⟩ : ∃ x, Lib.cut s [32] = x := ⟨_, rfl⟩
  obtain ⟨⟨d, r2, b2⟩, hc2⟩ : ∃ x, Lib.cut r1 [32, 91] = x := ⟨_, rfl⟩
  obtain ⟨⟨p, v, b3⟩, hc3⟩ : ∃ x, Lib.cut r2 [93, 32] = x := ⟨_, rfl⟩
  have l1 := cut_len4 hc1
  have l2 := cut_len4 hc2
  have l3 := cut_len4 hc3
  exact iparse_gen s k r1 d r2 p v b1 b2 b3 hc1 hc2 hc3 w (by omega) (by omega) (by omega) (by omega) (by omega) hm he ht
end
section
open Go.RowKit
/-- What lies between the first and the last byte. -/
def midL (P : List UInt8) : List UInt8 := (P.drop 1).take (P.length - 1 - 1)
def brP (P : List UInt8) : Bool := !(decide (P.length < 2) || (P[0]?.getD 0 != 91) || (P[P.length - 1]?.getD 0 != 93))
def valP (v : List UInt8) : Option (Bool × List Int) :=
  if v = [103, 111, 110, 101] then some (true, []) else if v = [46] then some (false, []) else match unhL v with | some (z :: zs) => some (false, z :: zs) | _ => none
def endP (key : List Int) (r : RunQ) (c : List RunQ) (v : List UInt8) : Option ItQ :=
  match valP v with
  | some (g, val) => if rightI ⟨key, r.1, r.2.1, c, g, val⟩ then some ⟨key, r.1, r.2.1, c, g, val⟩ else none
  | none => none
def rpI (k d v P : List UInt8) : Option ItQ :=
  if brP P then
    match unhL k, parT d, parT (midL P) with
    | some key, some [r], some c => if r.2.1 = r.2.2 then endP key r c v else none
    | _, _, _ => none
  else none
theorem brP_mid {P : List UInt8} (h : brP P = true) : P = 91 :: (midL P ++ [93]) := by
  unfold brP at h
  simp only [Bool.not_eq_true', Bool.or_eq_false_iff, decide_eq_false_iff_not, bne_eq_false_iff_eq] at h
  obtain ⟨⟨h0, h1⟩, h2⟩ := h
  cases P with
  | nil => exact absurd (show ([] : List UInt8).length < 2 by decide) h0
  | cons a r =>
    have ha : a = 91 := h1
    subst ha
    rcases List.eq_nil_or_concat r with rfl | ⟨m, b, rfl⟩
    · exact absurd (show ([91] : List UInt8).length < 2 by decide) h0
    · rw [List.concat_eq_append] at h2 ⊢
      unfold midL
      have e : (91 :: (m ++ [b])).length - 1 = m.length + 1 := by simp
      rw [e, List.getElem?_cons_succ, List.getElem?_append_right (Nat.le_refl _), Nat.sub_self] at h2
      have hb : b = 93 := h2
      subst hb
      rw [e]
      simp
theorem brP_of (p : List UInt8) : brP (91 :: (p ++ [93])) = true ∧ midL (91 :: (p ++ [93])) = p := by
  have e : (91 :: (p ++ [93]) : List UInt8).length - 1 = p.length + 1 := by simp
  constructor
  · unfold brP
    rw [e, List.getElem?_cons_succ, List.getElem?_append_right (Nat.le_refl _), Nat.sub_self]
    simp
  · unfold midL
    rw [e]
    simp
theorem valP_make {v : List UInt8} {g : Bool} {val : List Int} (h : valP v = some (g, val)) : (g = true ∧ v = [103, 111, 110, 101] ∧ val = []) ∨ (g = false ∧ v = [46] ∧ val = []) ∨ (g = false ∧ val ≠ [] ∧ unhL v = some val) := by
  unfold valP at h
  split at h
  · rename_i hv
    simp only [Option.some.injEq, Prod.mk.injEq] at h
    exact .inl ⟨h.1.symm, hv, h.2.symm⟩
  · split at h
    · rename_i hv
      simp only [Option.some.injEq, Prod.mk.injEq] at h
      exact .inr (.inl ⟨h.1.symm, hv, h.2.symm⟩)
    · split at h
      · rename_i z zs hu
        simp only [Option.some.injEq, Prod.mk.injEq] at h
        exact .inr (.inr ⟨h.1.symm, by rw [← h.2]; simp, by rw [hu, h.2]⟩)
      · cases h
theorem valP_of {x : ItQ} (h : rightI x = true) (hv : IsBytes x.val) : valP (valT x) = some (x.gone, x.val) := by
  have h7 := (rightI_facts h).2.2.2.2.2.2
  cases hg : x.gone with
  | true =>
    unfold valT valP
    rw [hg, h7 hg]
    rfl
  | false =>
    unfold valT
    rw [hg]
    simp only [Bool.false_eq_true, if_false]
    unfold hexW
    split
    · rename_i h0
      rw [List.length_eq_zero_iff.1 h0]
      rfl
    · rename_i h0
      have n1 : hexL x.val ≠ [103, 111, 110, 101] := fun e => (hexL_mem hv (c := 103) (by rw [e]; simp)).2.2 rfl
      have n2 : hexL x.val ≠ [46] := fun e => (hexL_mem hv (c := 46) (by rw [e]; simp)).2.1 rfl
      unfold valP
      rw [if_neg n1, if_neg n2, unh_hex _ hv]
      cases hx : x.val with
      | nil => rw [hx] at h0; exact absurd rfl h0
      | cons z zs => rfl
theorem rpI_make {s k d v : List UInt8} {ps : List (List UInt8)} (hs : splL 32 s = k :: d :: (ps ++ [v])) {x : ItQ} (h : rpI k d v (Lib.join ps [32]) = some x) : IsTx s x := by
  unfold rpI at h
  split at h
  · rename_i hb
    split at h
    · rename_i key r c hk hd hc
      split at h
      · rename_i hft
        unfold endP at h
        split at h
        · rename_i g val hv
          split at h
          · rename_i hr
            injection h with h
            subst h
            obtain ⟨n, f, t⟩ := r
            dsimp only at hft hr ⊢
            subst hft
            exact tx_make hs (brP_mid hb) hk hd hc (valP_make hv) hr
          · cases h
        · cases h
      · cases h
    · cases h
  · cases h
theorem parI_words {s k d v : List UInt8} {ps : List (List UInt8)} (hs : splL 32 s = k :: d :: (ps ++ [v])) : parI s = rpI k d v (Lib.join ps [32]) := by
  cases h : rpI k d v (Lib.join ps [32]) with
  | some x => exact (parI_iff s x).2 (rpI_make hs h)
  | none =>
    refine parI_none s (fun x hx => ?_)
    have e := hs.symm.trans (tx_split hx)
    injection e with e1 e
    injection e with e2 e
    obtain ⟨e3, e4⟩ := List.append_inj' e rfl
    injection e4 with e4
    subst e1 e2 e3 e4
    rw [spl_join] at h
    have hb := brP_of (textC x.past)
    have hg := dot_good hx.right
    have a1 := unh_hex _ hx.key
    have a2 := (parT_iff _ _).2 ⟨(textC_one hg).1, rfl⟩
    rw [(textC_one hg).2] at a2
    have a3 := (parT_iff _ _).2 ⟨(rightI_facts hx.right).2.2.2.1, rfl⟩
    unfold rpI pastT at h
    rw [if_pos hb.1, hb.2, a1, a2, a3] at h
    dsimp only at h
    rw [if_pos rfl] at h
    unfold endP at h
    rw [valP_of hx.right hx.val] at h
    dsimp only at h
    rw [if_pos hx.right] at h
    cases h
theorem spl_ne0 (c : UInt8) (s : List UInt8) : 1 ≤ (splL c s).length := by unfold splL; simp
theorem parI_short {s : List UInt8} (h : (splL 32 s).length < 4) : parI s = none := by
  refine parI_none s (fun x hx => ?_)
  rw [tx_split hx] at h
  have := spl_ne0 32 (pastT x)
  simp only [List.length_cons, List.length_append, List.length_nil] at h
  omega
end

end Go.Proofs.YtogoophofgkboaaGreatDoor
