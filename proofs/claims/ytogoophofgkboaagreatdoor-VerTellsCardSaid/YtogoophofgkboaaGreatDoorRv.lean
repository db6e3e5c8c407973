/-
  Of the texts VeJb what is used. No condition but what each says.
-/
import Derived.Test.YtogoophofgkboaaGreatDoorRo
import Derived.Test.YtogoophofgkboaaGreatDoorRr
namespace Go.Proofs.YtogoophofgkboaaGreatDoor
section
open Go.RowKit
theorem ownsRow_kpS {S : Nat → Prop} {w w' : World} {base e size n : Nat} {v : Value} {xs : List Value} (h : w.ownsRow base e size v n xs) (k : Kp S w w') (hs : ∀ g, v.ownBlock = some g → ¬ S g) : w'.ownsRow base e size v n xs :=
  ownsRow_same h (fun g hg => by obtain ⟨-, o, ho, -⟩ := row_cells h hg; exact k.heap (Array.getElem?_eq_some_iff.1 ho).1 (hs g hg))
set_option maxHeartbeats 800000 in
theorem clclone2_any (v : Value) (c : List RunQ) (w : World) (h : ClSl w v c) (hbig : c.length ≤ 100000) :
    Calls Tryz.prog 40 #[v] w fun e w' => ∃ v', e = .returned v' ∧ ClSl w' v' c ∧ w'.ownsRow w.heap.size 38 3 v' c.length (flatR runL c) ∧ OwnV w v' w' ∧ Kp Nb w w' := by
  have q22 : ∀ (w : World) (a : Option Addr) (n c n' c' : Nat), (binOp .eql 25 (.slice a n c) (.slice none n' c')).run Tryz.prog w = .ok (.bool a.isNone) w := fun w a n c n' c' => Lib.run_eql_slice_nil w _ _ a n c n' c' under_clock
  have HO := hid h.ok
  have HR := hid h.2
  obtain ⟨y, d, rfl⟩ := h.shape
  obtain ⟨n, hn⟩ : ∃ n, c.length = n := ⟨_, rfl⟩
  rw [hn] at HR hbig ⊢
  have HN := hid hn
  have HB := hid hbig
  clear hn h
  cases y with
  | none =>
    have h0 : c = [] := by
      rcases HR.out with ⟨-, h0⟩ | ⟨blk, off, cap, e, -⟩
      · exact h0
      · injection e with e; cases e
    subst h0
    go_enter Tryz.func40, Tryz.ntmps40
    go_wp2
    go_ret
    exact ⟨_, rfl, cl_nil _, (by obtain rfl : 0 = n := HN.out; exact ⟨rfl, .inl ⟨rfl, rfl⟩⟩), fun g hg => by simp [Value.ownBlock] at hg, Kp.refl _ _⟩
  | some a =>
    obtain ⟨i0, z, hi, hz0, hz1, hz2, hz3⟩ := run_info3
    have FR : Hid (RowsSl runL (0, 0, 0) 3 (w.alloc (.cells #[] 38 (0, 0))) (.slice (some a) n d) c) := hid (HR.out.kept ((Kp.refl Nb w).alloc _))
    have LL : Hid (0 + c.length ≤ maxLen ∧ (0 + c.length) * 24 ≤ 140737488355328) := hid (by rw [HN.out]; unfold maxLen; omega)
    clear HR
    go_enter Tryz.func40, Tryz.ntmps40
    go_wp2_with (at_builtin; refine wpList_append_rows (f := runL) (z := (0, 0, 0)) (c := 3) rfl _ _ 25 rfl w.heap.size 38 i0 z 24 under_clock hi hz0 hz1 hz2 hz3 (by decide) _ 0 [] rfl (World.ownsRow_made w #[] 0 (Nat.le_refl _) (Nat.zero_le _) rfl) _ c rfl FR.out (fun x hx => rfl) (fun q _ => run_one' q) LL.out.1 LL.out.2 ((Kp.refl Nb w).alloc _).size ?_)
    intro v9 w9 hown hgrow
    have hk := hid (((Kp.refl Nb w).alloc (.cells #[] 38)).grown hgrow (fun k hk h => by simp [Value.ownBlock] at hk; omega))
    have HO9 : Hid (w9.ownsRow w.heap.size 38 3 v9 c.length (flatR runL c)) := hid (by simpa only [Nat.zero_add, List.nil_append] using hown)
    have RS : Hid (ClSl w9 v9 c) := hid (cl_owned HO9.out HO.out)
    have OW : Hid (OwnV w v9 w9) := hid (own_of HO9.out)
    obtain ⟨y9, c9, rfl⟩ := own_shape HO9.out
    clear hown hgrow
    go_wp2
    go_ret
    exact ⟨_, rfl, RS.out, (by rw [← HN.out]; exact HO9.out), OW.out, hk.out⟩
set_option maxRecDepth 100000 in
set_option maxHeartbeats 4000000 in
theorem iclone2_any (x : ItQ) (vp vv : Value) (w : World) (h : ItOk w x vp vv) (hp : x.past.length ≤ 100000) (hb : x.val.length ≤ 140737488355328) :
    Calls Tryz.prog 11 #[itVq x vp vv] w fun e w' => ∃ vp' vv', e = .returned (itVq x vp' vv') ∧ ItOk w' x vp' vv' ∧ w'.ownsRow w.heap.size 38 3 vp' x.past.length (flatR runL x.past) ∧ w'.ownsRow w.heap.size 5 1 vv' x.val.length (x.val.map (Value.int .u8)) ∧ Kp Nb w w' := by
  obtain ⟨pp, dp, rfl⟩ := h.past.shape
  obtain ⟨pv, dv, rfl⟩ := by_shape h.val
  obtain ⟨N, hN⟩ : ∃ N, w.heap.size = N := ⟨_, rfl⟩
  obtain ⟨W, hW⟩ : ∃ W, W = (w.alloc (.cells #[.string (st x.key), .int .i64 x.dn, .int .i64 x.dd, .slice pp x.past.length dp, .bool x.gone, .slice pv x.val.length dv] 28)).alloc (.cells #[.string ⟨#[]⟩, .int .i64 0, .int .i64 0, .slice none 0 0, .bool false, .slice none 0 0] 28) := ⟨_, rfl⟩
  have B1 : Hid (Blk W N 28 (itL (st x.key) x.dn x.dd (.slice pp x.past.length dp) x.gone (.slice pv x.val.length dv))) := hid (by rw [hW, ← hN]; exact (Blk.new w _ (itL (st x.key) x.dn x.dd (.slice pp x.past.length dp) x.gone (.slice pv x.val.length dv))).alloc _)
  have B2 : Hid (Blk W (N + 1) 28 (itL ⟨#[]⟩ 0 0 (.slice none 0 0) false (.slice none 0 0))) := hid (by
    have h := Blk.new (w.alloc (.cells #[.string (st x.key), .int .i64 x.dn, .int .i64 x.dd, .slice pp x.past.length dp, .bool x.gone, .slice pv x.val.length dv] 28)) 28 (itL ⟨#[]⟩ 0 0 (.slice none 0 0) false (.slice none 0 0))
    simp only [World.size_alloc] at h
    rw [hW, ← hN]
    exact h)
  have K0 : Hid (Kp Nb w W) := hid (by rw [hW]; exact ((Kp.refl Nb w).alloc _).alloc _)
  have HNW := hid hN
  have HLW : Hid (N + 1 < W.heap.size) := hid B2.out.lt
  have HX := hid (h.kept K0.out)
  have CC := hid (clclone2_any _ x.past W HX.out.past (by omega))
  have HKB := hid HX.out.key
  have HVW := hid HX.out.val
  have HBL := hid hb
  have HI := hid (And.intro HX.out.dn HX.out.dd)
  have HVZ := hid HX.out.val.1
  obtain ⟨key, dn, dd, past, gn, val⟩ := x
  unfold itVq itV at *
  dsimp only at *
  obtain ⟨nP, hnP⟩ : ∃ n, past.length = n := ⟨_, rfl⟩
  obtain ⟨nV, hnV⟩ : ∃ n, val.length = n := ⟨_, rfl⟩
  obtain ⟨sk, hsk⟩ : ∃ s, st key = s := ⟨_, rfl⟩
  have HNP := hid hnP
  have HNV := hid hnV
  simp only [hnP, hnV, hsk] at hW B1 CC HVW HBL ⊢
  clear h hp hb hnP hnV HX
  go_enter Tryz.func11, Tryz.ntmps11
  go_upto_region 1 with fail
  try rw [hN]
  try simp only [World.size_alloc, hN]
  rw [← hW]
  clear hW hN
  have c3 : W.cell? ⟨N, 3, none⟩ = some (.slice pp nP dp) := B1.out.cell 3
  go_wp2_with fail
  refine CC.out.mono ?_
  rintro r w1 ⟨vq, rfl, hm, hrow, ho, k1⟩
  have HRQ := hid hrow
  have HM := hid hm
  have HOQ := hid ho
  have B11 := hid (B1.out.kept k1 (fun h => h))
  have B21 := hid (B2.out.kept k1 (fun h => h))
  have KW1 := hid k1
  obtain ⟨yq, dq, e1⟩ := hm.shape
  rw [HNP.out] at e1
  subst e1
  clear hm hrow ho k1 CC c3
  have fz := B11.out.frozen 3
  have ck : w1.cell? ⟨N, 3, none⟩ = some (.slice pp nP dp) := B11.out.cell 3
  obtain ⟨V1, hV1⟩ : ∃ V, V = w1.setCell ⟨N, 3, none⟩ (.slice yq nP dq) := ⟨_, rfl⟩
  have ks : Kp (Jb N) w1 V1 := by rw [hV1]; exact (Kp.refl (Jb N) w1).set 3 _
  have BV : Hid (Blk V1 N 28 [.string sk, .int .i64 dn, .int .i64 dd, .slice yq nP dq, .bool gn, .slice pv nV dv]) := hid (by rw [hV1]; exact B11.out.set 3 _)
  have BV2 := hid (B21.out.kept ks (fun h => by have h' : N + 1 = N := h; omega))
  have HMV := hid (HM.out.keptV ks (fun g hg h => by have h' : g = N := h; have := (HOQ.out g hg).1; have := HLW.out; omega))
  have HOV : Hid (∀ g, (Value.slice yq nP dq).ownBlock = some g → W.heap.size ≤ g ∧ g < V1.heap.size) := hid (fun g hg => ⟨(HOQ.out g hg).1, Nat.lt_of_lt_of_le (HOQ.out g hg).2 ks.size⟩)
  have KV : Hid (Kp (Jb N) W V1) := hid ((KW1.out.mono (fun _ _ h => h.elim)).trans ks (fun _ _ h => h))
  have HRV := hid (ownsRow_kpS HRQ.out ks (fun g hg h => by have h' : g = N := h; have := (HOQ.out g hg).1; have := HLW.out; omega))
  clear HM HOQ B11 B21 HRQ
  go_upto_region 2 with fail
  rw [← hV1]
  clear hV1 fz ck ks
  have c5 : V1.cell? ⟨N, 5, none⟩ = some (.slice pv nV dv) := BV.out.cell 5
  have HVS : Hid (W.heap.size ≤ V1.heap.size) := hid KV.out.size
  have HPVB : Hid (Calls Tryz.prog 41 #[.slice pv nV dv] V1 fun e w' => ∃ v', e = .returned v' ∧ w'.ownsRow V1.heap.size 5 1 v' nV (val.map (Value.int .u8)) ∧ Kp Nb V1 w') := hid (by
    have h := clone_any (S := Nb) (.slice pv nV dv) val V1 ?_ (by rw [HNV.out]; have := HBL.out; omega)
    · rw [HNV.out] at h; exact h
    · exact by_besideI HVW.out B1.out KV.out)
  go_wp2_with fail
  refine HPVB.out.mono ?_
  rintro r w3 ⟨vw, rfl, how, k3⟩
  have BW := hid (BV.out.kept k3 (fun h => h))
  have BW2 := hid (BV2.out.kept k3 (fun h => h))
  have HMW := hid (HMV.out.kept k3)
  have HOW : Hid (∀ g, (Value.slice yq nP dq).ownBlock = some g → W.heap.size ≤ g ∧ g < w3.heap.size) := hid (fun g hg => ⟨(HOV.out g hg).1, Nat.lt_of_lt_of_le (HOV.out g hg).2 k3.size⟩)
  have KW : Hid (Kp (Jb N) W w3) := hid (KV.out.trans k3 (fun _ _ h => h.elim))
  have HBY : Hid (BySl Nb w3 vw val) := hid (BySl.ofOwn (by rw [HNV.out]; exact how) HVZ.out (fun _ _ _ h => h))
  have HVO : Hid (∀ g, vw.ownBlock = some g → W.heap.size ≤ g ∧ g < w3.heap.size) := hid (fun g hg => by
    obtain ⟨h1, o, ho, -⟩ := row_cells how hg
    exact ⟨by have := KV.out.size; omega, (Array.getElem?_eq_some_iff.1 ho).1⟩)
  obtain ⟨yw, dw, rfl⟩ := own_shape how
  have HWR := hid how
  have HR3 := hid (ownsRow_kpV HRV.out k3)
  clear how k3 HPVB c5 HMV HOV BV BV2
  have fz := BW.out.frozen 5
  have ck : w3.cell? ⟨N, 5, none⟩ = some (.slice pv nV dv) := BW.out.cell 5
  obtain ⟨V3, hV3⟩ : ∃ V, V = w3.setCell ⟨N, 5, none⟩ (.slice yw nV dw) := ⟨_, rfl⟩
  have ks : Kp (Jb N) w3 V3 := by rw [hV3]; exact (Kp.refl (Jb N) w3).set 5 _
  have BF : Hid (Blk V3 N 28 (itL sk dn dd (.slice yq nP dq) gn (.slice yw nV dw))) := hid (by rw [hV3]; exact BW.out.set 5 _)
  have BF2 := hid (BW2.out.kept ks (fun h => by have h' : N + 1 = N := h; omega))
  have ITF : Hid (ItOk V3 ⟨key, dn, dd, past, gn, val⟩ (.slice yq nP dq) (.slice yw nV dw)) := hid ⟨HKB.out, HI.out.1, HI.out.2, HMW.out.keptV ks (fun g hg h => by have h' : g = N := h; have := (HOW.out g hg).1; have := HLW.out; omega), by_apart HBY.out ks (fun g hg h => by have h' : g = N := h; have := (HVO.out g hg).1; have := HLW.out; omega)⟩
  have OF : Hid ((∀ g, (Value.slice yq nP dq).ownBlock = some g → W.heap.size ≤ g ∧ g < V3.heap.size) ∧ (∀ g, (Value.slice yw nV dw).ownBlock = some g → W.heap.size ≤ g ∧ g < V3.heap.size)) := hid ⟨fun g hg => ⟨(HOW.out g hg).1, Nat.lt_of_lt_of_le (HOW.out g hg).2 ks.size⟩, fun g hg => ⟨(HVO.out g hg).1, Nat.lt_of_lt_of_le (HVO.out g hg).2 ks.size⟩⟩
  have KF : Hid (Kp (Jb N) W V3) := hid (KW.out.trans ks (fun _ _ h => h))
  have HRF := hid (ownsRow_kpS HR3.out ks (fun g hg h => by have h' : g = N := h; have := (HOW.out g hg).1; have := HLW.out; omega))
  have HWF := hid (ownsRow_kpS HWR.out ks (fun g hg h => by have h' : g = N := h; have := (HVO.out g hg).1; have := HLW.out; omega))
  clear HMW HOW HBY HVO BW BW2 HR3 HWR HRV
  go_upto_region 3 with fail
  rw [← hV3]
  clear hV3 fz ck ks
  have TH := hid (item_there (ks := sk) (dn := dn) (dd := dd) (vp := .slice yq nP dq) (vv := .slice yw nV dw) (g := gn) BF2.out rfl)
  have HW := hid (row_set (vs := itL ⟨#[]⟩ 0 0 (.slice none 0 0) false (.slice none 0 0)) (cs := itL sk dn dd (.slice yq nP dq) gn (.slice yw nV dw)) BF2.out rfl)
  have ks : Kp (Jb (N + 1)) V3 (V3.setCells (N + 1) 0 (itL sk dn dd (.slice yq nP dq) gn (.slice yw nV dw))) := Kp.setCells (S := Jb (N + 1)) (B := N + 1) (fun _ => show N + 1 = N + 1 from rfl) _ 0 _ (Kp.refl _ _)
  have HKW : Hid (Kp Nb w (V3.setCells (N + 1) 0 (itL sk dn dd (.slice yq nP dq) gn (.slice yw nV dw)))) := hid ((K0.out.trans KF.out (fun i hi h => by have h' : i = N := h; have := HNW.out; omega)).trans ks (fun i hi h => by have h' : i = N + 1 := h; have := HNW.out; omega))
  have ITW := hid (ITF.out.keptV ks (fun g hg h => by have h' : g = N + 1 := h; have := (OF.out.1 g hg).1; have := HLW.out; omega) (fun g hg h => by have h' : g = N + 1 := h; have := (OF.out.2 g hg).1; have := HLW.out; omega))
  have HRW := hid (ownsRow_le (base' := w.heap.size) (ownsRow_kpS HRF.out ks (fun g hg h => by have h' : g = N + 1 := h; have := (OF.out.1 g hg).1; have := HLW.out; omega)) K0.out.size)
  have HWW := hid (ownsRow_le (base' := w.heap.size) (ownsRow_kpS HWF.out ks (fun g hg h => by have h' : g = N + 1 := h; have := (OF.out.2 g hg).1; have := HLW.out; omega)) (by have := K0.out.size; have := HVS.out; omega))
  clear ks
  go_wp2_with (first
    | (refine wpList_load_mid (by rfl) 28 (.tmp 1) (by rfl) N 0 (by rfl) (itL sk dn dd (.slice yq nP dq) gn (.slice yw nV dw)) _ (range_ofR BF.out) under_item.choose_spec rfl item_info ?_)
    | (refine wpList_store_mid (by rfl) 28 (.tmp 2) (.tmp 11) (by rfl) (N + 1) 0 (itL sk dn dd (.slice yq nP dq) gn (.slice yw nV dw)).toArray (by rfl) (by rfl) TH.out item_info (item_one _ _ _ _ _ _ _ _ _ _) ?_))
  refine bodyPost_ret (results_cellI rfl _ (N + 1) (by rfl) _ (row_loadVar Tryz.underlying28 rfl (item_infoL _ _ _ _ _ _) HW.out 0 (fun j _ => by rw [Nat.zero_add]))) rfl ?_
  exact ⟨_, _, rfl, ITW.out, HRW.out, HWW.out, HKW.out⟩
end

end Go.Proofs.YtogoophofgkboaaGreatDoor
