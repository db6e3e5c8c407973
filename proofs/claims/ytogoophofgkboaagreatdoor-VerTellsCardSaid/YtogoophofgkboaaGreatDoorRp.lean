/-
  Of the texts VeK, VeP, DtX, VeQ what is used. No condition but what each says.
-/
import Derived.Test.YtogoophofgkboaaGreatDoorRo
import Derived.Test.YtogoophofgkboaaGreatDoorRf
namespace Go.Proofs.YtogoophofgkboaaGreatDoor
section
open Go.RowKit
/-- An item's mark, as cells. -/
def mkL (x : ItQ) : List Value := if rightI x then markCells (markA (bytesI x)) (markB (bytesI x)) 8 else [.int .u8 0, .int .u8 0, .int .u8 0, .int .u8 0, .int .u8 0, .int .u8 0, .int .u8 0, .int .u8 0, .int .u8 0, .int .u8 0, .int .u8 0, .int .u8 0, .int .u8 0, .int .u8 0, .int .u8 0, .int .u8 0]
def mkV (x : ItQ) : Value := .agg (mkL x).toArray
theorem mkL_len (x : ItQ) : (mkL x).length = 16 := by
  unfold mkL
  split
  · rfl
  · rfl
theorem mkL_one (x : ItQ) : (mkL x).toArray.all (·.oneCell') = true := by
  unfold mkL
  split
  · unfold markCells
    simp [Value.oneCell']
  · simp [Value.oneCell']
theorem mark_infoK : (Tryz.prog.info? 30).map (·.size) = some 16 := by kernel_rfl
theorem m0_one : (([.int .u8 0, .int .u8 0, .int .u8 0, .int .u8 0, .int .u8 0, .int .u8 0, .int .u8 0, .int .u8 0, .int .u8 0, .int .u8 0, .int .u8 0, .int .u8 0, .int .u8 0, .int .u8 0, .int .u8 0, .int .u8 0] : List Value)).toArray.all (·.oneCell') = true := by simp [Value.oneCell']
set_option maxRecDepth 100000 in
set_option maxHeartbeats 4000000 in
theorem imark_any (x : ItQ) (vp vv : Value) (w : World) (h : ItOk w x vp vv) (hlo : ∀ g, vp.ownBlock = some g → g < w.heap.size) :
    Calls Tryz.prog 18 #[itVq x vp vv] w fun e w' => e = .returned (mkV x) ∧ Kp Nb w w' := by
  obtain ⟨pp, dp, rfl⟩ := h.past.shape
  obtain ⟨pv, dv, rfl⟩ := by_shape h.val
  obtain ⟨N, hN⟩ : ∃ N, w.heap.size = N := ⟨_, rfl⟩
  obtain ⟨W, hW⟩ : ∃ W, W = (w.alloc (.cells #[.string (st x.key), .int .i64 x.dn, .int .i64 x.dd, .slice pp x.past.length dp, .bool x.gone, .slice pv x.val.length dv] 28)).alloc (.cells #[.int .u8 0, .int .u8 0, .int .u8 0, .int .u8 0, .int .u8 0, .int .u8 0, .int .u8 0, .int .u8 0, .int .u8 0, .int .u8 0, .int .u8 0, .int .u8 0, .int .u8 0, .int .u8 0, .int .u8 0, .int .u8 0] 30) := ⟨_, rfl⟩
  have B1 : Hid (Blk W N 28 (itL (st x.key) x.dn x.dd (.slice pp x.past.length dp) x.gone (.slice pv x.val.length dv))) := hid (by rw [hW, ← hN]; exact (Blk.new w _ (itL (st x.key) x.dn x.dd (.slice pp x.past.length dp) x.gone (.slice pv x.val.length dv))).alloc _)
  have B2 : Hid (Blk W (N + 1) 30 [.int .u8 0, .int .u8 0, .int .u8 0, .int .u8 0, .int .u8 0, .int .u8 0, .int .u8 0, .int .u8 0, .int .u8 0, .int .u8 0, .int .u8 0, .int .u8 0, .int .u8 0, .int .u8 0, .int .u8 0, .int .u8 0]) := hid (by
    have h := Blk.new (w.alloc (.cells #[.string (st x.key), .int .i64 x.dn, .int .i64 x.dd, .slice pp x.past.length dp, .bool x.gone, .slice pv x.val.length dv] 28)) 30 [.int .u8 0, .int .u8 0, .int .u8 0, .int .u8 0, .int .u8 0, .int .u8 0, .int .u8 0, .int .u8 0, .int .u8 0, .int .u8 0, .int .u8 0, .int .u8 0, .int .u8 0, .int .u8 0, .int .u8 0, .int .u8 0]
    simp only [World.size_alloc] at h
    rw [hW, ← hN]
    exact h)
  have K0 : Hid (Kp Nb w W) := hid (by rw [hW]; exact ((Kp.refl Nb w).alloc _).alloc _)
  have HNW := hid hN
  have HX := hid (h.kept K0.out)
  have CR := hid (fun wx (k : Kp Nb W wx) => iright_any x _ _ wx (HX.out.kept k))
  have CB := hid (fun wx (k : Kp Nb W wx) => ibytes_any x _ _ wx (HX.out.kept k) (fun g hg => by have := hlo g hg; have := K0.out.size; have := k.size; omega))
  have HBX : Hid (bytesX x = if rightI x then bytesI x else []) := hid rfl
  have HBL := hid (bytesX_len x)
  have HMK : Hid (mkV x = .agg (mkL x).toArray) := hid rfl
  have HML : Hid (mkL x = if rightI x then markCells (markA (bytesI x)) (markB (bytesI x)) 8 else [.int .u8 0, .int .u8 0, .int .u8 0, .int .u8 0, .int .u8 0, .int .u8 0, .int .u8 0, .int .u8 0, .int .u8 0, .int .u8 0, .int .u8 0, .int .u8 0, .int .u8 0, .int .u8 0, .int .u8 0, .int .u8 0]) := hid rfl
  obtain ⟨R, hR⟩ : ∃ b, rightI x = b := ⟨_, rfl⟩
  obtain ⟨MV, hMV⟩ : ∃ m, mkV x = m := ⟨_, rfl⟩
  rw [hR] at HBX HML CR
  rw [hMV] at HMK ⊢
  obtain ⟨ML, hML⟩ : ∃ m, mkL x = m := ⟨_, rfl⟩
  have HM16 := hid (mkL_len x)
  have HM1 := hid (mkL_one x)
  rw [hML] at HMK HML HM16 HM1
  clear h hlo hR hMV hML
  obtain ⟨BI, hBI⟩ : ∃ b, bytesI x = b := ⟨_, rfl⟩
  obtain ⟨BX, hBX⟩ : ∃ b, bytesX x = b := ⟨_, rfl⟩
  rw [hBI] at HBX HML
  rw [hBX] at HBX HBL CB
  clear hBI hBX HX
  obtain ⟨key, dn, dd, past, gn, val⟩ := x
  unfold itVq itV at *
  dsimp only at *
  obtain ⟨nP, hnP⟩ : ∃ n, past.length = n := ⟨_, rfl⟩
  obtain ⟨nV, hnV⟩ : ∃ n, val.length = n := ⟨_, rfl⟩
  obtain ⟨sk, hsk⟩ : ∃ s, st key = s := ⟨_, rfl⟩
  simp only [hnP, hnV, hsk] at hW B1 CR CB ⊢
  clear hnP hnV hsk
  go_enter Tryz.func18, Tryz.ntmps18
  go_upto_region 1 with fail
  try rw [hN]
  try simp only [World.size_alloc, hN]
  rw [← hW]
  clear hW hN
  go_wp2_with (first
    | (refine wpList_load_mid (by rfl) 28 (.tmp 1) (by rfl) N 0 (by rfl) (itL sk dn dd (.slice pp nP dp) gn (.slice pv nV dv)) _ (range_ofR B1.out) under_item.choose_spec rfl item_info ?_))
  refine (CR.out W (Kp.refl _ _)).mono ?_
  rintro r w1 ⟨rfl, k1⟩
  have B11 := hid (B1.out.kept k1 (fun h => h))
  have B21 := hid (B2.out.kept k1 (fun h => h))
  have K1 := hid (K0.out.trans k1 (fun _ _ h => h))
  have KW1 := hid k1
  clear k1 CR B1 B2
  cases R with
  | false =>
    have TH : Hid (w1.there (N + 1) 0 (([.int .u8 0, .int .u8 0, .int .u8 0, .int .u8 0, .int .u8 0, .int .u8 0, .int .u8 0, .int .u8 0, .int .u8 0, .int .u8 0, .int .u8 0, .int .u8 0, .int .u8 0, .int .u8 0, .int .u8 0, .int .u8 0] : List Value)).toArray.size) := hid (B21.out.there 0 16 (by simp))
    have HW := hid (row_set (vs := [.int .u8 0, .int .u8 0, .int .u8 0, .int .u8 0, .int .u8 0, .int .u8 0, .int .u8 0, .int .u8 0, .int .u8 0, .int .u8 0, .int .u8 0, .int .u8 0, .int .u8 0, .int .u8 0, .int .u8 0, .int .u8 0]) (cs := [.int .u8 0, .int .u8 0, .int .u8 0, .int .u8 0, .int .u8 0, .int .u8 0, .int .u8 0, .int .u8 0, .int .u8 0, .int .u8 0, .int .u8 0, .int .u8 0, .int .u8 0, .int .u8 0, .int .u8 0, .int .u8 0]) B21.out rfl)
    have HKW : Hid (Kp Nb w (w1.setCells (N + 1) 0 [.int .u8 0, .int .u8 0, .int .u8 0, .int .u8 0, .int .u8 0, .int .u8 0, .int .u8 0, .int .u8 0, .int .u8 0, .int .u8 0, .int .u8 0, .int .u8 0, .int .u8 0, .int .u8 0, .int .u8 0, .int .u8 0])) := hid (K1.out.trans (Kp.setCells (S := Jb (N + 1)) (B := N + 1) (fun _ => show N + 1 = N + 1 from rfl) _ 0 _ (Kp.refl _ _)) (fun i hi h => by have h' : i = N + 1 := h; have := HNW.out; omega))
    go_wp2_with (first
      | (refine wpList_store_mid (by rfl) 30 (.tmp 2) (.tmp 6) (by rfl) (N + 1) 0 (([.int .u8 0, .int .u8 0, .int .u8 0, .int .u8 0, .int .u8 0, .int .u8 0, .int .u8 0, .int .u8 0, .int .u8 0, .int .u8 0, .int .u8 0, .int .u8 0, .int .u8 0, .int .u8 0, .int .u8 0, .int .u8 0] : List Value)).toArray (by rfl) (by rfl) TH.out mark_infoK m0_one ?_))
    refine bodyPost_ret (results_cellI rfl _ (N + 1) (by rfl) _ (row_loadVar Tryz.underlying30 rfl (mark_infoK.trans rfl) HW.out 0 (fun j _ => by rw [Nat.zero_add]))) rfl ⟨?_, HKW.out⟩
    rw [HMK.out, HML.out]
    rfl
  | true =>
    go_wp2_with (first
      | (refine wpList_load_mid (by rfl) 28 (.tmp 1) (by rfl) N 0 (by rfl) (itL sk dn dd (.slice pp nP dp) gn (.slice pv nV dv)) _ (range_ofR B11.out) under_item.choose_spec rfl item_info ?_))
    refine (CB.out w1 KW1.out).mono ?_
    rintro r w2 ⟨y, rfl, hby, how, k2⟩
    have HBY := hid hby
    have B22 := hid (B21.out.kept k2 (fun h => h))
    have K2 := hid (K1.out.trans k2 (fun _ _ h => h))
    obtain ⟨yy, yd, rfl⟩ := by_shape hby
    obtain ⟨nB, hnB⟩ : ∃ n, BX.length = n := ⟨_, rfl⟩
    rw [hnB] at HBY ⊢
    clear hby how k2 CB KW1 B11 B21 hnB
    have HPS : Hid (PsSl (w2.alloc (.cells #[.slice yy nB yd] 26)) (.slice (some ⟨w2.heap.size, 0, none⟩) 1 1) [BX]) := hid (by
      refine .inr ⟨w2.heap.size, 0, 1, rfl, Nat.le_refl _, by unfold maxLen; decide, fun i hi => ?_⟩
      have e : i = 0 := by simp at hi; omega
      subst e
      refine ⟨.slice yy nB yd, (Blk.new w2 26 [.slice yy nB yd]).cell 0, HBY.out.kept ((Kp.refl Nb w2).alloc _) (fun _ h => h)⟩)
    have CM := hid (mark_any _ [BX] _ HPS.out (by simp only [List.flatten_cons, List.flatten_nil, List.append_nil]; have := HBL.out; omega))
    have B23 := hid (B22.out.kept ((Kp.refl Nb w2).alloc (.cells #[.slice yy nB yd] 26)) (fun h => h))
    have K3 := hid (K2.out.alloc (.cells #[.slice yy nB yd] 26))
    go_wp2_with fail
    refine CM.out.mono ?_
    rintro r w4 ⟨rfl, k4⟩
    have B24 := hid (B23.out.kept k4 (fun h => h))
    have K4 := hid (K3.out.trans k4 (fun _ _ h => h))
    have HMQ : Hid (markVal (markA ([BX].flatten)) (markB ([BX].flatten)) = .agg ML.toArray) := hid (by
      rw [HML.out, if_pos (by trivial), List.flatten_cons, List.flatten_nil, List.append_nil, HBX.out, if_pos (by trivial)]
      rfl)
    rw [HMQ.out]
    clear k4 CM HPS HBY B22 B23 K3
    have TH : Hid (w4.there (N + 1) 0 ML.toArray.size) := hid (B24.out.there 0 ML.toArray.size (by rw [List.size_toArray, HM16.out]; simp))
    have HW := hid (row_set (vs := [.int .u8 0, .int .u8 0, .int .u8 0, .int .u8 0, .int .u8 0, .int .u8 0, .int .u8 0, .int .u8 0, .int .u8 0, .int .u8 0, .int .u8 0, .int .u8 0, .int .u8 0, .int .u8 0, .int .u8 0, .int .u8 0]) (cs := ML) B24.out (by rw [HM16.out]; rfl))
    have HKW : Hid (Kp Nb w (w4.setCells (N + 1) 0 ML)) := hid (K4.out.trans (Kp.setCells (S := Jb (N + 1)) (B := N + 1) (fun _ => show N + 1 = N + 1 from rfl) _ 0 _ (Kp.refl _ _)) (fun i hi h => by have h' : i = N + 1 := h; have := HNW.out; omega))
    have HSI : Hid ((Tryz.prog.info? 30).map (·.size) = some ML.toArray.size) := hid (by rw [List.size_toArray, HM16.out]; exact mark_infoK)
    have HSL : Hid ((Tryz.prog.info? 30).map (·.size) = some ML.length) := hid (by rw [HM16.out]; exact mark_infoK)
    go_wp2_with (first
      | (refine wpList_store_mid (by rfl) 30 (.tmp 2) (.tmp 10) (by rfl) (N + 1) 0 ML.toArray (by rfl) (by rfl) TH.out HSI.out HM1.out ?_))
    refine bodyPost_ret (results_cellI rfl _ (N + 1) (by rfl) _ (row_loadVar Tryz.underlying30 rfl HSL.out HW.out 0 (fun j _ => by rw [Nat.zero_add]))) rfl ⟨?_, HKW.out⟩
    rw [HMK.out]
theorem runsB_bytes : ∀ (c : List RunQ), (∀ q ∈ c, goodR q = true) → IsBytes (runsB c)
  | [], _ => fun i => by simp [runsB]
  | q :: c, h => by
    have g := goodR_of.1 (h q (by simp))
    have e : runsB (q :: c) = bytesR q ++ runsB c := rfl
    rw [e]
    refine IsBytes.append ?_ (runsB_bytes c (fun x hx => h x (by simp [hx])))
    unfold bytesR
    exact IsBytes.append (IsBytes.append (numBytes_bytes _ (by omega) (by omega)) (numBytes_bytes _ (by omega) (by omega))) (numBytes_bytes _ (by omega) (by omega))
theorem bytesI_bytes {x : ItQ} (hr : rightI x = true) (hk : IsBytes x.key) (hv : IsBytes x.val) : IsBytes (bytesI x) := by
  obtain ⟨h1, h2, h3, h4, h5, -, -⟩ := rightI_facts hr
  have one : ∀ z : Int, 0 ≤ z ∧ z < 256 → IsBytes [z] := fun z hz i => by
    cases i with
    | zero => simpa using hz
    | succ i => simp
  unfold bytesI textB bytesC
  refine IsBytes.append (IsBytes.append (IsBytes.append (IsBytes.append (IsBytes.append (numBytes_bytes _ (by omega) (by omega)) hk) (numBytes_bytes _ (by omega) (by omega))) (numBytes_bytes _ (by omega) (by omega))) (IsBytes.append (numBytes_bytes _ (by omega) (by omega)) (runsB_bytes _ (right_good h4)))) ?_
  split
  · exact one 1 (by decide)
  · exact IsBytes.append (one 0 (by decide)) (IsBytes.append (numBytes_bytes _ (by omega) (by omega)) hv)
set_option maxRecDepth 100000 in
set_option maxHeartbeats 4000000 in
theorem rimark_any (x : ItQ) (vp vv : Value) (w : World) (h : ItOk w x vp vv) :
    Calls Tryz.prog 19 #[itVq x vp vv] w fun e w' => e = .returned (mkV x) ∧ Kp Nb w w' := by
  obtain ⟨pp, dp, rfl⟩ := h.past.shape
  obtain ⟨pv, dv, rfl⟩ := by_shape h.val
  obtain ⟨N, hN⟩ : ∃ N, w.heap.size = N := ⟨_, rfl⟩
  obtain ⟨W, hW⟩ : ∃ W, W = (w.alloc (.cells #[.string (st x.key), .int .i64 x.dn, .int .i64 x.dd, .slice pp x.past.length dp, .bool x.gone, .slice pv x.val.length dv] 28)).alloc (.cells #[.int .u8 0, .int .u8 0, .int .u8 0, .int .u8 0, .int .u8 0, .int .u8 0, .int .u8 0, .int .u8 0, .int .u8 0, .int .u8 0, .int .u8 0, .int .u8 0, .int .u8 0, .int .u8 0, .int .u8 0, .int .u8 0] 30) := ⟨_, rfl⟩
  have B1 : Hid (Blk W N 28 (itL (st x.key) x.dn x.dd (.slice pp x.past.length dp) x.gone (.slice pv x.val.length dv))) := hid (by rw [hW, ← hN]; exact (Blk.new w _ (itL (st x.key) x.dn x.dd (.slice pp x.past.length dp) x.gone (.slice pv x.val.length dv))).alloc _)
  have B2 : Hid (Blk W (N + 1) 30 [.int .u8 0, .int .u8 0, .int .u8 0, .int .u8 0, .int .u8 0, .int .u8 0, .int .u8 0, .int .u8 0, .int .u8 0, .int .u8 0, .int .u8 0, .int .u8 0, .int .u8 0, .int .u8 0, .int .u8 0, .int .u8 0]) := hid (by
    have h := Blk.new (w.alloc (.cells #[.string (st x.key), .int .i64 x.dn, .int .i64 x.dd, .slice pp x.past.length dp, .bool x.gone, .slice pv x.val.length dv] 28)) 30 [.int .u8 0, .int .u8 0, .int .u8 0, .int .u8 0, .int .u8 0, .int .u8 0, .int .u8 0, .int .u8 0, .int .u8 0, .int .u8 0, .int .u8 0, .int .u8 0, .int .u8 0, .int .u8 0, .int .u8 0, .int .u8 0]
    simp only [World.size_alloc] at h
    rw [hW, ← hN]
    exact h)
  have K0 : Hid (Kp Nb w W) := hid (by rw [hW]; exact ((Kp.refl Nb w).alloc _).alloc _)
  have HNW := hid hN
  have HX := hid (h.kept K0.out)
  have CR := hid (fun wx (k : Kp Nb W wx) => riright_any x _ _ wx (HX.out.kept k))
  have CB := hid (fun (hr : rightI x = true) wx (k : Kp Nb W wx) => ribytes_any x _ _ wx (HX.out.kept k) hr)
  have HBY := hid (fun (hr : rightI x = true) => bytesI_bytes hr HX.out.key HX.out.val.1)
  have HBL : Hid (rightI x = true → (bytesI x).length ≤ 2000) := hid (fun hr => by have h := bytesX_len x; unfold bytesX at h; rw [if_pos hr] at h; exact h)
  have HMK : Hid (mkV x = .agg (mkL x).toArray) := hid rfl
  have HML : Hid (mkL x = if rightI x then markCells (markA (bytesI x)) (markB (bytesI x)) 8 else [.int .u8 0, .int .u8 0, .int .u8 0, .int .u8 0, .int .u8 0, .int .u8 0, .int .u8 0, .int .u8 0, .int .u8 0, .int .u8 0, .int .u8 0, .int .u8 0, .int .u8 0, .int .u8 0, .int .u8 0, .int .u8 0]) := hid rfl
  obtain ⟨R, hR⟩ : ∃ b, rightI x = b := ⟨_, rfl⟩
  obtain ⟨MV, hMV⟩ : ∃ m, mkV x = m := ⟨_, rfl⟩
  rw [hR] at HML CR HBL HBY CB
  rw [hMV] at HMK ⊢
  obtain ⟨ML, hML⟩ : ∃ m, mkL x = m := ⟨_, rfl⟩
  have HM16 := hid (mkL_len x)
  have HM1 := hid (mkL_one x)
  rw [hML] at HMK HML HM16 HM1
  clear h hR hMV hML
  obtain ⟨BI, hBI⟩ : ∃ b, bytesI x = b := ⟨_, rfl⟩
  rw [hBI] at HML HBL HBY CB
  clear hBI HX
  obtain ⟨key, dn, dd, past, gn, val⟩ := x
  unfold itVq itV at *
  dsimp only at *
  obtain ⟨nP, hnP⟩ : ∃ n, past.length = n := ⟨_, rfl⟩
  obtain ⟨nV, hnV⟩ : ∃ n, val.length = n := ⟨_, rfl⟩
  obtain ⟨sk, hsk⟩ : ∃ s, st key = s := ⟨_, rfl⟩
  simp only [hnP, hnV, hsk] at hW B1 CR CB ⊢
  clear hnP hnV hsk
  go_enter Tryz.func19, Tryz.ntmps19
  go_upto_region 1 with fail
  try rw [hN]
  try simp only [World.size_alloc, hN]
  rw [← hW]
  clear hW hN
  go_wp2_with (first
    | (refine wpList_load_mid (by rfl) 28 (.tmp 1) (by rfl) N 0 (by rfl) (itL sk dn dd (.slice pp nP dp) gn (.slice pv nV dv)) _ (range_ofR B1.out) under_item.choose_spec rfl item_info ?_))
  refine (CR.out W (Kp.refl _ _)).mono ?_
  rintro r w1 ⟨rfl, k1⟩
  have B11 := hid (B1.out.kept k1 (fun h => h))
  have B21 := hid (B2.out.kept k1 (fun h => h))
  have K1 := hid (K0.out.trans k1 (fun _ _ h => h))
  have KW1 := hid k1
  clear k1 CR B1 B2
  cases R with
  | false =>
    have TH : Hid (w1.there (N + 1) 0 (([.int .u8 0, .int .u8 0, .int .u8 0, .int .u8 0, .int .u8 0, .int .u8 0, .int .u8 0, .int .u8 0, .int .u8 0, .int .u8 0, .int .u8 0, .int .u8 0, .int .u8 0, .int .u8 0, .int .u8 0, .int .u8 0] : List Value)).toArray.size) := hid (B21.out.there 0 16 (by simp))
    have HW := hid (row_set (vs := [.int .u8 0, .int .u8 0, .int .u8 0, .int .u8 0, .int .u8 0, .int .u8 0, .int .u8 0, .int .u8 0, .int .u8 0, .int .u8 0, .int .u8 0, .int .u8 0, .int .u8 0, .int .u8 0, .int .u8 0, .int .u8 0]) (cs := [.int .u8 0, .int .u8 0, .int .u8 0, .int .u8 0, .int .u8 0, .int .u8 0, .int .u8 0, .int .u8 0, .int .u8 0, .int .u8 0, .int .u8 0, .int .u8 0, .int .u8 0, .int .u8 0, .int .u8 0, .int .u8 0]) B21.out rfl)
    have HKW : Hid (Kp Nb w (w1.setCells (N + 1) 0 [.int .u8 0, .int .u8 0, .int .u8 0, .int .u8 0, .int .u8 0, .int .u8 0, .int .u8 0, .int .u8 0, .int .u8 0, .int .u8 0, .int .u8 0, .int .u8 0, .int .u8 0, .int .u8 0, .int .u8 0, .int .u8 0])) := hid (K1.out.trans (Kp.setCells (S := Jb (N + 1)) (B := N + 1) (fun _ => show N + 1 = N + 1 from rfl) _ 0 _ (Kp.refl _ _)) (fun i hi h => by have h' : i = N + 1 := h; have := HNW.out; omega))
    go_wp2_with (first
      | (refine wpList_store_mid (by rfl) 30 (.tmp 2) (.tmp 6) (by rfl) (N + 1) 0 (([.int .u8 0, .int .u8 0, .int .u8 0, .int .u8 0, .int .u8 0, .int .u8 0, .int .u8 0, .int .u8 0, .int .u8 0, .int .u8 0, .int .u8 0, .int .u8 0, .int .u8 0, .int .u8 0, .int .u8 0, .int .u8 0] : List Value)).toArray (by rfl) (by rfl) TH.out mark_infoK m0_one ?_))
    refine bodyPost_ret (results_cellI rfl _ (N + 1) (by rfl) _ (row_loadVar Tryz.underlying30 rfl (mark_infoK.trans rfl) HW.out 0 (fun j _ => by rw [Nat.zero_add]))) rfl ⟨?_, HKW.out⟩
    rw [HMK.out, HML.out]
    rfl
  | true =>
    go_wp2_with (first
      | (refine wpList_load_mid (by rfl) 28 (.tmp 1) (by rfl) N 0 (by rfl) (itL sk dn dd (.slice pp nP dp) gn (.slice pv nV dv)) _ (range_ofR B11.out) under_item.choose_spec rfl item_info ?_))
    refine (CB.out (by trivial) w1 KW1.out).mono ?_
    rintro r w2 ⟨rfl, k2⟩
    have B22 := hid (B21.out.kept k2 (fun h => h))
    have K2 := hid (K1.out.trans k2 (fun _ _ h => h))
    clear k2 CB KW1 B11 B21
    have CM := hid (ref_mark BI w2 (HBY.out (by trivial)) (by have := HBL.out (by trivial); omega))
    go_wp2_with fail
    refine CM.out.mono ?_
    rintro r w4 ⟨rfl, k4⟩
    have B24 := hid (B22.out.kept k4 (fun h => h))
    have K4 := hid (K2.out.trans k4 (fun _ _ h => h))
    have HMQ : Hid (markVal (markA BI) (markB BI) = .agg ML.toArray) := hid (by
      rw [HML.out, if_pos (by trivial)]
      rfl)
    rw [HMQ.out]
    clear k4 CM HBY B22 K2
    have TH : Hid (w4.there (N + 1) 0 ML.toArray.size) := hid (B24.out.there 0 ML.toArray.size (by rw [List.size_toArray, HM16.out]; simp))
    have HW := hid (row_set (vs := [.int .u8 0, .int .u8 0, .int .u8 0, .int .u8 0, .int .u8 0, .int .u8 0, .int .u8 0, .int .u8 0, .int .u8 0, .int .u8 0, .int .u8 0, .int .u8 0, .int .u8 0, .int .u8 0, .int .u8 0, .int .u8 0]) (cs := ML) B24.out (by rw [HM16.out]; rfl))
    have HKW : Hid (Kp Nb w (w4.setCells (N + 1) 0 ML)) := hid (K4.out.trans (Kp.setCells (S := Jb (N + 1)) (B := N + 1) (fun _ => show N + 1 = N + 1 from rfl) _ 0 _ (Kp.refl _ _)) (fun i hi h => by have h' : i = N + 1 := h; have := HNW.out; omega))
    have HSI : Hid ((Tryz.prog.info? 30).map (·.size) = some ML.toArray.size) := hid (by rw [List.size_toArray, HM16.out]; exact mark_infoK)
    have HSL : Hid ((Tryz.prog.info? 30).map (·.size) = some ML.length) := hid (by rw [HM16.out]; exact mark_infoK)
    go_wp2_with (first
      | (refine wpList_store_mid (by rfl) 30 (.tmp 2) (.tmp 9) (by rfl) (N + 1) 0 ML.toArray (by rfl) (by rfl) TH.out HSI.out HM1.out ?_))
    refine bodyPost_ret (results_cellI rfl _ (N + 1) (by rfl) _ (row_loadVar Tryz.underlying30 rfl HSL.out HW.out 0 (fun j _ => by rw [Nat.zero_add]))) rfl ⟨?_, HKW.out⟩
    rw [HMK.out]
end
section
open Go.RowKit
def hexd (n : Nat) : UInt8 := if n < 10 then UInt8.ofNat (48 + n) else UInt8.ofNat (87 + n)
def hexB (b : Int) : List UInt8 := [hexd (b.toNat / 16), hexd (b.toNat % 16)]
def hexL (zs : List Int) : List UInt8 := zs.flatMap hexB
def hexW (zs : List Int) : List UInt8 := if zs.length = 0 then [46] else hexL zs
def unhd (c : UInt8) : Option Nat := if 48 ≤ c.toNat ∧ c.toNat ≤ 57 then some (c.toNat - 48) else if 97 ≤ c.toNat ∧ c.toNat ≤ 102 then some (c.toNat - 87) else none
def unhL : List UInt8 → Option (List Int)
  | [] => some []
  | [_] => none
  | a :: b :: r => (unhd a).bind fun x => (unhd b).bind fun y => (unhL r).map fun l => ((x * 16 + y : Nat) : Int) :: l
theorem unhd_hexd : ∀ n, n < 16 → unhd (hexd n) = some n := by decide
theorem hexd_unhd {c : UInt8} {n : Nat} (h : unhd c = some n) : n < 16 ∧ hexd n = c := by
  unfold unhd at h
  split at h
  · injection h with h
    refine ⟨by omega, ?_⟩
    unfold hexd
    rw [if_pos (by omega)]
    apply UInt8.toNat_inj.1
    rw [UInt8.toNat_ofNat']
    omega
  · split at h
    · injection h with h
      refine ⟨by omega, ?_⟩
      unfold hexd
      rw [if_neg (by omega)]
      apply UInt8.toNat_inj.1
      rw [UInt8.toNat_ofNat']
      omega
    · cases h
theorem isb_cons {z : Int} {zs : List Int} (h0 : 0 ≤ z ∧ z < 256) (h : IsBytes zs) : IsBytes (z :: zs) := fun i => by
  cases i with
  | zero => exact h0
  | succ i => exact h i
theorem isb_nil : IsBytes [] := fun i => by simp
theorem hexL_cons (z : Int) (zs : List Int) : hexL (z :: zs) = hexd (z.toNat / 16) :: hexd (z.toNat % 16) :: hexL zs := rfl
theorem hexL_len (zs : List Int) : (hexL zs).length = 2 * zs.length := by
  induction zs with
  | nil => rfl
  | cons z zs ih => rw [hexL_cons, List.length_cons, List.length_cons, List.length_cons, ih]; omega
theorem unh_hex : ∀ zs, IsBytes zs → unhL (hexL zs) = some zs
  | [], _ => rfl
  | z :: zs, h => by
    have hz := h.head
    rw [hexL_cons]
    unfold unhL
    rw [unhd_hexd _ (by omega), unhd_hexd _ (by omega), unh_hex zs h.tail]
    simp only [Option.bind_some, Option.map_some]
    congr 2
    omega
theorem hex_unh : ∀ s zs, unhL s = some zs → IsBytes zs ∧ hexL zs = s
  | [], zs, h => by
    simp only [unhL, Option.some.injEq] at h
    subst h
    exact ⟨isb_nil, rfl⟩
  | [_], zs, h => by simp [unhL] at h
  | a :: b :: r, zs, h => by
    unfold unhL at h
    cases ha : unhd a with
    | none => rw [ha] at h; cases h
    | some x =>
      cases hb : unhd b with
      | none => rw [ha, hb] at h; cases h
      | some y =>
        cases hr : unhL r with
        | none => rw [ha, hb, hr] at h; cases h
        | some l =>
          rw [ha, hb, hr] at h
          simp only [Option.bind_some, Option.map_some, Option.some.injEq] at h
          subst h
          obtain ⟨h1, h2⟩ := hexd_unhd ha
          obtain ⟨h3, h4⟩ := hexd_unhd hb
          obtain ⟨h5, h6⟩ := hex_unh r l hr
          refine ⟨isb_cons ⟨by omega, by omega⟩ h5, ?_⟩
          rw [hexL_cons, h6, Int.toNat_natCast, show (x * 16 + y) / 16 = x by omega, show (x * 16 + y) % 16 = y by omega, h2, h4]
theorem hexd_no : ∀ n, n < 16 → hexd n ≠ 32 ∧ hexd n ≠ 46 ∧ hexd n ≠ 103 := by decide
theorem hexL_mem {zs : List Int} (h : IsBytes zs) {c : UInt8} (hc : c ∈ hexL zs) : c ≠ 32 ∧ c ≠ 46 ∧ c ≠ 103 := by
  induction zs with
  | nil => cases hc
  | cons z zs ih =>
    have hz := h.head
    rw [hexL_cons] at hc
    rcases List.mem_cons.1 hc with rfl | hc
    · exact hexd_no _ (by omega)
    · rcases List.mem_cons.1 hc with rfl | hc
      · exact hexd_no _ (by omega)
      · exact ih h.tail hc
/-- An item's text. -/
def valT (x : ItQ) : List UInt8 := if x.gone then [103, 111, 110, 101] else hexW x.val
def pastT (x : ItQ) : List UInt8 := 91 :: (textC x.past ++ [93])
def textIt (x : ItQ) : List UInt8 := hexL x.key ++ 32 :: (textR (x.dn, x.dd, x.dd) ++ 32 :: (pastT x ++ 32 :: valT x))
def textI (x : ItQ) : List UInt8 := if rightI x then textIt x else []
/-- A text is a right item's. -/
structure IsTx (s : List UInt8) (x : ItQ) : Prop where
  right : rightI x = true
  key : IsBytes x.key
  val : IsBytes x.val
  text : textIt x = s
theorem valT_no {x : ItQ} (h : IsBytes x.val) : (32 : UInt8) ∉ valT x := by
  unfold valT hexW
  split
  · decide
  · split
    · decide
    · exact fun hm => (hexL_mem h hm).1 rfl
theorem dot_good {x : ItQ} (h : rightI x = true) : goodR (x.dn, x.dd, x.dd) = true := by
  obtain ⟨-, h2, -⟩ := rightI_facts h
  exact goodR_of.2 (by dsimp only; omega)
theorem textC_one {r : RunQ} (h : goodR r = true) : rightC [r] = true ∧ textC [r] = textR r := by
  have hr : rightC [r] = true := by
    unfold rightC
    simp_all
    exact h
  refine ⟨hr, ?_⟩
  unfold textC
  rw [if_pos hr, if_neg (by simp), List.map_cons, List.map_nil, join_one]
theorem fold_pre (c : UInt8) : ∀ (s : List UInt8) (L : List (List UInt8)) (u : List UInt8), (s.foldl (splF c) (L, u)).1 = L ++ (s.foldl (splF c) ([], u)).1 ∧ (s.foldl (splF c) (L, u)).2 = (s.foldl (splF c) ([], u)).2
  | [], L, u => by simp
  | b :: s, L, u => by
    rw [List.foldl_cons, List.foldl_cons]
    unfold splF
    dsimp only
    split
    · have h1 := fold_pre c s (L ++ [u]) []
      have h2 := fold_pre c s ([] ++ [u]) []
      unfold splF at h1 h2
      rw [h1.1, h1.2, h2.1, h2.2]
      simp
    · exact fold_pre c s L (u ++ [b])
theorem spl_app (c : UInt8) (a b : List UInt8) : splL c (a ++ c :: b) = splL c a ++ splL c b := by
  unfold splL splS
  rw [List.foldl_append, List.foldl_cons]
  have e : splF c (a.foldl (splF c) ([], [])) c = ((a.foldl (splF c) ([], [])).1 ++ [(a.foldl (splF c) ([], [])).2], []) := by unfold splF; rw [if_pos rfl]
  rw [e, (fold_pre c b _ []).1, (fold_pre c b _ []).2]
  simp
theorem spl_noV {c : UInt8} {x : List UInt8} (h : c ∉ x) : splL c x = [x] := by
  have := spl_of c x [] (fun y hy => by rw [List.mem_singleton.1 hy]; exact h)
  rw [join_one] at this
  exact this
theorem textR_32 {r : RunQ} (h : goodR r = true) : (32 : UInt8) ∉ textR r := textR_no r h 32 (by decide) (by decide) (by decide)
theorem tx_split {s : List UInt8} {x : ItQ} (h : IsTx s x) : splL 32 s = hexL x.key :: textR (x.dn, x.dd, x.dd) :: (splL 32 (pastT x) ++ [valT x]) := by
  rw [← h.text]
  unfold textIt
  rw [spl_app, spl_noV (fun hm => (hexL_mem h.key hm).1 rfl), spl_app, spl_noV (textR_32 (dot_good h.right)), spl_app, spl_noV (valT_no h.val)]
  rfl
theorem tx_uniq {s : List UInt8} {x y : ItQ} (h : IsTx s x) (g : IsTx s y) : x = y := by
  have e := (tx_split h).symm.trans (tx_split g)
  injection e with e1 e
  injection e with e2 e
  have hl : ([valT x] : List (List UInt8)).length = [valT y].length := rfl
  obtain ⟨e3, e4⟩ := List.append_inj' e hl
  injection e4 with e4
  have ek : x.key = y.key := by
    have a := unh_hex _ h.key
    rw [e1, unh_hex _ g.key] at a
    injection a with a
    exact a.symm
  have ed : (x.dn, x.dd, x.dd) = (y.dn, y.dd, y.dd) := by
    have a := prsR_of _ (dot_good h.right)
    rw [e2, prsR_of _ (dot_good g.right)] at a
    injection a with a
    exact a.symm
  have ep : x.past = y.past := by
    have a := congrArg (fun l => Lib.join l [32]) e3
    simp only [spl_join] at a
    unfold pastT at a
    injection a with _ a
    have a2 := (List.append_inj' a rfl).1
    have hx := (parT_iff _ _).2 ⟨(rightI_facts h.right).2.2.2.1, rfl⟩
    rw [a2, (parT_iff _ _).2 ⟨(rightI_facts g.right).2.2.2.1, rfl⟩] at hx
    injection hx with hx
    exact hx.symm
  have nv : ∀ {zs : List Int}, IsBytes zs → hexW zs ≠ [103, 111, 110, 101] := fun {zs} hz e => by
    unfold hexW at e
    split at e
    · exact absurd e (by decide)
    · exact (hexL_mem hz (c := 103) (by rw [e]; simp)).2.2 rfl
  have eg : x.gone = y.gone ∧ x.val = y.val := by
    unfold valT at e4
    have hx := (rightI_facts h.right).2.2.2.2.2.2
    have hy := (rightI_facts g.right).2.2.2.2.2.2
    cases gx : x.gone <;> cases gy : y.gone <;> rw [gx, gy] at e4 <;> simp only [Bool.false_eq_true, if_true, if_false] at e4
    · refine ⟨rfl, ?_⟩
      unfold hexW at e4
      split at e4
      · rename_i h0
        split at e4
        · rename_i h1
          rw [List.length_eq_zero_iff.1 h0, List.length_eq_zero_iff.1 h1]
        · exact absurd rfl (hexL_mem g.val (c := 46) (by rw [← e4]; simp)).2.1
      · split at e4
        · exact absurd rfl (hexL_mem h.val (c := 46) (by rw [e4]; simp)).2.1
        · have a := unh_hex _ h.val
          rw [e4, unh_hex _ g.val] at a
          injection a with a
          exact a.symm
    · exact (nv h.val e4).elim
    · exact (nv g.val e4.symm).elim
    · exact ⟨rfl, by rw [hx gx, hy gy]⟩
  injection ed with ed1 ed
  injection ed with ed2 _
  obtain ⟨a, b, c, d, f, i⟩ := x
  obtain ⟨a', b', c', d', f', i'⟩ := y
  dsimp only at *
  rw [ek, ed1, ed2, ep, eg.1, eg.2]
/-- Which item a text is. -/
noncomputable def parI (s : List UInt8) : Option ItQ := open Classical in if h : ∃ x, IsTx s x then some h.choose else none
theorem parI_iff (s : List UInt8) (x : ItQ) : parI s = some x ↔ IsTx s x := by
  unfold parI
  constructor
  · intro h
    split at h
    · rename_i he
      injection h with h
      rw [← h]
      exact he.choose_spec
    · cases h
  · intro h
    have he : ∃ x, IsTx s x := ⟨x, h⟩
    rw [dif_pos he]
    exact congrArg some (tx_uniq he.choose_spec h)
theorem parI_none (s : List UInt8) (h : ∀ x, ¬ IsTx s x) : parI s = none := by
  cases hp : parI s with
  | none => rfl
  | some x => exact (h x ((parI_iff s x).1 hp)).elim
theorem index_two (c d : UInt8) (b : List UInt8) : ∀ a : List UInt8, c ∉ a → Lib.index (a ++ c :: d :: b) [c, d] = (a.length : Int)
  | [], _ => by
    show Lib.index (c :: d :: b) [c, d] = 0
    unfold Lib.index
    rw [if_pos (by simp [List.isPrefixOf])]
  | x :: a, h => by
    have ih := index_two c d b a (fun hm => h (by simp [hm]))
    have hx : (c == x) = false := by rw [beq_eq_false_iff_ne]; intro e; exact h (by simp [e])
    rw [List.cons_append]
    unfold Lib.index
    rw [ih]
    have h2 : ((a.length : Int) == -1) = false := by rw [beq_eq_false_iff_ne]; omega
    rw [h2, List.length_cons]
    simp [List.isPrefixOf, hx]
theorem cut_two (a b : List UInt8) (c d : UInt8) (h : c ∉ a) : Lib.cut (a ++ c :: d :: b) [c, d] = (a, b, true) := by
  have e := index_two c d b a h
  unfold Lib.cut
  rw [e, if_pos (by omega), Int.toNat_natCast]
  have e1 : (a ++ c :: d :: b).take a.length = a := List.take_left' rfl
  have e2 : (a ++ c :: d :: b).drop (a.length + [c, d].length) = b := by
    rw [show a ++ c :: d :: b = (a ++ [c, d]) ++ b by simp, List.drop_left']
    rw [List.length_append]
  rw [e1, e2]
theorem textC_93 {c : List RunQ} (h : rightC c = true) : (93 : UInt8) ∉ textC c := by
  unfold textC
  rw [if_pos h]
  split
  · decide
  · have hg := right_good h
    revert hg
    clear h
    have key : ∀ xs : List RunQ, (∀ r ∈ xs, goodR r = true) → (93 : UInt8) ∉ Lib.joinTail [32] (xs.map textR) := by
      intro xs
      induction xs with
      | nil => intro _; simp [Lib.joinTail]
      | cons x xs ih =>
        intro hg hm
        have e : Lib.joinTail [32] ((x :: xs).map textR) = [32] ++ (textR x ++ Lib.joinTail [32] (xs.map textR)) := by rw [List.map_cons]; simp [Lib.joinTail]
        rw [e] at hm
        rcases List.mem_append.1 hm with hm | hm
        · exact absurd hm (by decide)
        · rcases List.mem_append.1 hm with hm | hm
          · exact textR_no x (hg x (by simp)) 93 (by decide) (by decide) (by decide) hm
          · exact ih (fun r hr => hg r (by simp [hr])) hm
    cases c with
    | nil => intro _; simp [Lib.join]
    | cons q c =>
      intro hg hm
      rw [List.map_cons, Lib.join_cons] at hm
      rcases List.mem_append.1 hm with hm | hm
      · exact textR_no q (hg q (by simp)) 93 (by decide) (by decide) (by decide) hm
      · exact key c (fun r hr => hg r (by simp [hr])) hm
def restA (x : ItQ) : List UInt8 := textR (x.dn, x.dd, x.dd) ++ 32 :: 91 :: (textC x.past ++ 93 :: 32 :: valT x)
def restB (x : ItQ) : List UInt8 := textC x.past ++ 93 :: 32 :: valT x
theorem tx_cuts {s : List UInt8} {x : ItQ} (h : IsTx s x) : Lib.cut s [32] = (hexL x.key, restA x, true) ∧ Lib.cut (restA x) [32, 91] = (textR (x.dn, x.dd, x.dd), restB x, true) ∧ Lib.cut (restB x) [93, 32] = (textC x.past, valT x, true) := by
  refine ⟨?_, cut_two _ _ _ _ (textR_32 (dot_good h.right)), cut_two _ _ _ _ (textC_93 (rightI_facts h.right).2.2.2.1)⟩
  have e : s = hexL x.key ++ [32] ++ restA x := by rw [← h.text]; unfold textIt restA pastT; simp
  rw [e]
  exact cut_hit _ _ _ (fun hm => (hexL_mem h.key hm).1 rfl)
end
section
open Go.RowKit
theorem isB_append {xs ys : List Int} (h : IsBytes xs) (g : IsBytes ys) : IsBytes (xs ++ ys) := by
  intro i
  by_cases hi : i < xs.length
  · rw [List.getElem?_append_left hi]; exact h i
  · rw [List.getElem?_append_right (by omega)]; exact g _
theorem bytesR_isB {q : RunQ} (h : goodR q = true) : IsBytes (bytesR q) := by
  have g := goodR_of.1 h
  unfold bytesR
  exact isB_append (isB_append (numBytes_bytes _ (by omega) (by omega)) (numBytes_bytes _ (by omega) (by omega))) (numBytes_bytes _ (by omega) (by omega))
theorem runsB_isB : ∀ {c : List RunQ}, (∀ r ∈ c, goodR r = true) → IsBytes (runsB c)
  | [], _ => fun i => by simp [runsB]
  | x :: c, h => by
    have e : runsB (x :: c) = bytesR x ++ runsB c := rfl
    rw [e]
    exact isB_append (bytesR_isB (h x (by simp))) (runsB_isB fun r hr => h r (by simp [hr]))
theorem rd_back {q : RunQ} (h : goodR q = true) (rest : List Int) (hr : IsBytes rest) :
    rdA (bytesR q ++ rest) 0 = (q.1, numBytes q.2.1 ++ (numBytes (q.2.2 - q.2.1) ++ rest), 0) ∧ rdB (bytesR q ++ rest) 0 = (q.2.1, numBytes (q.2.2 - q.2.1) ++ rest, 0) ∧ rdC (bytesR q ++ rest) 0 = (q.2.2 - q.2.1, rest, 0) := by
  have g := goodR_of.1 h
  have b2 := isB_append (numBytes_bytes (q.2.2 - q.2.1) (by omega) (by omega)) hr
  have b1 := isB_append (numBytes_bytes q.2.1 (by omega) (by omega)) b2
  have e1 : rdA (bytesR q ++ rest) 0 = (q.1, numBytes q.2.1 ++ (numBytes (q.2.2 - q.2.1) ++ rest), 0) := by
    unfold rdA bytesR
    rw [List.append_assoc, List.append_assoc]
    exact readN_numBytes _ _ (by omega) (by omega) (by omega) _ b1
  have e2 : rdB (bytesR q ++ rest) 0 = (q.2.1, numBytes (q.2.2 - q.2.1) ++ rest, 0) := by
    unfold rdB
    rw [e1]
    exact readN_numBytes _ _ (by omega) (by omega) (by omega) _ b2
  refine ⟨e1, e2, ?_⟩
  unfold rdC
  rw [e2]
  exact readN_numBytes _ _ (by omega) (by omega) (by omega) _ hr
theorem getLC_back : ∀ (c acc : List RunQ) (rest : List Int), (∀ r ∈ c, goodR r = true) → IsBytes rest → getLC c.length (runsB c ++ rest) 0 acc = (some (acc ++ c), rest, 0)
  | [], acc, rest, _, _ => by rw [List.append_nil]; rfl
  | x :: c, acc, rest, h, hr => by
    have hx := h x (by simp)
    have hc : ∀ r ∈ c, goodR r = true := fun r hr => h r (by simp [hr])
    obtain ⟨e1, e2, e3⟩ := rd_back hx (runsB c ++ rest) (isB_append (runsB_isB hc) hr)
    have e : runsB (x :: c) ++ rest = bytesR x ++ (runsB c ++ rest) := by show bytesR x ++ runsB c ++ rest = _; rw [List.append_assoc]
    rw [e, List.length_cons]
    unfold getLC
    rw [e1, e2, e3, if_neg (by simp)]
    have ex : ((x.1, x.2.1, x.2.1 + (x.2.2 - x.2.1)) : RunQ) = x := by
      obtain ⟨a, b, c⟩ := x
      show (a, b, b + (c - b)) = (a, b, c)
      rw [show b + (c - b) = c by omega]
    show getLC c.length (runsB c ++ rest) 0 (acc ++ [(x.1, x.2.1, x.2.1 + (x.2.2 - x.2.1))]) = _
    rw [ex, getLC_back c _ rest hc hr]
    simp
theorem bytesC_isB {c : List RunQ} (h : rightC c = true) (hl : c.length ≤ 1024) : IsBytes (bytesC c) := by
  unfold bytesC
  exact isB_append (numBytes_bytes _ (by omega) (by omega)) (runsB_isB (rightC_rt.1 h).1)
end
section
open Go.RowKit
/-- Which list of bytes stands ahead. -/
def lexI : List Int → List Int → Bool
  | _, [] => false
  | [], _ :: _ => true
  | a :: x, b :: y => decide (a < b) || (a == b && lexI x y)
theorem byte_lt (a b : Int) (ha : 0 ≤ a ∧ a < 256) (hb : 0 ≤ b ∧ b < 256) : (UInt8.ofNat a.toNat < UInt8.ofNat b.toNat) ↔ a < b := by
  rw [UInt8.lt_iff_toNat_lt, UInt8.toNat_ofNat', UInt8.toNat_ofNat']
  omega
theorem lex_st : ∀ (xs ys : List Int), IsBytes xs → IsBytes ys → Op.bytesLess (xs.map fun z => UInt8.ofNat z.toNat) (ys.map fun z => UInt8.ofNat z.toNat) = lexI xs ys
  | [], [], _, _ => rfl
  | [], _ :: _, _, _ => rfl
  | _ :: _, [], _, _ => rfl
  | a :: x, b :: y, hx, hy => by
    have ih := lex_st x y hx.tail hy.tail
    have e1 := byte_lt a b hx.head hy.head
    have e2 := byte_eq a b hx.head hy.head
    show (decide (UInt8.ofNat a.toNat < UInt8.ofNat b.toNat) || (UInt8.ofNat a.toNat == UInt8.ofNat b.toNat && Op.bytesLess _ _)) = (decide (a < b) || (a == b && lexI x y))
    rw [ih, decide_eq_decide.2 e1]
    congr 2
    rw [Bool.eq_iff_iff, beq_iff_eq, beq_iff_eq]
    exact e2
theorem st_lt (xs ys : List Int) (hx : IsBytes xs) (hy : IsBytes ys) : Op.bytesLess (st xs).toList (st ys).toList = lexI xs ys := by rw [st_list, st_list]; exact lex_st xs ys hx hy
theorem lexI_irr : ∀ (x : List Int), lexI x x = false
  | [] => rfl
  | a :: x => by simp [lexI, lexI_irr x]
theorem lexI_tri : ∀ (x y : List Int), lexI x y = false → lexI y x = false → x = y
  | [], [], _, _ => rfl
  | [], _ :: _, h, _ => by simp [lexI] at h
  | _ :: _, [], _, h => by simp [lexI] at h
  | a :: x, b :: y, h1, h2 => by
    simp only [lexI, Bool.or_eq_false_iff, decide_eq_false_iff_not, Bool.and_eq_false_iff, beq_eq_false_iff_ne] at h1 h2
    have e : a = b := by omega
    subst e
    rw [lexI_tri x y (h1.2.resolve_left fun h => h rfl) (h2.2.resolve_left fun h => h rfl)]
def cmpM (x y : List Int) : Int := if lexI x y then -1 else if lexI y x then 1 else 0
def cmpZ (a b : Int) : Int := if a < b then -1 else if b < a then 1 else 0
def keyI (x y : ItQ) : Int := if cmpM x.key y.key ≠ 0 then cmpM x.key y.key else if cmpZ x.dn y.dn ≠ 0 then cmpZ x.dn y.dn else cmpZ x.dd y.dd
/-- Which item stands ahead. -/
def cmpI (x y : ItQ) : Int := if !rightI x || !rightI y then 0 else if keyI x y ≠ 0 ∨ sameI x y = true then keyI x y else cmpM (bytesX x) (bytesX y)
/-- The document's own answer. -/
def rcmpI (x y : ItQ) : Int :=
  if lexI x.key y.key = true ∨ (x.key = y.key ∧ (x.dn < y.dn ∨ (x.dn = y.dn ∧ (x.dd < y.dd ∨ (x.dd = y.dd ∧ lexI (bytesI x) (bytesI y) = true))))) then -1 else if bytesI x = bytesI y then 0 else 1
theorem getC_backR {c : List RunQ} (h : rightC c = true) (hl : c.length ≤ 1024) (rest : List Int) (hr : IsBytes rest) : getC (bytesC c ++ rest) 0 = (c, rest, 0) := by
  have hg := (rightC_rt.1 h).1
  have e1 : readN (bytesC c ++ rest) 0 1024 = ((c.length : Int), runsB c ++ rest, 0) := by
    unfold bytesC
    rw [List.append_assoc]
    exact readN_numBytes _ _ (by omega) (by omega) (by omega) _ (isB_append (runsB_isB hg) hr)
  have e2 := getLC_back c [] rest hg hr
  rw [List.nil_append] at e2
  unfold getC
  rw [e1]
  show finC (getLC ((c.length : Int)).toNat (runsB c ++ rest) 0 []) = _
  rw [Int.toNat_natCast, e2]
  show (if rightC c then (c, rest, (0 : Int)) else _) = _
  rw [if_pos h]
theorem textN_back (zs rest : List Int) (most : Int) (hz : IsBytes zs) (hr : IsBytes rest) (hm : (zs.length : Int) ≤ most) (hl : zs.length ≤ 1000) : textN (textB zs ++ rest) 0 most = (zs, rest, 0) := by
  have e : readN (textB zs ++ rest) 0 18446744073709551615 = ((zs.length : Int), zs ++ rest, 0) := by
    unfold textB
    rw [List.append_assoc]
    exact readN_numBytes _ _ (by omega) (by omega) (by omega) _ (isB_append hz hr)
  unfold textN
  rw [e]
  dsimp only
  rw [if_neg (by simp), if_neg (by omega)]
  unfold fixN
  rw [if_neg (by simp), if_neg (by omega), if_neg (by rw [List.length_append]; omega), Int.toNat_natCast]
  rw [List.take_left' rfl, List.drop_left' rfl]
/-- What is put is got. -/
theorem getI_back {x : ItQ} (h : rightI x = true) (hk : IsBytes x.key) (hv : IsBytes x.val) : getI (bytesI x) 0 = (x, [], 0) := by
  obtain ⟨h1, h2, h3, h4, h5, h6, h7⟩ := rightI_facts h
  have b5 : IsBytes (textB x.val) := isB_append (numBytes_bytes _ (by omega) (by omega)) hv
  obtain ⟨T, hT⟩ : ∃ T : List Int, T = (if x.gone then [1] else [0] ++ textB x.val) := ⟨_, rfl⟩
  have bT : IsBytes T := by
    rw [hT]
    split
    · exact isb_cons (by decide) isb_nil
    · exact isb_cons (by decide) b5
  have b4 := isB_append (bytesC_isB h4 (by omega)) bT
  have b3 := isB_append (numBytes_bytes x.dd (by omega) (by omega)) b4
  have b2 := isB_append (numBytes_bytes x.dn (by omega) (by omega)) b3
  have e0 : bytesI x = textB x.key ++ (numBytes x.dn ++ (numBytes x.dd ++ (bytesC x.past ++ T))) := by rw [hT]; unfold bytesI; simp only [List.append_assoc]
  have eK : gK (bytesI x) 0 = (x.key, numBytes x.dn ++ (numBytes x.dd ++ (bytesC x.past ++ T)), 0) := by
    unfold gK; rw [e0]; exact textN_back _ _ _ hk b2 (by omega) (by omega)
  have eA : gA (bytesI x) 0 = (x.dn, numBytes x.dd ++ (bytesC x.past ++ T), 0) := by
    unfold gA; rw [eK]; exact readN_numBytes _ _ (by omega) (by omega) (by omega) _ b3
  have eB : gB (bytesI x) 0 = (x.dd, bytesC x.past ++ T, 0) := by
    unfold gB; rw [eA]; exact readN_numBytes _ _ (by omega) (by omega) (by omega) _ b4
  have eP : gP (bytesI x) 0 = (x.past, T, 0) := by
    unfold gP; rw [eB]; exact getC_backR h4 (by omega) _ bT
  have hx : gX (bytesI x) 0 = x ∧ (gV1 (bytesI x) 0).2 = ([], 0) := by
    cases hg : x.gone with
    | true =>
      have eT : T = numBytes 1 ++ [] := by rw [hT, hg, num_one]; rfl
      have eG : gG (bytesI x) 0 = (1, [], 0) := by
        unfold gG; rw [eP, eT]; exact readN_numBytes _ _ (by omega) (by omega) (by omega) _ isb_nil
      have eV : gV1 (bytesI x) 0 = ([], [], 0) := by unfold gV1; rw [eG]; rfl
      refine ⟨?_, by rw [eV]⟩
      unfold gX
      rw [eK, eA, eB, eP, eG, eV]
      obtain ⟨a, b, c, d, f, i⟩ := x
      dsimp only at hg h7 ⊢
      rw [hg, h7 hg]
      rfl
    | false =>
      have eT : T = numBytes 0 ++ textB x.val := by rw [hT, hg, num_zero]; rfl
      have eG : gG (bytesI x) 0 = (0, textB x.val, 0) := by
        unfold gG; rw [eP, eT]; exact readN_numBytes _ _ (by omega) (by omega) (by omega) _ b5
      have eV : gV1 (bytesI x) 0 = (x.val, [], 0) := by
        unfold gV1
        rw [eG, if_neg (fun h : (0 : Int) = 1 => absurd h (by decide))]
        have := textN_back x.val [] 64 hv isb_nil (by omega) (by omega)
        rw [List.append_nil] at this
        exact this
      refine ⟨?_, by rw [eV]⟩
      unfold gX
      rw [eK, eA, eB, eP, eG, eV]
      obtain ⟨a, b, c, d, f, i⟩ := x
      dsimp only at hg ⊢
      rw [hg]
      rfl
  have e1 : (gV1 (bytesI x) 0).2.2 = 0 := by rw [hx.2]
  have e2 : (gV1 (bytesI x) 0).2.1 = [] := by rw [hx.2]
  unfold getI
  rw [hx.1, if_pos h, e1, e2, if_neg (by simp)]
theorem readI_back {x : ItQ} (h : rightI x = true) (hk : IsBytes x.key) (hv : IsBytes x.val) : readI (bytesI x) = (x, 0) := by
  unfold readI
  rw [getI_back h hk hv]
  rfl
theorem bytesI_inj {x y : ItQ} (hx : rightI x = true) (kx : IsBytes x.key) (vx : IsBytes x.val) (hy : rightI y = true) (ky : IsBytes y.key) (vy : IsBytes y.val) (h : bytesI x = bytesI y) : x = y := by
  have e1 := getI_back hx kx vx
  rw [h, getI_back hy ky vy] at e1
  injection e1 with e1
  exact e1.symm
theorem sameI_iff (x y : ItQ) : sameI x y = true ↔ x = y := by
  unfold sameI
  obtain ⟨a, b, c, d, f, i⟩ := x
  obtain ⟨a', b', c', d', f', i'⟩ := y
  simp only [Bool.and_eq_true, decide_eq_true_eq, Prod.mk.injEq, beq_iff_eq, ItQ.mk.injEq]
  constructor
  · rintro ⟨⟨⟨⟨rfl, rfl, rfl⟩, rfl⟩, rfl⟩, rfl⟩; exact ⟨rfl, rfl, rfl, rfl, rfl, rfl⟩
  · rintro ⟨rfl, rfl, rfl, rfl, rfl, rfl⟩; exact ⟨⟨⟨⟨rfl, rfl, rfl⟩, rfl⟩, rfl⟩, rfl⟩
/-- Ahead, of right items. -/
def ltI (x y : ItQ) : Bool := lexI x.key y.key || decide (x.key = y.key) && (decide (x.dn < y.dn) || decide (x.dn = y.dn) && (decide (x.dd < y.dd) || decide (x.dd = y.dd) && lexI (bytesI x) (bytesI y)))
theorem ltI_iff (x y : ItQ) : ltI x y = true ↔ (lexI x.key y.key = true ∨ (x.key = y.key ∧ (x.dn < y.dn ∨ (x.dn = y.dn ∧ (x.dd < y.dd ∨ (x.dd = y.dd ∧ lexI (bytesI x) (bytesI y) = true)))))) := by
  unfold ltI
  simp only [Bool.or_eq_true, Bool.and_eq_true, decide_eq_true_eq]
theorem cmpM_cases (a b : List Int) : (lexI a b = true ∧ cmpM a b = -1) ∨ (lexI b a = true ∧ lexI a b = false ∧ cmpM a b = 1) ∨ (a = b ∧ cmpM a b = 0) := by
  unfold cmpM
  cases h1 : lexI a b with
  | true => exact .inl ⟨rfl, rfl⟩
  | false =>
    cases h2 : lexI b a with
    | true => exact .inr (.inl ⟨rfl, rfl, rfl⟩)
    | false => exact .inr (.inr ⟨lexI_tri a b h1 h2, rfl⟩)
theorem ltI_irr (x : ItQ) : ltI x x = false := by
  cases h : ltI x x with
  | false => rfl
  | true =>
    have := (ltI_iff x x).1 h
    rw [lexI_irr, lexI_irr] at this
    simp at this
theorem ltI_tri {x y : ItQ} (hx : rightI x = true) (kx : IsBytes x.key) (vx : IsBytes x.val) (hy : rightI y = true) (ky : IsBytes y.key) (vy : IsBytes y.val) (h : ltI x y = false) (g : ltI y x = false) : x = y := by
  have h' := fun c => Bool.false_ne_true (h.symm.trans ((ltI_iff x y).2 c))
  have g' := fun c => Bool.false_ne_true (g.symm.trans ((ltI_iff y x).2 c))
  have ek : x.key = y.key := by
    refine lexI_tri _ _ ?_ ?_
    · exact Bool.eq_false_iff.2 (fun c => h' (.inl c))
    · exact Bool.eq_false_iff.2 (fun c => g' (.inl c))
  have en : x.dn = y.dn := by
    have a : ¬ x.dn < y.dn := fun c => h' (.inr ⟨ek, .inl c⟩)
    have b : ¬ y.dn < x.dn := fun c => g' (.inr ⟨ek.symm, .inl c⟩)
    omega
  have ed : x.dd = y.dd := by
    have a : ¬ x.dd < y.dd := fun c => h' (.inr ⟨ek, .inr ⟨en, .inl c⟩⟩)
    have b : ¬ y.dd < x.dd := fun c => g' (.inr ⟨ek.symm, .inr ⟨en.symm, .inl c⟩⟩)
    omega
  refine bytesI_inj hx kx vx hy ky vy (lexI_tri _ _ ?_ ?_)
  · exact Bool.eq_false_iff.2 (fun c => h' (.inr ⟨ek, .inr ⟨en, .inr ⟨ed, c⟩⟩⟩))
  · exact Bool.eq_false_iff.2 (fun c => g' (.inr ⟨ek.symm, .inr ⟨en.symm, .inr ⟨ed.symm, c⟩⟩⟩))
theorem cmpI_lt {x y : ItQ} (hx : rightI x = true) (kx : IsBytes x.key) (vx : IsBytes x.val) (hy : rightI y = true) (ky : IsBytes y.key) (vy : IsBytes y.val) : cmpI x y = if ltI x y then -1 else if ltI y x then 1 else 0 := by
  have hn : ¬ ((!rightI x || !rightI y) = true) := by rw [hx, hy]; decide
  unfold cmpI
  rw [if_neg hn]
  by_cases hs : sameI x y = true
  · have e := (sameI_iff x y).1 hs
    subst e
    rw [if_pos (.inr hs), ltI_irr]
    have e1 : cmpM x.key x.key = 0 := by unfold cmpM; rw [lexI_irr]; rfl
    have e2 : cmpZ x.dn x.dn = 0 := by unfold cmpZ; rw [if_neg (by omega), if_neg (by omega)]
    have e3 : cmpZ x.dd x.dd = 0 := by unfold cmpZ; rw [if_neg (by omega), if_neg (by omega)]
    unfold keyI
    rw [e1, e2, e3]
    rfl
  · have hne : x ≠ y := fun e => hs ((sameI_iff x y).2 e)
    have hb : bytesI x ≠ bytesI y := fun e => hne (bytesI_inj hx kx vx hy ky vy e)
    have ex : bytesX x = bytesI x := by unfold bytesX; rw [if_pos hx]
    have ey : bytesX y = bytesI y := by unfold bytesX; rw [if_pos hy]
    rw [ex, ey]
    have L := ltI_iff x y
    have M := ltI_iff y x
    rcases cmpM_cases x.key y.key with ⟨a, b⟩ | ⟨a, c, b⟩ | ⟨a, b⟩
    · have e : keyI x y = -1 := by unfold keyI; rw [b]; rfl
      rw [e, if_pos (Or.inl (by decide)), if_pos (L.2 (.inl a))]
    · have h1 : ¬ ltI x y = true := fun h => by
        rcases L.1 h with h | ⟨h, _⟩
        · rw [c] at h; cases h
        · rw [h, lexI_irr] at a; cases a
      have e : keyI x y = 1 := by unfold keyI; rw [b]; rfl
      rw [e, if_pos (Or.inl (by decide)), if_neg h1, if_pos (M.2 (.inl a))]
    · have l0 : lexI x.key y.key = false := by rw [a, lexI_irr]
      have l1 : lexI y.key x.key = false := by rw [a, lexI_irr]
      rw [l0] at L
      rw [l1] at M
      simp only [Bool.false_eq_true, false_or] at L M
      by_cases n1 : x.dn < y.dn
      · have e : keyI x y = -1 := by unfold keyI; rw [b, show cmpZ x.dn y.dn = -1 by unfold cmpZ; rw [if_pos n1]]; rfl
        rw [e, if_pos (Or.inl (by decide)), if_pos (L.2 ⟨a, .inl n1⟩)]
      · by_cases n2 : y.dn < x.dn
        · have h1 : ¬ ltI x y = true := fun h => by rcases (L.1 h).2 with h | ⟨h, _⟩ <;> omega
          have e : keyI x y = 1 := by unfold keyI; rw [b, show cmpZ x.dn y.dn = 1 by unfold cmpZ; rw [if_neg n1, if_pos n2]]; rfl
          rw [e, if_pos (Or.inl (by decide)), if_neg h1, if_pos (M.2 ⟨a.symm, .inl n2⟩)]
        · have z0 : cmpZ x.dn y.dn = 0 := by unfold cmpZ; rw [if_neg n1, if_neg n2]
          by_cases m1 : x.dd < y.dd
          · have e : keyI x y = -1 := by unfold keyI; rw [b, z0, show cmpZ x.dd y.dd = -1 by unfold cmpZ; rw [if_pos m1]]; rfl
            rw [e, if_pos (Or.inl (by decide)), if_pos (L.2 ⟨a, .inr ⟨by omega, .inl m1⟩⟩)]
          · by_cases m2 : y.dd < x.dd
            · have h1 : ¬ ltI x y = true := fun h => by rcases (L.1 h).2 with h | ⟨_, h | ⟨h, _⟩⟩ <;> omega
              have e : keyI x y = 1 := by unfold keyI; rw [b, z0, show cmpZ x.dd y.dd = 1 by unfold cmpZ; rw [if_neg m1, if_pos m2]]; rfl
              rw [e, if_pos (Or.inl (by decide)), if_neg h1, if_pos (M.2 ⟨a.symm, .inr ⟨by omega, .inl m2⟩⟩)]
            · have e : keyI x y = 0 := by unfold keyI; rw [b, z0, show cmpZ x.dd y.dd = 0 by unfold cmpZ; rw [if_neg m1, if_neg m2]]; rfl
              have hno : ¬ ((0 : Int) ≠ 0 ∨ sameI x y = true) := fun h => h.elim (fun h => h rfl) hs
              rw [e, if_neg hno]
              rcases cmpM_cases (bytesI x) (bytesI y) with ⟨p, q⟩ | ⟨p, r, q⟩ | ⟨p, q⟩
              · rw [q, if_pos (L.2 ⟨a, .inr ⟨by omega, .inr ⟨by omega, p⟩⟩⟩)]
              · have h1 : ¬ ltI x y = true := fun h => by
                  rcases (L.1 h).2 with h | ⟨_, h | ⟨_, h⟩⟩
                  · omega
                  · omega
                  · rw [r] at h; cases h
                rw [q, if_neg h1, if_pos (M.2 ⟨a.symm, .inr ⟨by omega, .inr ⟨by omega, p⟩⟩⟩)]
              · exact (hb p).elim
/-- The program's order is the document's. -/
theorem cmpI_ref {x y : ItQ} (hx : rightI x = true) (kx : IsBytes x.key) (vx : IsBytes x.val) (hy : rightI y = true) (ky : IsBytes y.key) (vy : IsBytes y.val) : cmpI x y = rcmpI x y := by
  rw [cmpI_lt hx kx vx hy ky vy]
  unfold rcmpI
  by_cases h : ltI x y = true
  · rw [if_pos h, if_pos ((ltI_iff x y).1 h)]
  · rw [if_neg h, if_neg (fun c => h ((ltI_iff x y).2 c))]
    by_cases g : ltI y x = true
    · rw [if_pos g, if_neg]
      intro e
      have := bytesI_inj hx kx vx hy ky vy e
      subst this
      rw [ltI_irr] at g
      cases g
    · rw [if_neg g, if_pos]
      rw [ltI_tri hx kx vx hy ky vy (Bool.eq_false_iff.2 h) (Bool.eq_false_iff.2 g)]
theorem cmpI_wrong {x y : ItQ} (h : ¬ (rightI x = true ∧ rightI y = true)) : cmpI x y = 0 := by
  unfold cmpI
  rw [if_pos]
  cases hx : rightI x <;> cases hy : rightI y <;> simp_all
end

end Go.Proofs.YtogoophofgkboaaGreatDoor
