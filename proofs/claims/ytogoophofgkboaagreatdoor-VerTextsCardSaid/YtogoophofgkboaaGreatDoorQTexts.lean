/-
  PROVED: 'VerTextsCardSaid': whatever was sent, VerTexts returns true and the input reads as it did. Conditions: the listed package-level variables start as the program's text lays them (the card ties them).
  Layer 4: the law of VerTexts. Conditions: items in memory, their clocks' own blocks old ones; the library's table and errors are laid.
-/
import Derived.Test.YtogoophofgkboaaGreatDoorQv
import Derived.Test.YtogoophofgkboaaGreatDoorQu
import Derived.Test.YtogoophofgkboaaGreatDoorQs
import Derived.Test.YtogoophofgkboaaGreatDoorQl
import Derived.Test.YtogoophofgkboaaGreatDoorQOpen
import Derived.Test.YtogoophofgkboaaGreatDoorCards
import Derived.Test.YtogoophofgkboaaGreatDoorTie
import Derived.ChangeSame
import Derived.ChangeVars
import Derived.SevenTiedAt
namespace Go.Proofs.YtogoophofgkboaaGreatDoor
open Go.RowKit

theorem make_it1 (w : World) (sa : ByteArray) (na da : Int) (ya va : Option Addr) (la ca ma ea : Nat) (ga : Bool) : (Instr.buildSlice 69 1 #[(0, itV sa na da (.slice ya la ca) ga (.slice va ma ea))]).run Tryz.prog w = .ok (.slice (some ⟨w.heap.size, 0, none⟩) 1 1) (w.alloc (.cells #[.string sa, .int .i64 na, .int .i64 da, .slice ya la ca, .bool ga, .slice va ma ea] 28)) := by
  kernel_rfl
theorem par_small (s : List UInt8) : ((parI s).getD itZ).past.length ≤ 1000 := by
  cases h : parI s with
  | none => show ([] : List RunQ).length ≤ 1000; decide
  | some x => have := (rightI_facts ((parI_iff s x).1 h).right).2.2.1; show x.past.length ≤ 1000; omega
set_option maxRecDepth 100000 in
set_option maxHeartbeats 16000000 in
theorem vtexts_any (x : ItQ) (vp vv : Value) (ls : List UInt8) (w : World) (h : ItOk w x vp vv) (hm : Mx w) (he : Ev w) (ht : Tab w) :
    Calls Tryz.prog 5 #[itVq x vp vv, .string (bs ls)] w fun e w' => e = .returned (.bool true) ∧ Kp Nb w w' := by
  obtain ⟨xp, xc, rfl⟩ := h.past.shape
  obtain ⟨xv, xe, rfl⟩ := by_shape h.val
  obtain ⟨N, hN⟩ : ∃ N, w.heap.size = N := ⟨_, rfl⟩
  obtain ⟨W, hW⟩ : ∃ W, W = w.alloc (.cells #[.string (st x.key), .int .i64 x.dn, .int .i64 x.dd, .slice xp x.past.length xc, .bool x.gone, .slice xv x.val.length xe] 28) := ⟨_, rfl⟩
  have BX0 : Hid (Blk W N 28 (itL (st x.key) x.dn x.dd (.slice xp x.past.length xc) x.gone (.slice xv x.val.length xe))) := hid (by rw [hW, ← hN]; exact Blk.new w _ (itL (st x.key) x.dn x.dd (.slice xp x.past.length xc) x.gone (.slice xv x.val.length xe)))
  have K0 : Hid (Kp Nb w W) := hid (by rw [hW]; exact (Kp.refl Nb w).alloc _)
  have HM := hid (show Mx W ∧ Ev W ∧ Tab W from ⟨hm.kept K0.out, he.kept K0.out, ht.kept K0.out⟩)
  have OX := hid (h.kept K0.out)
  have CF := hid (first4_any W HM.out.1 HM.out.2.1 HM.out.2.2)
  have hsz : (bs ls).size = ls.length := by show ls.toArray.size = _; rw [List.size_toArray]
  have CG := hid (fun (G : Nat) (wx : World) (q : Kp Nb W wx) (hb : Blk wx G 28 (itL (st x.key) x.dn x.dd (.slice xp x.past.length xc) x.gone (.slice xv x.val.length xe))) => great4_any G 1 [(x, .slice xp x.past.length xc, .slice xv x.val.length xe)] wx rfl (by decide) (fun j hj p hp => by
    have e : j = 0 := by omega
    subst e
    injection hp with hp
    subst hp
    exact ⟨by rw [Nat.zero_mul]; exact range_ofR hb, OX.out.kept q⟩))
  have CT0 := hid (fun wx (q : Kp Nb W wx) => itext_any x _ _ wx (OX.out.kept q) (HM.out.2.2.kept q))
  have CU0 := hid (fun wx (q : Kp Nb W wx) => ritext_any x _ _ wx (OX.out.kept q))
  have CP1 := hid (fun wx (q : Kp Nb W wx) (hl : ls.length ≤ 1000) => iparse_any ls wx hl (HM.out.1.kept q) (HM.out.2.1.kept q) (HM.out.2.2.kept q))
  have CP2 := hid (fun wx (hl : ls.length ≤ 1000) => riparse_any ls wx hl)
  have HPS := hid (par_small ls)
  obtain ⟨y, hy⟩ : ∃ y, (parI ls).getD itZ = y := ⟨_, rfl⟩
  obtain ⟨pb, hpb⟩ : ∃ y, (parI ls).isSome = y := ⟨_, rfl⟩
  rw [hy] at HPS
  rw [hy, hpb] at CP1 CP2
  obtain ⟨tx, htx⟩ : ∃ t, bs (textI x) = t := ⟨_, rfl⟩
  rw [htx] at CT0 CU0
  obtain ⟨ss, hss⟩ : ∃ t, bs ls = t := ⟨_, rfl⟩
  rw [hss] at hsz CP1 CP2 ⊢
  obtain ⟨gr, hgr⟩ : ∃ g, grS ([(x, Value.slice xp x.past.length xc, Value.slice xv x.val.length xe)].map (·.1)) = g := ⟨_, rfl⟩
  rw [hgr] at CG
  obtain ⟨nl, hnl⟩ : ∃ n, ls.length = n := ⟨_, rfl⟩
  rw [hnl] at hsz CP1 CP2
  clear h hm he ht hy hpb htx hss hgr hnl OX
  obtain ⟨xk, xn, xd, xpa, xg, xva⟩ := x
  unfold itVq itV at *
  dsimp only at *
  obtain ⟨xl, hxl⟩ : ∃ n, xpa.length = n := ⟨_, rfl⟩
  obtain ⟨xm, hxm⟩ : ∃ n, xva.length = n := ⟨_, rfl⟩
  obtain ⟨sx, hsx⟩ : ∃ n, st xk = n := ⟨_, rfl⟩
  simp only [hxl, hxm, hsx] at hW BX0 CG CT0 CU0 ⊢
  clear hxl hxm hsx
  go_enter Tryz.func5, Tryz.ntmps5
  go_upto_region 1 with fail
  try rw [hN]
  rw [← hW]
  clear hW hN
  go_wp2_with fail
  refine CF.out.mono ?_
  rintro e w1 ⟨rfl, k1⟩
  have KW1 := hid k1
  have BX1 := hid (BX0.out.kept k1 (fun h => h))
  clear k1 CF
  obtain ⟨G, hG⟩ : ∃ G, w1.heap.size = G := ⟨_, rfl⟩
  obtain ⟨w2, hw2⟩ : ∃ w2, w2 = w1.alloc (.cells #[.string sx, .int .i64 xn, .int .i64 xd, .slice xp xl xc, .bool xg, .slice xv xm xe] 28) := ⟨_, rfl⟩
  have k2 : Kp Nb w1 w2 := by rw [hw2]; exact (Kp.refl Nb w1).alloc _
  have hb2 : Blk w2 G 28 (itL sx xn xd (.slice xp xl xc) xg (.slice xv xm xe)) := by rw [hw2, ← hG]; exact Blk.new w1 _ (itL sx xn xd (.slice xp xl xc) xg (.slice xv xm xe))
  have KW2 := hid (KW1.out.trans k2 (fun _ _ h => h))
  have CGW := hid (CG.out G w2 KW2.out hb2)
  have HMK := hid (fun w => make_it1 w sx xn xd xp xv xl xc xm xe xg)
  clear k2 hb2 CG
  go_upto_region 3 with fail
  go_wp2_with (first | (refine at_loadV 28 (.tmp 2) (by rfl) ?_; refine wpList_valI (by rfl) _ _ (exec_loadD (x := .tmp 2) rfl (by rfl) (load_item BX1.out)) ?_))
  rw [← hw2]
  refine CGW.out.mono ?_
  rintro e w3 ⟨rfl, k3⟩
  have KW3 := hid (KW2.out.trans k3 (fun _ _ h => h))
  have K3 := hid (K0.out.trans KW3.out (fun _ _ h => h))
  clear k3 CGW HMK hw2 hG KW2 BX1 KW1
  by_cases hg : gr > 1000
  · go_wp2
    go_ret
    exact ⟨rfl, K3.out⟩
  · by_cases hn : (nl : Int) > 1000
    · go_wp2
      go_ret
      exact ⟨rfl, K3.out⟩
    · have HNL : Hid (nl ≤ 1000) := hid (by omega)
      go_wp2_with fail
      refine (CP1.out w3 KW3.out HNL.out).mono ?_
      rintro e w4 ⟨up, uv, rfl, hit, k4⟩
      obtain ⟨yp, yc, rfl⟩ := hit.past.shape
      obtain ⟨yv, ye, rfl⟩ := by_shape hit.val
      have OY4 := hid hit
      have KW4 := hid (KW3.out.trans k4 (fun _ _ h => h))
      clear hit k4 CP1 K3 KW3 hg hn hsz
      obtain ⟨yk, yn, yd, ypa, yg, yva⟩ := y
      dsimp only at *
      obtain ⟨yl, hyl⟩ : ∃ n, ypa.length = n := ⟨_, rfl⟩
      obtain ⟨ym, hym⟩ : ∃ n, yva.length = n := ⟨_, rfl⟩
      obtain ⟨sy, hsy⟩ : ∃ n, st yk = n := ⟨_, rfl⟩
      have HSY := hid (show ypa.length = yl ∧ yva.length = ym ∧ st yk = sy from ⟨hyl, hym, hsy⟩)
      simp only [hyl, hym, hsy] at OY4 CP2 ⊢
      clear hyl hym hsy
      obtain ⟨Y, hY⟩ : ∃ X, w4.heap.size = X := ⟨_, rfl⟩
      obtain ⟨w5, hw5⟩ : ∃ V, V = (w4.alloc (.cells #[.string ⟨#[]⟩, .int .i64 0, .int .i64 0, .slice none 0 0, .bool false, .slice none 0 0] 28)).setCells Y 0 (itL sy yn yd (.slice yp yl yc) yg (.slice yv ym ye)) := ⟨_, rfl⟩
      have hzY : Blk (w4.alloc (.cells #[.string ⟨#[]⟩, .int .i64 0, .int .i64 0, .slice none 0 0, .bool false, .slice none 0 0] 28)) Y 28 (itL ⟨#[]⟩ 0 0 (.slice none 0 0) false (.slice none 0 0)) := by rw [← hY]; exact Blk.new w4 _ (itL ⟨#[]⟩ 0 0 (.slice none 0 0) false (.slice none 0 0))
      have kw5 : Kp Nb w4 w5 := by rw [hw5]; exact Kp.setCells (fun h => absurd h (by omega)) _ 0 _ ((Kp.refl Nb w4).alloc _)
      have BY0 := hid (show Blk w5 Y 28 (itL sy yn yd (.slice yp yl yc) yg (.slice yv ym ye)) by rw [hw5]; exact row_set hzY rfl)
      have THY := hid (item_there (ks := sy) (dn := yn) (dd := yd) (vp := .slice yp yl yc) (vv := .slice yv ym ye) (g := yg) hzY rfl)
      clear hzY
      have KW5 := hid (KW4.out.trans kw5 (fun _ _ h => h))
      have OY5 := hid (OY4.out.kept kw5)
      clear kw5 OY4 KW4
      go_upto_region 6 with (first | (refine at_storeV 28 (.tmp 5) (.tmp 23) (by rfl) ?_; refine wpList_store_mid (by rfl) 28 (.tmp 5) (.tmp 23) (by rfl) Y 0 (itL sy yn yd (.slice yp yl yc) yg (.slice yv ym ye)).toArray (by rfl) (by rfl) THY.out item_info (item_one _ _ _ _ _ _ _ _ _ _) ?_))
      try rw [hY]
      rw [show (w4.alloc (.cells #[.string ⟨#[]⟩, .int .i64 0, .int .i64 0, .slice none 0 0, .bool false, .slice none 0 0] 28)).setCells Y 0 (itL sy yn yd (.slice yp yl yc) yg (.slice yv ym ye)) = w5 from hw5.symm]
      clear hw5 THY hY
      go_wp2_with fail
      refine (CP2.out w5 HNL.out).mono ?_
      rintro e w6 ⟨up2, uv2, rfl, hit, k6⟩
      obtain ⟨zp, zc, e1a⟩ := hit.past.shape
      obtain ⟨zv, ze, e2a⟩ := by_shape hit.val
      have e1 : up2 = .slice zp yl zc := by rw [e1a]; show Value.slice zp ypa.length zc = _; rw [HSY.out.1]
      have e2 : uv2 = .slice zv ym ze := by rw [e2a]; show Value.slice zv yva.length ze = _; rw [HSY.out.2.1]
      clear e1a e2a
      subst e1 e2
      have OZ6 := hid hit
      have OY6 := hid (OY5.out.kept k6)
      have BY6 := hid (BY0.out.kept k6 (fun h => h))
      have KW6 := hid (KW5.out.trans k6 (fun _ _ h => h))
      clear hit k6 CP2 OY5 BY0 KW5
      obtain ⟨Z, hZ⟩ : ∃ X, w6.heap.size = X := ⟨_, rfl⟩
      obtain ⟨w8, hw8⟩ : ∃ V, V = (w6.alloc (.cells #[.string ⟨#[]⟩, .int .i64 0, .int .i64 0, .slice none 0 0, .bool false, .slice none 0 0] 28)).setCells Z 0 (itL sy yn yd (.slice zp yl zc) yg (.slice zv ym ze)) := ⟨_, rfl⟩
      have hzZ : Blk (w6.alloc (.cells #[.string ⟨#[]⟩, .int .i64 0, .int .i64 0, .slice none 0 0, .bool false, .slice none 0 0] 28)) Z 28 (itL ⟨#[]⟩ 0 0 (.slice none 0 0) false (.slice none 0 0)) := by rw [← hZ]; exact Blk.new w6 _ (itL ⟨#[]⟩ 0 0 (.slice none 0 0) false (.slice none 0 0))
      have kw8 : Kp Nb w6 w8 := by rw [hw8]; exact Kp.setCells (fun h => absurd h (by omega)) _ 0 _ ((Kp.refl Nb w6).alloc _)
      have BZ := hid (show Blk w8 Z 28 (itL sy yn yd (.slice zp yl zc) yg (.slice zv ym ze)) by rw [hw8]; exact row_set hzZ rfl)
      have THZ := hid (item_there (ks := sy) (dn := yn) (dd := yd) (vp := .slice zp yl zc) (vv := .slice zv ym ze) (g := yg) hzZ rfl)
      clear hzZ
      have KW8 := hid (KW6.out.trans kw8 (fun _ _ h => h))
      have OY := hid (OY6.out.kept kw8)
      have OZ := hid (OZ6.out.kept kw8)
      have BY := hid (BY6.out.kept kw8 (fun h => h))
      have BX := hid (BX0.out.kept KW8.out (fun h => h))
      have K8 := hid (K0.out.trans KW8.out (fun _ _ h => h))
      have CT : Hid (∀ wx, Kp Nb w8 wx → _) := hid (fun wx (q : Kp Nb w8 wx) => CT0.out wx (KW8.out.trans q (fun _ _ h => h)))
      have CU : Hid (∀ wx, Kp Nb w8 wx → _) := hid (fun wx (q : Kp Nb w8 wx) => CU0.out wx (KW8.out.trans q (fun _ _ h => h)))
      have CS : Hid (∀ wx, Kp Nb w8 wx → Calls Tryz.prog 12 #[itV sy yn yd (.slice yp yl yc) yg (.slice yv ym ye), itV sy yn yd (.slice zp yl zc) yg (.slice zv ym ze)] wx fun e w' => e = .returned (.bool true) ∧ Kp Nb wx w') := hid (fun wx q => by
        have h := isame_any ⟨yk, yn, yd, ypa, yg, yva⟩ ⟨yk, yn, yd, ypa, yg, yva⟩ _ _ _ _ wx (OY.out.kept q) (OZ.out.kept q) HPS.out HPS.out
        rw [(sameI_iff _ _).2 rfl] at h
        unfold itVq itV at h
        dsimp only at h
        rwa [HSY.out.2.2] at h)
      clear kw8 OY6 OZ6 BY6 CT0 CU0 KW6
      go_upto_region 7 with (first | (refine at_storeV 28 (.tmp 7) (.tmp 28) (by rfl) ?_; refine wpList_store_mid (by rfl) 28 (.tmp 7) (.tmp 28) (by rfl) Z 0 (itL sy yn yd (.slice zp yl zc) yg (.slice zv ym ze)).toArray (by rfl) (by rfl) THZ.out item_info (item_one _ _ _ _ _ _ _ _ _ _) ?_))
      try rw [hZ]
      rw [show (w6.alloc (.cells #[.string ⟨#[]⟩, .int .i64 0, .int .i64 0, .slice none 0 0, .bool false, .slice none 0 0] 28)).setCells Z 0 (itL sy yn yd (.slice zp yl zc) yg (.slice zv ym ze)) = w8 from hw8.symm]
      clear hw8 THZ hZ
      refine V3.region_vals2 [none, none, none, none, some 15, none, none, none, none, none, none, none, none, none, none, none, none, none, none, none, none, none, none, none, none, none, none, none, none, none, some 0, some 1, some 2, some 3, some 4, some 5, some 6, some 7, some 8, some 9, some 10, some 11, some 12, some 13, some 14] [[(2, none)], [(30, some 0)], [(2, none)], [(32, some 2)], [(31, some 1), (33, some 3)], [(34, some 4)], [(6, none)], [(8, none)], [(36, some 6), (37, some 7)], [(35, some 5), (38, some 8)], [(39, some 9)], [(5, none)], [(7, none)], [(41, some 11), (42, some 12)], [(40, some 10), (43, some 13)], [(44, some 14)]] [some 30, some 31, some 32, some 33, some 34, some 35, some 36, some 37, some 38, some 39, some 40, some 41, some 42, some 43, some 44, some 4] [itV sx xn xd (.slice xp xl xc) xg (.slice xv xm xe), .string tx, itV sx xn xd (.slice xp xl xc) xg (.slice xv xm xe), .string tx, .bool true, .bool true, .bool pb, .bool pb, .bool true, .bool true, .bool true, itV sy yn yd (.slice yp yl yc) yg (.slice yv ym ye), itV sy yn yd (.slice zp yl zc) yg (.slice zv ym ze), .bool true, .bool true, .bool true] (fun wq => Hid (Kp Nb w8 wq)) (by kernel_rfl) (by kernel_rfl) (by kernel_rfl) ?hS (V3.VFrom.all (n := 16) (by kernel_rfl) ?hstep) ?hend
      case hstep =>
        refine V3.VFrom.cons (V3.VStep.val _ rfl _ rfl (itV sx xn xd (.slice xp xl xc) xg (.slice xv xm xe)) rfl trivial (fun ev wq hS he hr => ?_)) ?_
        · have r0 : ev (.tmp 2) = .pointer (some ⟨N, 0, none⟩) := hr (2, none) (by simp); have hk := he.1; clear hr he
          exact exec_loadD rfl r0 (load_item (BX.out.kept hS.out (fun h => h)))
        refine V3.VFrom.cons (V3.VStep.call _ rfl _ rfl (.string tx) rfl trivial 35 #[itV sx xn xd (.slice xp xl xc) xg (.slice xv xm xe)] (fun ev wq hS he hr => ?_) (fun wq hS => ?_)) ?_
        · have r0 : ev (.tmp 30) = itV sx xn xd (.slice xp xl xc) xg (.slice xv xm xe) := hr (30, some 0) (by simp); have hk := he.1; have hf := he.2; clear hr he
          go_simp
        · exact (CT.out wq hS.out).mono fun e w' ⟨h1, h2⟩ => ⟨h1, hid (hS.out.trans h2 (fun _ _ h => h))⟩
        refine V3.VFrom.cons (V3.VStep.val _ rfl _ rfl (itV sx xn xd (.slice xp xl xc) xg (.slice xv xm xe)) rfl trivial (fun ev wq hS he hr => ?_)) ?_
        · have r0 : ev (.tmp 2) = .pointer (some ⟨N, 0, none⟩) := hr (2, none) (by simp); have hk := he.1; clear hr he
          exact exec_loadD rfl r0 (load_item (BX.out.kept hS.out (fun h => h)))
        refine V3.VFrom.cons (V3.VStep.call _ rfl _ rfl (.string tx) rfl trivial 36 #[itV sx xn xd (.slice xp xl xc) xg (.slice xv xm xe)] (fun ev wq hS he hr => ?_) (fun wq hS => ?_)) ?_
        · have r0 : ev (.tmp 32) = itV sx xn xd (.slice xp xl xc) xg (.slice xv xm xe) := hr (32, some 2) (by simp); have hk := he.1; have hf := he.2; clear hr he
          go_simp
        · exact (CU.out wq hS.out).mono fun e w' ⟨h1, h2⟩ => ⟨h1, hid (hS.out.trans h2 (fun _ _ h => h))⟩
        refine V3.VFrom.cons (V3.VStep.val _ rfl _ rfl (.bool true) rfl trivial (fun ev wq hS he hr => ?_)) ?_
        · have r0 : ev (.tmp 31) = .string tx := hr (31, some 1) (by simp); have r1 : ev (.tmp 33) = .string tx := hr (33, some 3) (by simp); have hk := he.1; clear hr he
          have e1 : (tx.toList == tx.toList) = true := by simp
          go_simp
        refine V3.VFrom.cons (V3.VStep.val _ rfl _ rfl (.bool true) rfl trivial (fun ev wq hS he hr => ?_)) ?_
        · have r0 : ev (.tmp 34) = .bool true := hr (34, some 4) (by simp); have hk := he.1; clear hr he
          go_simp
        refine V3.VFrom.cons (V3.VStep.val _ rfl _ rfl (.bool pb) rfl rfl (fun ev wq hS he hr => ?_)) ?_
        · have r0 : ev (.tmp 6) = .bool pb := hr (6, none) (by simp); have hk := he.1; clear hr he
          go_simp
        refine V3.VFrom.cons (V3.VStep.val _ rfl _ rfl (.bool pb) rfl rfl (fun ev wq hS he hr => ?_)) ?_
        · have r0 : ev (.tmp 8) = .bool pb := hr (8, none) (by simp); have hk := he.1; clear hr he
          go_simp
        refine V3.VFrom.cons (V3.VStep.val _ rfl _ rfl (.bool true) rfl rfl (fun ev wq hS he hr => ?_)) ?_
        · have r0 : ev (.tmp 36) = .bool pb := hr (36, some 6) (by simp); have r1 : ev (.tmp 37) = .bool pb := hr (37, some 7) (by simp); have hk := he.1; clear hr he
          have e1 : (pb == pb) = true := by simp
          go_simp
        refine V3.VFrom.cons (V3.VStep.val _ rfl _ rfl (.bool true) rfl trivial (fun ev wq hS he hr => ?_)) ?_
        · have r0 : ev (.tmp 35) = .bool true := hr (35, some 5) (by simp); have r1 : ev (.tmp 38) = .bool true := hr (38, some 8) (by simp); have hk := he.1; clear hr he
          go_simp
        refine V3.VFrom.cons (V3.VStep.val _ rfl _ rfl (.bool true) rfl trivial (fun ev wq hS he hr => ?_)) ?_
        · have r0 : ev (.tmp 39) = .bool true := hr (39, some 9) (by simp); have hk := he.1; clear hr he
          go_simp
        refine V3.VFrom.cons (V3.VStep.val _ rfl _ rfl (itV sy yn yd (.slice yp yl yc) yg (.slice yv ym ye)) rfl rfl (fun ev wq hS he hr => ?_)) ?_
        · have r0 : ev (.tmp 5) = .pointer (some ⟨Y, 0, none⟩) := hr (5, none) (by simp); have hk := he.1; clear hr he
          exact exec_loadD rfl r0 (load_item (BY.out.kept hS.out (fun h => h)))
        refine V3.VFrom.cons (V3.VStep.val _ rfl _ rfl (itV sy yn yd (.slice zp yl zc) yg (.slice zv ym ze)) rfl rfl (fun ev wq hS he hr => ?_)) ?_
        · have r0 : ev (.tmp 7) = .pointer (some ⟨Z, 0, none⟩) := hr (7, none) (by simp); have hk := he.1; clear hr he
          exact exec_loadD rfl r0 (load_item (BZ.out.kept hS.out (fun h => h)))
        refine V3.VFrom.cons (V3.VStep.call _ rfl _ rfl (.bool true) rfl rfl 12 #[itV sy yn yd (.slice yp yl yc) yg (.slice yv ym ye), itV sy yn yd (.slice zp yl zc) yg (.slice zv ym ze)] (fun ev wq hS he hr => ?_) (fun wq hS => ?_)) ?_
        · have r0 : ev (.tmp 41) = itV sy yn yd (.slice yp yl yc) yg (.slice yv ym ye) := hr (41, some 11) (by simp); have r1 : ev (.tmp 42) = itV sy yn yd (.slice zp yl zc) yg (.slice zv ym ze) := hr (42, some 12) (by simp); have hk := he.1; have hf := he.2; clear hr he
          go_simp
        · exact (CS.out wq hS.out).mono fun e w' ⟨h1, h2⟩ => ⟨h1, hid (hS.out.trans h2 (fun _ _ h => h))⟩
        refine V3.VFrom.cons (V3.VStep.val _ rfl _ rfl (.bool true) rfl trivial (fun ev wq hS he hr => ?_)) ?_
        · have r0 : ev (.tmp 40) = .bool true := hr (40, some 10) (by simp); have r1 : ev (.tmp 43) = .bool true := hr (43, some 13) (by simp); have hk := he.1; clear hr he
          go_simp
        refine V3.VFrom.cons (V3.VStep.val _ rfl _ rfl (.bool true) rfl trivial (fun ev wq hS he hr => ?_)) ?_
        · have r0 : ev (.tmp 44) = .bool true := hr (44, some 14) (by simp); have hk := he.1; clear hr he
          go_simp
        exact V3.VFrom.nil
      case hS => exact hid (Kp.refl Nb w8).drew
      case hend =>
        intro w9 h9
        have KF := hid (K8.out.trans h9.out (fun _ _ h => h))
        clear h9
        simp only [V3.putAll, List.zip_cons_cons, List.zip_nil_right, List.foldl_cons, List.foldl_nil, Act.put, List.setIfInBounds_toArray, List.set_cons_zero, List.set_cons_succ]
        go_wp2
        go_ret
        exact ⟨rfl, KF.out⟩

end Go.Proofs.YtogoophofgkboaaGreatDoor

namespace Go.Proofs.YtogoophofgkboaaGreatDoor
open Go.ChangeShapes Go.WideShapes Go.ChangeAt Go.RowKit

set_option maxRecDepth 100000 in
theorem vtexts_lifted (os : Os) (started : os.Started) (H : Type) (enc : TypeId × Value → H) :
    ReturnsInHanded {} Tryz.checked os 5 .any (fun w args => (Rows.verTextsSpec.pre enc Tryz.prog Tryz.f5 [] false w args ∧ laidMetH Tryz.prog dtLaid w) ∧ sizedMet enc Tryz.prog Tryz.f5 (OpenSpec.ofChange Rows.verTextsSpec) false w args)
      (Rows.verTextsSpec.post enc Tryz.prog Tryz.f5 false true false false) := by
  refine handed_dt (C := Tryz.checked) own started (by kernel_rfl) Tryz.func5
    (ChangeSpec.witness_shaped (enc := enc) (C := Tryz.checked) (os := os) (X := fun w _ => laidMetH Tryz.prog dtLaid w) false (World.laidAll Tryz.prog os dtLaid) #[.agg #[.string ⟨#[]⟩, .int .i64 0, .int .i64 0, .slice none 0 0, .bool false, .slice none 0 0], .string ⟨#[]⟩] 8 (World.laidAll_os _ _ _)
      (World.shaped_of_ZipB (by kernel_rfl) (by kernel_rfl)) (by kernel_rfl) (by kernel_rfl) (by kernel_rfl) (laid_met os _)) ?_
  intro W base args ds gs before hval0 hW hL hsh
  have hval : ∀ (j : Nat) t v, Tryz.f5.params[j]? = some t → args[j]? = some v → Value.okWide Tryz.prog W .any base t v := hval0
  have hW' := hW
  obtain ⟨p, q, hA0, hV, rfl, hfz, hnd⟩ := hW
  have hA : DataW.TrodAll enc Tryz.prog W 0 (fun _ => true) true Tryz.f5.params.toList args.toList ds p := hA0
  rw [Tryz.params5] at hA hval
  obtain ⟨v0, vs0, d0, ds0, p0, q0, hargs, rfl, rfl, h0, r0⟩ := trodAll_cons hA
  obtain ⟨v1, vs1, d1, ds1, p1, q1, rfl, rfl, rfl, h1, r1⟩ := trodAll_cons r0
  obtain ⟨rfl, rfl, rfl⟩ := trodAll_nil r1
  obtain rfl : args = #[v0, v1] := by cases args; simp_all
  obtain ⟨rfl, rfl⟩ := trodVars_none hV
  have lt0 : ∀ x ∈ p0, x.block < W.heap.size := by obtain ⟨m, hm⟩ := h0; exact DataW.trod_lt m _ _ _ hm
  have lt1 : ∀ x ∈ p1, x.block < W.heap.size := by obtain ⟨m, hm⟩ := h1; exact DataW.trod_lt m _ _ _ hm
  obtain ⟨x0, vp0, vv0, rfl, O0, LO0⟩ := open_itemv (hval 0 28 v0 rfl rfl) h0
  obtain ⟨⟨⟨ls1⟩⟩, rfl⟩ := okWide_string Tryz.underlying9 (hval 1 9 v1 rfl rfl)
  have ht := tab_of_laid hL
  have he := ev_of_laid hL
  have hm := mx_of_shape hsh
  clear hA0 hval0
  refine (vtexts_any x0 vp0 vv0 ls1 W O0 hm he ht).mono fun e W' ⟨he, kp⟩ => ?_
  subst he
  have bel : Below W.heap.size W W' := kp.below (Nat.le_refl _) (fun _ _ h => h)
  exact ⟨_, rfl, _, _, _, [], _, [], hW', trodAll_mk1 (shut_bool Tryz.underlying4 _), (trodAll_cons_mk (Below.trod laidOut (by kernel_rfl) (of_decide_eq_true (by kernel_rfl)) h0 bel lt0) (trodAll_cons_mk (Below.trod laidOut (by kernel_rfl) (of_decide_eq_true (by kernel_rfl)) h1 bel lt1) trodAll_mk0)), rfl, bel.frame _, fun h => by cases h⟩

theorem vtexts_over : Rows.verTextsRow.holds Tryz.pinned (OpenSpec.ofChange Rows.verTextsSpec) :=
  OpenClaim.holds_of_wide 5 Tryz.f5 rfl rfl rfl rfl rfl rfl rfl ⟨rfl, rfl, rfl, rfl, rfl⟩ rfl rfl rfl rfl rfl (by kernel_rfl) Tryz.func5 (by kernel_rfl)
    (of_decide_eq_true (by kernel_rfl)) (by unfold Func.isWrapper; first | (rw [if_pos (by decide +kernel)]; kernel_rfl) | (rw [if_neg (by decide +kernel)]; exact ⟨rfl, rfl⟩))
    (fun os started H enc _ => vtexts_lifted os started H enc)

theorem vtexts_said : Rows.VerTextsCardSaid :=
  Claim7.holds_tied_plain_at .later [] [.data, .data, .data, .data, .sentinel, .sentinel, .pinned] true _ true
    vtexts_over (fun _ h => by cases h) (by kernel_rfl) (fun _ h => by cases h) verTexts_row_tie rfl ⟨rfl, rfl⟩ (by kernel_rfl) rfl
    (fun f fn hf hfn => by
      obtain rfl : f = 5 := Option.some.inj ((show Tryz.prog.funcNamed "gleanings/gleaningslaw04.VerTexts" = some 5 by kernel_rfl).symm.trans hf) |>.symm
      obtain rfl : fn = Tryz.f5 := (Option.some.inj (Tryz.func5.symm.trans hfn)).symm
      exact ⟨by kernel_rfl, fun j t ht => by
        rw [Tryz.params5] at ht
        have hm : t ∈ [28, 9] := by simpa using Array.mem_of_getElem? ht
        have hall : ([28, 9].all fun u => !Tryz.prog.wantsStandIn u) = true := by kernel_rfl
        exact (show Tryz.prog.wantsStandIn t = false by simpa using List.all_eq_true.1 hall t hm)⟩)
    (by kernel_rfl)
end Go.Proofs.YtogoophofgkboaaGreatDoor
