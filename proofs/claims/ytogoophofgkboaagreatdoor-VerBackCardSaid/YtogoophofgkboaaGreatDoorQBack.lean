/-
  PROVED: 'VerBackCardSaid': whatever was sent, VerBack returns true and the input reads as it did. Conditions: the listed package-level variables start as the program's text lays them (the card ties them).
  Layer 4: the law of VerBack. Conditions: items in memory, their clocks' own blocks old ones; the library's table and errors are laid.
-/
import Derived.Test.YtogoophofgkboaaGreatDoorQv
import Derived.Test.YtogoophofgkboaaGreatDoorQu
import Derived.Test.YtogoophofgkboaaGreatDoorQs
import Derived.Test.YtogoophofgkboaaGreatDoorQl
import Derived.Test.YtogoophofgkboaaGreatDoorQOpen
import Derived.Test.YtogoophofgkboaaGreatDoorCards
import Derived.Test.YtogoophofgkboaaGreatDoorTie
import Derived.ChangeSame
import Derived.ChangeVars
import Derived.SevenTiedAt
namespace Go.Proofs.YtogoophofgkboaaGreatDoor
open Go.RowKit

theorem make_it3 (w : World) (sa : ByteArray) (na da : Int) (ya va : Option Addr) (la ca ma ea : Nat) (ga : Bool) (sb : ByteArray) (nb db : Int) (yb vb : Option Addr) (lb cb mb eb : Nat) (gb : Bool) (sc : ByteArray) (nc dc : Int) (yc vc : Option Addr) (lc cc mc ec : Nat) (gc : Bool) : (Instr.buildSlice 69 3 #[(0, itV sa na da (.slice ya la ca) ga (.slice va ma ea)), (1, itV sb nb db (.slice yb lb cb) gb (.slice vb mb eb)), (2, itV sc nc dc (.slice yc lc cc) gc (.slice vc mc ec))]).run Tryz.prog w = .ok (.slice (some ⟨w.heap.size, 0, none⟩) 3 3) (w.alloc (.cells #[.string sa, .int .i64 na, .int .i64 da, .slice ya la ca, .bool ga, .slice va ma ea, .string sb, .int .i64 nb, .int .i64 db, .slice yb lb cb, .bool gb, .slice vb mb eb, .string sc, .int .i64 nc, .int .i64 dc, .slice yc lc cc, .bool gc, .slice vc mc ec] 28)) := by
  kernel_rfl
theorem ofC_eq {c : List RunQ} (h : Rt c) (n : Int) : ofC c n = ofF c n := by unfold ofC; rw [if_pos (rightC_rt.2 h)]
theorem of_rt {c : List RunQ} (h : Rt c) (n : Int) : Rt (ofC c n) := by
  rw [ofC_eq h]
  exact ⟨fun r hr => h.1 r (List.mem_filter.1 hr).1, h.2.filter _⟩
theorem of_in {c : List RunQ} (h : Rt c) (n m d : Int) : InC (ofC c n) m d ↔ InC c m d ∧ m = n := by
  rw [ofC_eq h]
  unfold InC ofF
  constructor
  · rintro ⟨r, hr, h1⟩
    obtain ⟨hm, hn⟩ := List.mem_filter.1 hr
    have hn := of_decide_eq_true hn
    exact ⟨⟨r, hm, h1⟩, by rw [← h1.1, hn]⟩
  · rintro ⟨⟨r, hm, h1⟩, rfl⟩
    exact ⟨r, List.mem_filter.2 ⟨hm, decide_eq_true h1.1⟩, h1⟩
theorem top_in {c : List RunQ} (h : Rt c) {n d : Int} (hi : InC c n d) : d ≤ topC c n := by
  have hr := of_rt h n
  have hi2 := (of_in h n n d).2 ⟨hi, rfl⟩
  unfold topC topF
  rw [if_pos (rightC_rt.2 h)]
  rw [ofC_eq h] at hr hi2
  obtain ⟨r, hm, h1⟩ := hi2
  rcases List.eq_nil_or_concat (ofF c n) with e | ⟨l, x, e⟩
  · rw [e] at hm; simp at hm
  · have e' : ofF c n = l ++ [x] := by rw [e, List.concat_eq_append]
    rw [e', List.getLast?_concat]
    show d ≤ x.2.2
    have hxn : x.1 = n := by
      have hx : x ∈ ofF c n := by rw [e']; simp
      exact of_decide_eq_true (List.mem_filter.1 hx).2
    have gx := goodR_of.1 (hr.1 x (by rw [e']; simp))
    rw [e'] at hm hr
    rcases List.mem_append.1 hm with hm | hm
    · have hg := (List.pairwise_append.1 hr.2).2.2 r hm x (by simp)
      unfold Gap at hg
      unfold In1 at h1
      omega
    · have : r = x := by simpa using hm
      subst this
      exact h1.2.2
theorem has_top {c : List RunQ} (h : Rt c) {m d : Int} (hh : hasC c m d = true) : ¬ topC c m < d := by
  have := top_in h ((hasC_in h).1 hh)
  omega
theorem tail_len29 : ∀ (xs : List (List UInt8)), (∀ x ∈ xs, x.length ≤ 29) → (Lib.joinTail [32] xs).length ≤ xs.length * 30
  | [], _ => by simp [Lib.joinTail]
  | x :: xs, h => by
    rw [tail_consV, List.length_append, List.length_append, List.length_singleton, List.length_cons]
    have h1 := h x (by simp)
    have h2 := tail_len29 xs (fun y hy => h y (by simp [hy]))
    omega
theorem textR_len29 {r : RunQ} (h : goodR r = true) : (textR r).length ≤ 29 := by
  have g := goodR_of.1 h
  have l1 : (Lib.itoa r.1).length ≤ 1 := by rw [itoa_pos r.1 (by omega)]; exact dec_len 0 r.1.toNat (by omega)
  have l2 := itoa_short r.2.1 (by omega) (by omega)
  have l3 := itoa_short r.2.2 (by omega) (by omega)
  unfold textR
  simp only [List.length_append, List.length_singleton]
  split
  · simp only [List.length_append, List.length_singleton]; omega
  · simp only [List.length_nil]; omega
theorem textC_len29 {c : List RunQ} (hr : rightC c = true) (hl : c.length ≤ 32) : (textC c).length ≤ 1000 := by
  unfold textC
  rw [if_pos hr]
  split
  · decide
  · have hg := right_good hr
    cases c with
    | nil => simp [Lib.join]
    | cons q c =>
      rw [List.map_cons, Lib.join_cons, List.length_append]
      have h1 := textR_len29 (hg q (by simp))
      have h2 := tail_len29 (c.map textR) (fun x hx => by obtain ⟨r, hr2, rfl⟩ := List.mem_map.1 hx; exact textR_len29 (hg r (by simp [hr2])))
      rw [List.length_map] at h2
      rw [List.length_cons] at hl
      omega
/-- A right item's own text, parsed. -/
theorem iparse_back {x : ItQ} (hr : rightI x = true) (hk : IsBytes x.key) (hv : IsBytes x.val) (w : World) (hm : Mx w) (he : Ev w) (ht : Tab w) :
    Calls Tryz.prog 33 #[.string (bs (textI x))] w fun e w' => ∃ vp vv, e = .returned (.tuple #[itVq x vp vv, .bool true]) ∧ ItOk w' x vp vv ∧ Kp Nb w w' := by
  have ht2 : textI x = textIt x := by unfold textI; rw [if_pos hr]
  have htx : IsTx (textI x) x := ⟨hr, hk, hv, ht2.symm⟩
  obtain ⟨c1, c2, c3⟩ := tx_cuts htx
  obtain ⟨f1, f2, f3, f4, f5, f6, f7⟩ := rightI_facts hr
  have b1 : (hexL x.key).length ≤ 48 := by rw [hexL_len]; omega
  have b2 := textR_len29 (dot_good hr)
  have b3 := textC_len29 f4 f3
  have b4 : (valT x).length ≤ 128 := by
    unfold valT hexW
    split
    · decide
    · split
      · decide
      · rw [hexL_len]; omega
  have b0 : (textI x).length ≤ 100000 := by
    rw [ht2]
    unfold textIt pastT
    simp only [List.length_append, List.length_cons, List.length_nil]
    omega
  have h := iparse_gen (textI x) _ _ _ _ _ _ _ _ _ c1 c2 c3 w b0 (by omega) (by omega) (by omega) (by omega) hm he ht
  rw [(parI_iff _ _).2 htx] at h
  exact h
theorem cmpI_rng (a b : ItQ) : -1 ≤ cmpI a b ∧ cmpI a b ≤ 1 := by
  have hM : ∀ x y : List Int, -1 ≤ cmpM x y ∧ cmpM x y ≤ 1 := fun x y => by unfold cmpM; split <;> (try split) <;> omega
  have hZ : ∀ x y : Int, -1 ≤ cmpZ x y ∧ cmpZ x y ≤ 1 := fun x y => by unfold cmpZ; split <;> (try split) <;> omega
  have h1 := hM a.key b.key
  have h2 := hZ a.dn b.dn
  have h3 := hZ a.dd b.dd
  have h4 := hM (bytesX a) (bytesX b)
  have hK : -1 ≤ keyI a b ∧ keyI a b ≤ 1 := by unfold keyI; split <;> (try split) <;> omega
  unfold cmpI
  split
  · omega
  · split <;> omega
theorem above_self {x : ItQ} (h : rightI x = true) : aboveI x x = false := by
  cases ha : aboveI x x with
  | false => rfl
  | true =>
    exfalso
    unfold aboveI at ha
    simp only [Bool.and_eq_true] at ha
    have h4 := (rightI_facts h).2.2.2.1
    have ht := has_top (rightC_rt.1 h4) ha.2
    unfold rightI at h
    simp only [Bool.and_eq_true, decide_eq_true_eq] at h
    exact ht h.1.1.2
theorem six_range {W : World} {G t : Nat} {A B C : List Value} (hb : Blk W G t (A ++ B ++ C)) (ha : A.length = 6) (hB : B.length = 6) (hC : C.length = 6) : W.rangeAt G 0 A ∧ W.rangeAt G 6 B ∧ W.rangeAt G 12 C := by
  refine ⟨hb.range 0 _ (fun j hj => ?_), hb.range 6 _ (fun j hj => ?_), hb.range 12 _ (fun j hj => ?_)⟩
  · rw [Nat.zero_add, List.append_assoc, List.getElem?_append_left hj]
  · rw [List.append_assoc, List.getElem?_append_right (by omega), ha, show 6 + j - 6 = j by omega, List.getElem?_append_left hj]
  · rw [List.getElem?_append_right (by rw [List.length_append]; omega), List.length_append, ha, hB, show 12 + j - (6 + 6) = j by omega]
set_option maxRecDepth 100000 in
set_option maxHeartbeats 16000000 in
theorem vback_any (x y z : ItQ) (vpx vvx vpy vvy vpz vvz : Value) (w : World) (hx : ItOk w x vpx vvx) (hy : ItOk w y vpy vvy) (hz : ItOk w z vpz vvz) (lx : ∀ g, vpx.ownBlock = some g → g < w.heap.size) (ly : ∀ g, vpy.ownBlock = some g → g < w.heap.size) (lz : ∀ g, vpz.ownBlock = some g → g < w.heap.size)
    (hm : Mx w) (he : Ev w) (ht : Tab w) : Calls Tryz.prog 6 #[itVq x vpx vvx, itVq y vpy vvy, itVq z vpz vvz] w fun e w' => e = .returned (.bool true) ∧ Kp Nb w w' := by
  obtain ⟨xp, xc, rfl⟩ := hx.past.shape
  obtain ⟨xv, xe, rfl⟩ := by_shape hx.val
  obtain ⟨yp, yc, rfl⟩ := hy.past.shape
  obtain ⟨yv, ye, rfl⟩ := by_shape hy.val
  obtain ⟨zp, zc, rfl⟩ := hz.past.shape
  obtain ⟨zv, ze, rfl⟩ := by_shape hz.val
  obtain ⟨N, hN⟩ : ∃ N, w.heap.size = N := ⟨_, rfl⟩
  obtain ⟨W, hW⟩ : ∃ W, W = ((w.alloc (.cells #[.string (st x.key), .int .i64 x.dn, .int .i64 x.dd, .slice xp x.past.length xc, .bool x.gone, .slice xv x.val.length xe] 28)).alloc (.cells #[.string (st y.key), .int .i64 y.dn, .int .i64 y.dd, .slice yp y.past.length yc, .bool y.gone, .slice yv y.val.length ye] 28)).alloc (.cells #[.string (st z.key), .int .i64 z.dn, .int .i64 z.dd, .slice zp z.past.length zc, .bool z.gone, .slice zv z.val.length ze] 28) := ⟨_, rfl⟩
  have hbx : Blk W N 28 (itL (st x.key) x.dn x.dd (.slice xp x.past.length xc) x.gone (.slice xv x.val.length xe)) := by rw [hW, ← hN]; exact ((Blk.new w _ (itL (st x.key) x.dn x.dd (.slice xp x.past.length xc) x.gone (.slice xv x.val.length xe))).alloc _).alloc _
  have hby : Blk W (N + 1) 28 (itL (st y.key) y.dn y.dd (.slice yp y.past.length yc) y.gone (.slice yv y.val.length ye)) := by
    have h := Blk.new (w.alloc (.cells #[.string (st x.key), .int .i64 x.dn, .int .i64 x.dd, .slice xp x.past.length xc, .bool x.gone, .slice xv x.val.length xe] 28)) 28 (itL (st y.key) y.dn y.dd (.slice yp y.past.length yc) y.gone (.slice yv y.val.length ye))
    simp only [World.size_alloc] at h
    rw [hW, ← hN]
    exact h.alloc _
  have hbz : Blk W (N + 1 + 1) 28 (itL (st z.key) z.dn z.dd (.slice zp z.past.length zc) z.gone (.slice zv z.val.length ze)) := by
    have h := Blk.new ((w.alloc (.cells #[.string (st x.key), .int .i64 x.dn, .int .i64 x.dd, .slice xp x.past.length xc, .bool x.gone, .slice xv x.val.length xe] 28)).alloc (.cells #[.string (st y.key), .int .i64 y.dn, .int .i64 y.dd, .slice yp y.past.length yc, .bool y.gone, .slice yv y.val.length ye] 28)) 28 (itL (st z.key) z.dn z.dd (.slice zp z.past.length zc) z.gone (.slice zv z.val.length ze))
    simp only [World.size_alloc] at h
    rw [hW, ← hN]
    exact h
  have BX0 := hid hbx
  have BY0 := hid hby
  have BZ0 := hid hbz
  have K0 : Hid (Kp Nb w W) := hid (by rw [hW]; exact (((Kp.refl Nb w).alloc _).alloc _).alloc _)
  have HM := hid (show Mx W ∧ Ev W ∧ Tab W from ⟨hm.kept K0.out, he.kept K0.out, ht.kept K0.out⟩)
  have OX := hid (hx.kept K0.out)
  have OY := hid (hy.kept K0.out)
  have OZ := hid (hz.kept K0.out)
  have LX := hid (fun wx (q : Kp Nb W wx) g hg => (by have := lx g hg; have := K0.out.size; have := q.size; omega : g < wx.heap.size))
  have LY := hid (fun wx (q : Kp Nb W wx) g hg => (by have := ly g hg; have := K0.out.size; have := q.size; omega : g < wx.heap.size))
  have LZ := hid (fun wx (q : Kp Nb W wx) g hg => (by have := lz g hg; have := K0.out.size; have := q.size; omega : g < wx.heap.size))
  have CF := hid (first4_any W HM.out.1 HM.out.2.1 HM.out.2.2)
  have CG := hid (fun (G : Nat) (wx : World) (q : Kp Nb W wx) (hb : Blk wx G 28 ((itL (st x.key) x.dn x.dd (.slice xp x.past.length xc) x.gone (.slice xv x.val.length xe)) ++ (itL (st y.key) y.dn y.dd (.slice yp y.past.length yc) y.gone (.slice yv y.val.length ye)) ++ (itL (st z.key) z.dn z.dd (.slice zp z.past.length zc) z.gone (.slice zv z.val.length ze)))) => great4_any G 3 [(x, .slice xp x.past.length xc, .slice xv x.val.length xe), (y, .slice yp y.past.length yc, .slice yv y.val.length ye), (z, .slice zp z.past.length zc, .slice zv z.val.length ze)] wx rfl (by decide) (fun j hj p hp => by
    obtain ⟨r1, r2, r3⟩ := six_range hb rfl rfl rfl
    match j, hj with
    | 0, _ => injection hp with hp; subst hp; exact ⟨r1, OX.out.kept q⟩
    | 1, _ => injection hp with hp; subst hp; exact ⟨r2, OY.out.kept q⟩
    | 2, _ => injection hp with hp; subst hp; exact ⟨r3, OZ.out.kept q⟩))
  have CR1 := hid (fun wx (q : Kp Nb W wx) => iright_any x _ _ wx (OX.out.kept q))
  have CR2 := hid (fun wx (q : Kp Nb W wx) => iright_any y _ _ wx (OY.out.kept q))
  have CR3 := hid (fun wx (q : Kp Nb W wx) => iright_any z _ _ wx (OZ.out.kept q))
  obtain ⟨gr, hgr⟩ : ∃ g, grS ([(x, Value.slice xp x.past.length xc, Value.slice xv x.val.length xe), (y, Value.slice yp y.past.length yc, Value.slice yv y.val.length ye), (z, Value.slice zp z.past.length zc, Value.slice zv z.val.length ze)].map (·.1)) = g := ⟨_, rfl⟩
  rw [hgr] at CG
  obtain ⟨ra, hra⟩ : ∃ b, rightI x = b := ⟨_, rfl⟩
  obtain ⟨rb, hrb⟩ : ∃ b, rightI y = b := ⟨_, rfl⟩
  obtain ⟨rc, hrc⟩ : ∃ b, rightI z = b := ⟨_, rfl⟩
  have HRA := hid hra
  have HRB := hid hrb
  have HRC := hid hrc
  rw [hra] at CR1
  rw [hrb] at CR2
  rw [hrc] at CR3
  have HXK := hid (And.intro OX.out.key OX.out.val.1)
  have HYK := hid (And.intro OY.out.key OY.out.val.1)
  have HZK := hid (And.intro OZ.out.key OZ.out.val.1)
  have CB0 := hid (fun wx (q : Kp Nb W wx) => ibytes_any x _ _ wx (OX.out.kept q) (LX.out wx q))
  have CT0 := hid (fun wx (q : Kp Nb W wx) => itext_any x _ _ wx (OX.out.kept q) (HM.out.2.2.kept q))
  have CA0 := hid (fun wx (q : Kp Nb W wx) (h : x.past.length ≤ 1000) => iabove_any x x _ _ _ _ wx (OX.out.kept q) (OX.out.kept q) h)
  have CSX0 := hid (fun wx (q : Kp Nb W wx) (h : x.past.length ≤ 1000) (g : y.past.length ≤ 1000) => isame_any x y _ _ _ _ wx (OX.out.kept q) (OY.out.kept q) h g)
  have CC10 := hid (fun wx (q : Kp Nb W wx) (h : x.past.length ≤ 1000) (g : y.past.length ≤ 1000) => icompare_any x y _ _ _ _ wx (OX.out.kept q) (OY.out.kept q) h g (LX.out wx q) (LY.out wx q))
  have CC20 := hid (fun wx (q : Kp Nb W wx) (h : y.past.length ≤ 1000) (g : z.past.length ≤ 1000) => icompare_any y z _ _ _ _ wx (OY.out.kept q) (OZ.out.kept q) h g (LY.out wx q) (LZ.out wx q))
  have CC30 := hid (fun wx (q : Kp Nb W wx) (h : y.past.length ≤ 1000) (g : x.past.length ≤ 1000) => icompare_any y x _ _ _ _ wx (OY.out.kept q) (OX.out.kept q) h g (LY.out wx q) (LX.out wx q))
  have CC40 := hid (fun wx (q : Kp Nb W wx) (h : x.past.length ≤ 1000) (g : z.past.length ≤ 1000) => icompare_any x z _ _ _ _ wx (OX.out.kept q) (OZ.out.kept q) h g (LX.out wx q) (LZ.out wx q))
  clear hx hy hz hm he ht hgr hra hrb hrc lx ly lz hbx hby hbz OY OZ LX LY LZ
  have HRX : Hid (∀ h : rightI x = true, x.past.length ≤ 32) := hid (fun h => (rightI_facts h).2.2.1)
  have HRY : Hid (∀ h : rightI y = true, y.past.length ≤ 32) := hid (fun h => (rightI_facts h).2.2.1)
  have HRZ : Hid (∀ h : rightI z = true, z.past.length ≤ 32) := hid (fun h => (rightI_facts h).2.2.1)
  unfold itVq itV at *
  obtain ⟨xk, xn, xd, xpa, xg, xva⟩ := x
  dsimp only at *
  obtain ⟨xl, hxl⟩ : ∃ n, xpa.length = n := ⟨_, rfl⟩
  obtain ⟨xm, hxm⟩ : ∃ n, xva.length = n := ⟨_, rfl⟩
  obtain ⟨sx, hsx⟩ : ∃ n, st xk = n := ⟨_, rfl⟩
  have HSx := hid (show xpa.length = xl ∧ xva.length = xm ∧ st xk = sx from ⟨hxl, hxm, hsx⟩)
  simp only [hxl, hxm, hsx] at hW BX0 CG CR1 CB0 CT0 CA0 CSX0 CC10 CC30 CC40 HRX ⊢
  clear hxl hxm hsx
  obtain ⟨yk, yn, yd, ypa, yg, yva⟩ := y
  dsimp only at *
  obtain ⟨yl, hyl⟩ : ∃ n, ypa.length = n := ⟨_, rfl⟩
  obtain ⟨ym, hym⟩ : ∃ n, yva.length = n := ⟨_, rfl⟩
  obtain ⟨sy, hsy⟩ : ∃ n, st yk = n := ⟨_, rfl⟩
  have HSy := hid (show ypa.length = yl ∧ yva.length = ym ∧ st yk = sy from ⟨hyl, hym, hsy⟩)
  simp only [hyl, hym, hsy] at hW BY0 CG CR2 CSX0 CC10 CC20 CC30 HRY ⊢
  clear hyl hym hsy
  obtain ⟨zk, zn, zd, zpa, zg, zva⟩ := z
  dsimp only at *
  obtain ⟨zl, hzl⟩ : ∃ n, zpa.length = n := ⟨_, rfl⟩
  obtain ⟨zm, hzm⟩ : ∃ n, zva.length = n := ⟨_, rfl⟩
  obtain ⟨sz, hsz⟩ : ∃ n, st zk = n := ⟨_, rfl⟩
  have HSz := hid (show zpa.length = zl ∧ zva.length = zm ∧ st zk = sz from ⟨hzl, hzm, hsz⟩)
  simp only [hzl, hzm, hsz] at hW BZ0 CG CR3 CC20 CC40 HRZ ⊢
  clear hzl hzm hsz
  go_enter Tryz.func6, Tryz.ntmps6
  go_upto_region 1 with fail
  try simp only [World.size_alloc, hN]
  rw [← hW]
  clear hW hN
  go_wp2_with fail
  refine CF.out.mono ?_
  rintro e w1 ⟨rfl, k1⟩
  have KW1 := hid k1
  have BX1 := hid (BX0.out.kept k1 (fun h => h))
  have BY1 := hid (BY0.out.kept k1 (fun h => h))
  have BZ1 := hid (BZ0.out.kept k1 (fun h => h))
  clear k1 CF
  obtain ⟨G, hG⟩ : ∃ G, w1.heap.size = G := ⟨_, rfl⟩
  obtain ⟨w2, hw2⟩ : ∃ w2, w2 = w1.alloc (.cells #[.string sx, .int .i64 xn, .int .i64 xd, .slice xp xl xc, .bool xg, .slice xv xm xe, .string sy, .int .i64 yn, .int .i64 yd, .slice yp yl yc, .bool yg, .slice yv ym ye, .string sz, .int .i64 zn, .int .i64 zd, .slice zp zl zc, .bool zg, .slice zv zm ze] 28) := ⟨_, rfl⟩
  have k2 : Kp Nb w1 w2 := by rw [hw2]; exact (Kp.refl Nb w1).alloc _
  have hb2 : Blk w2 G 28 ((itL sx xn xd (.slice xp xl xc) xg (.slice xv xm xe)) ++ (itL sy yn yd (.slice yp yl yc) yg (.slice yv ym ye)) ++ (itL sz zn zd (.slice zp zl zc) zg (.slice zv zm ze))) := by rw [hw2, ← hG]; exact Blk.new w1 _ ((itL sx xn xd (.slice xp xl xc) xg (.slice xv xm xe)) ++ (itL sy yn yd (.slice yp yl yc) yg (.slice yv ym ye)) ++ (itL sz zn zd (.slice zp zl zc) zg (.slice zv zm ze)))
  have KW2 := hid (KW1.out.trans k2 (fun _ _ h => h))
  have CGW := hid (CG.out G w2 KW2.out hb2)
  clear k2 hb2 CG
  go_upto_region 3 with fail
  go_wp2_with (first | (refine at_loadV 28 (.tmp 3) (by rfl) ?_; refine wpList_valI (by rfl) _ _ (exec_loadD (x := .tmp 3) rfl (by rfl) (load_item BX1.out)) ?_) | (refine at_loadV 28 (.tmp 4) (by rfl) ?_; refine wpList_valI (by rfl) _ _ (exec_loadD (x := .tmp 4) rfl (by rfl) (load_item BY1.out)) ?_) | (refine at_loadV 28 (.tmp 5) (by rfl) ?_; refine wpList_valI (by rfl) _ _ (exec_loadD (x := .tmp 5) rfl (by rfl) (load_item BZ1.out)) ?_))
  rw [← hw2]
  refine CGW.out.mono ?_
  rintro e w3 ⟨rfl, k3⟩
  have KW3 := hid (KW2.out.trans k3 (fun _ _ h => h))
  have K3 := hid (K0.out.trans KW3.out (fun _ _ h => h))
  have BX3 := hid (BX0.out.kept KW3.out (fun h => h))
  have BY3 := hid (BY0.out.kept KW3.out (fun h => h))
  have BZ3 := hid (BZ0.out.kept KW3.out (fun h => h))
  clear k3 CGW hw2 hG KW2 BX1 BY1 BZ1 KW1
  by_cases hg : gr > 1500
  · go_wp2
    go_ret
    exact ⟨rfl, K3.out⟩
  · have a0 : w3.cell? ⟨N, 0, none⟩ = some (.string sx) := BX3.out.cell 0
    have a1 : w3.cell? ⟨N, 1, none⟩ = some (.int .i64 xn) := BX3.out.cell 1
    have a2 : w3.cell? ⟨N, 2, none⟩ = some (.int .i64 xd) := BX3.out.cell 2
    have a3 : w3.cell? ⟨N, 3, none⟩ = some (.slice xp xl xc) := BX3.out.cell 3
    have a4 : w3.cell? ⟨N, 4, none⟩ = some (.bool xg) := BX3.out.cell 4
    have a5 : w3.cell? ⟨N, 5, none⟩ = some (.slice xv xm xe) := BX3.out.cell 5
    go_wp2_with fail
    refine (CR1.out w3 KW3.out).mono ?_
    rintro e w4 ⟨rfl, k4⟩
    have KW4 := hid (KW3.out.trans k4 (fun _ _ h => h))
    have K4 := hid (K3.out.trans k4 (fun _ _ h => h))
    have BY4 := hid (BY3.out.kept k4 (fun h => h))
    have BZ4 := hid (BZ3.out.kept k4 (fun h => h))
    clear k4 CR1 BY3 BZ3 BX3 K3 KW3
    cases ra with
    | false =>
      go_wp2
      go_ret
      exact ⟨rfl, K4.out⟩
    | true =>
      have b0 : w4.cell? ⟨N + 1, 0, none⟩ = some (.string sy) := BY4.out.cell 0
      have b1 : w4.cell? ⟨N + 1, 1, none⟩ = some (.int .i64 yn) := BY4.out.cell 1
      have b2 : w4.cell? ⟨N + 1, 2, none⟩ = some (.int .i64 yd) := BY4.out.cell 2
      have b3 : w4.cell? ⟨N + 1, 3, none⟩ = some (.slice yp yl yc) := BY4.out.cell 3
      have b4 : w4.cell? ⟨N + 1, 4, none⟩ = some (.bool yg) := BY4.out.cell 4
      have b5 : w4.cell? ⟨N + 1, 5, none⟩ = some (.slice yv ym ye) := BY4.out.cell 5
      go_wp2_with fail
      refine (CR2.out w4 KW4.out).mono ?_
      rintro e w5 ⟨rfl, k5⟩
      have KW5 := hid (KW4.out.trans k5 (fun _ _ h => h))
      have K5 := hid (K4.out.trans k5 (fun _ _ h => h))
      have BZ5 := hid (BZ4.out.kept k5 (fun h => h))
      clear k5 CR2 BY4 BZ4 K4 KW4
      cases rb with
      | false =>
        go_wp2
        go_ret
        exact ⟨rfl, K5.out⟩
      | true =>
        have c0 : w5.cell? ⟨N + 1 + 1, 0, none⟩ = some (.string sz) := BZ5.out.cell 0
        have c1 : w5.cell? ⟨N + 1 + 1, 1, none⟩ = some (.int .i64 zn) := BZ5.out.cell 1
        have c2 : w5.cell? ⟨N + 1 + 1, 2, none⟩ = some (.int .i64 zd) := BZ5.out.cell 2
        have c3 : w5.cell? ⟨N + 1 + 1, 3, none⟩ = some (.slice zp zl zc) := BZ5.out.cell 3
        have c4 : w5.cell? ⟨N + 1 + 1, 4, none⟩ = some (.bool zg) := BZ5.out.cell 4
        have c5 : w5.cell? ⟨N + 1 + 1, 5, none⟩ = some (.slice zv zm ze) := BZ5.out.cell 5
        go_wp2_with fail
        refine (CR3.out w5 KW5.out).mono ?_
        rintro e w6 ⟨rfl, k6⟩
        have KW6 := hid (KW5.out.trans k6 (fun _ _ h => h))
        have K6 := hid (K5.out.trans k6 (fun _ _ h => h))
        have BX6 := hid (BX0.out.kept KW6.out (fun h => h))
        clear k6 CR3 BZ5 K5 KW5
        cases rc with
        | false =>
          go_wp2
          all_goals
            go_ret
            exact ⟨rfl, K6.out⟩
        | true =>
          have lx : xl ≤ 1000 := by have := HRX.out HRA.out; omega
          have ly : yl ≤ 1000 := by have := HRY.out HRB.out; omega
          have lz : zl ≤ 1000 := by have := HRZ.out HRC.out; omega
          have HLL := hid (And.intro lx (And.intro ly lz))
          have hord := cmpI_order HRA.out HXK.out.1 HXK.out.2 HRB.out HYK.out.1 HYK.out.2 HRC.out HZK.out.1 HZK.out.2
          have HORD := hid hord
          have hbx : bytesX ⟨xk, xn, xd, xpa, xg, xva⟩ = bytesI ⟨xk, xn, xd, xpa, xg, xva⟩ := by unfold bytesX; rw [if_pos HRA.out]
          have hrd := readI_back HRA.out HXK.out.1 HXK.out.2
          have HBL := hid (bytesX_len ⟨xk, xn, xd, xpa, xg, xva⟩)
          have HRDX : Hid (∀ v wx, BySl Nb wx v (bytesX ⟨xk, xn, xd, xpa, xg, xva⟩) → Calls Tryz.prog 27 #[v] wx fun r w' => ∃ vp vv, r = .returned (.tuple #[itVq ⟨xk, xn, xd, xpa, xg, xva⟩ vp vv, .int .i64 0]) ∧ ItOk w' ⟨xk, xn, xd, xpa, xg, xva⟩ vp vv ∧ Kp Nb wx w') := hid (fun v wx hv => by
            rw [hbx] at hv
            have h := iread_any v _ wx hv (by have := HBL.out; rw [hbx] at this; omega)
            rw [hrd] at h
            exact h.mono fun e w' ⟨vp, vv, h1, h2, _, _, h3⟩ => ⟨vp, vv, h1, h2, h3⟩)
          have CPX := hid (fun wx (q : Kp Nb W wx) => iparse_back HRA.out HXK.out.1 HXK.out.2 wx (HM.out.1.kept q) (HM.out.2.1.kept q) (HM.out.2.2.kept q))
          obtain ⟨BXX, hBXX⟩ : ∃ b, bytesX ⟨xk, xn, xd, xpa, xg, xva⟩ = b := ⟨_, rfl⟩
          obtain ⟨tx, htx2⟩ : ∃ t, bs (textI ⟨xk, xn, xd, xpa, xg, xva⟩) = t := ⟨_, rfl⟩
          rw [hBXX] at CB0 HRDX
          rw [htx2] at CT0 CPX
          obtain ⟨p, hp⟩ : ∃ c, cmpI ⟨xk, xn, xd, xpa, xg, xva⟩ ⟨yk, yn, yd, ypa, yg, yva⟩ = c := ⟨_, rfl⟩
          obtain ⟨q, hq⟩ : ∃ c, cmpI ⟨yk, yn, yd, ypa, yg, yva⟩ ⟨zk, zn, zd, zpa, zg, zva⟩ = c := ⟨_, rfl⟩
          obtain ⟨pn, hpn⟩ : ∃ c, cmpI ⟨yk, yn, yd, ypa, yg, yva⟩ ⟨xk, xn, xd, xpa, xg, xva⟩ = c := ⟨_, rfl⟩
          obtain ⟨r, hr⟩ : ∃ c, cmpI ⟨xk, xn, xd, xpa, xg, xva⟩ ⟨zk, zn, zd, zpa, zg, zva⟩ = c := ⟨_, rfl⟩
          obtain ⟨bz, hbz⟩ : ∃ c, sameI ⟨xk, xn, xd, xpa, xg, xva⟩ ⟨yk, yn, yd, ypa, yg, yva⟩ = c := ⟨_, rfl⟩
          have hrange : ∀ a b : ItQ, -1 ≤ cmpI a b ∧ cmpI a b ≤ 1 := cmpI_rng
          have HPR : Hid ((-1 ≤ p ∧ p ≤ 1) ∧ (-1 ≤ pn ∧ pn ≤ 1)) := hid ⟨by rw [← hp]; exact hrange _ _, by rw [← hpn]; exact hrange _ _⟩
          rw [hp] at CC10 HORD
          rw [hq] at CC20 HORD
          rw [hpn] at CC30 HORD
          rw [hr] at CC40 HORD
          rw [hbz] at CSX0 HORD
          have HNG : Hid (IntKind.i64.wrap (-pn) = p) := hid (by rw [IntWalk.i64_in _ (by have := HPR.out.2; omega)]; exact HORD.out.1.symm)
          have HPZ : Hid ((p == 0) = bz) := hid (by
            cases bz with
            | true => rw [beq_iff_eq]; exact HORD.out.2.1.2 rfl
            | false => rw [beq_eq_false_iff_ne]; intro h; exact Bool.noConfusion (HORD.out.2.1.1 h))
          clear hp hq hpn hr hbz hrange hord hbx hrd hBXX htx2 lx ly lz HBL
          have d0 : w6.cell? ⟨N, 0, none⟩ = some (.string sx) := BX6.out.cell 0
          have d1 : w6.cell? ⟨N, 1, none⟩ = some (.int .i64 xn) := BX6.out.cell 1
          have d2 : w6.cell? ⟨N, 2, none⟩ = some (.int .i64 xd) := BX6.out.cell 2
          have d3 : w6.cell? ⟨N, 3, none⟩ = some (.slice xp xl xc) := BX6.out.cell 3
          have d4 : w6.cell? ⟨N, 4, none⟩ = some (.bool xg) := BX6.out.cell 4
          have d5 : w6.cell? ⟨N, 5, none⟩ = some (.slice xv xm xe) := BX6.out.cell 5
          go_wp2_with fail
          refine (CB0.out w6 KW6.out).mono ?_
          rintro e w7 ⟨vb, rfl, hvb, -, k7⟩
          have CRD := hid (HRDX.out vb w7 hvb)
          obtain ⟨yb, db, eb⟩ := by_shape hvb
          subst eb
          have KW7 := hid (KW6.out.trans k7 (fun _ _ h => h))
          obtain ⟨nb, hnb⟩ : ∃ n, BXX.length = n := ⟨_, rfl⟩
          rw [hnb] at CRD ⊢
          clear hvb k7 CB0 HRDX hnb d0 d1 d2 d3 d4 d5 BX6 K6 KW6
          go_wp2_with fail
          refine CRD.out.mono ?_
          rintro e w7b ⟨vp2, vv2, rfl, hit2, k7b⟩
          obtain ⟨pp, pc, e1a⟩ := hit2.past.shape
          obtain ⟨pv, pe, e2a⟩ := by_shape hit2.val
          have e1 : vp2 = .slice pp xl pc := by rw [e1a]; show Value.slice pp xpa.length pc = _; rw [HSx.out.1]
          have e2 : vv2 = .slice pv xm pe := by rw [e2a]; show Value.slice pv xva.length pe = _; rw [HSx.out.2.1]
          clear e1a e2a
          subst e1 e2
          unfold itVq itV
          dsimp only
          simp only [HSx.out.2.2]
          have OP7 := hid hit2
          have KW7b := hid (KW7.out.trans k7b (fun _ _ h => h))
          clear hit2 k7b CRD KW7
          obtain ⟨P, hP⟩ : ∃ X, w7b.heap.size = X := ⟨_, rfl⟩
          obtain ⟨w7c, hw7c⟩ : ∃ V, V = (w7b.alloc (.cells #[.string ⟨#[]⟩, .int .i64 0, .int .i64 0, .slice none 0 0, .bool false, .slice none 0 0] 28)).setCells P 0 (itL sx xn xd (.slice pp xl pc) xg (.slice pv xm pe)) := ⟨_, rfl⟩
          have hzP : Blk (w7b.alloc (.cells #[.string ⟨#[]⟩, .int .i64 0, .int .i64 0, .slice none 0 0, .bool false, .slice none 0 0] 28)) P 28 (itL ⟨#[]⟩ 0 0 (.slice none 0 0) false (.slice none 0 0)) := by rw [← hP]; exact Blk.new w7b _ (itL ⟨#[]⟩ 0 0 (.slice none 0 0) false (.slice none 0 0))
          have kw7c : Kp Nb w7b w7c := by rw [hw7c]; exact Kp.setCells (fun h => absurd h (by omega)) _ 0 _ ((Kp.refl Nb w7b).alloc _)
          have BP0 := hid (show Blk w7c P 28 (itL sx xn xd (.slice pp xl pc) xg (.slice pv xm pe)) by rw [hw7c]; exact row_set hzP rfl)
          have THP := hid (item_there (ks := sx) (dn := xn) (dd := xd) (vp := .slice pp xl pc) (vv := .slice pv xm pe) (g := xg) hzP rfl)
          clear hzP
          have KW7c := hid (KW7b.out.trans kw7c (fun _ _ h => h))
          have OP7c := hid (OP7.out.kept kw7c)
          have BX7 := hid (BX0.out.kept KW7c.out (fun h => h))
          clear kw7c OP7 KW7b
          go_upto_region 6 with (first | (refine at_storeV 28 (.tmp 7) (.tmp 40) (by rfl) ?_; refine wpList_store_mid (by rfl) 28 (.tmp 7) (.tmp 40) (by rfl) P 0 (itL sx xn xd (.slice pp xl pc) xg (.slice pv xm pe)).toArray (by rfl) (by rfl) THP.out item_info (item_one _ _ _ _ _ _ _ _ _ _) ?_))
          try rw [hP]
          rw [show (w7b.alloc (.cells #[.string ⟨#[]⟩, .int .i64 0, .int .i64 0, .slice none 0 0, .bool false, .slice none 0 0] 28)).setCells P 0 (itL sx xn xd (.slice pp xl pc) xg (.slice pv xm pe)) = w7c from hw7c.symm]
          clear hw7c THP hP
          have f0 : w7c.cell? ⟨N, 0, none⟩ = some (.string sx) := BX7.out.cell 0
          have f1 : w7c.cell? ⟨N, 1, none⟩ = some (.int .i64 xn) := BX7.out.cell 1
          have f2 : w7c.cell? ⟨N, 2, none⟩ = some (.int .i64 xd) := BX7.out.cell 2
          have f3 : w7c.cell? ⟨N, 3, none⟩ = some (.slice xp xl xc) := BX7.out.cell 3
          have f4 : w7c.cell? ⟨N, 4, none⟩ = some (.bool xg) := BX7.out.cell 4
          have f5 : w7c.cell? ⟨N, 5, none⟩ = some (.slice xv xm xe) := BX7.out.cell 5
          go_wp2_with fail
          refine (CT0.out w7c KW7c.out).mono ?_
          rintro e w7d ⟨rfl, k7d⟩
          have KW7d := hid (KW7c.out.trans k7d (fun _ _ h => h))
          have OP7d := hid (OP7c.out.kept k7d)
          have BP7d := hid (BP0.out.kept k7d (fun h => h))
          clear k7d CT0 OP7c BP0 f0 f1 f2 f3 f4 f5 BX7 KW7c
          go_wp2_with fail
          refine (CPX.out w7d KW7d.out).mono ?_
          rintro e w7e ⟨vp3, vv3, rfl, hit3, k7e⟩
          obtain ⟨qp, qc, e1a⟩ := hit3.past.shape
          obtain ⟨qv, qe, e2a⟩ := by_shape hit3.val
          have e1 : vp3 = .slice qp xl qc := by rw [e1a]; show Value.slice qp xpa.length qc = _; rw [HSx.out.1]
          have e2 : vv3 = .slice qv xm qe := by rw [e2a]; show Value.slice qv xva.length qe = _; rw [HSx.out.2.1]
          clear e1a e2a
          subst e1 e2
          unfold itVq itV
          dsimp only
          simp only [HSx.out.2.2]
          have OQ7e := hid hit3
          have OP7e := hid (OP7d.out.kept k7e)
          have BP7e := hid (BP7d.out.kept k7e (fun h => h))
          have KW7e := hid (KW7d.out.trans k7e (fun _ _ h => h))
          clear hit3 k7e CPX OP7d BP7d KW7d
          obtain ⟨Q, hQ⟩ : ∃ X, w7e.heap.size = X := ⟨_, rfl⟩
          obtain ⟨w8, hw8⟩ : ∃ V, V = (w7e.alloc (.cells #[.string ⟨#[]⟩, .int .i64 0, .int .i64 0, .slice none 0 0, .bool false, .slice none 0 0] 28)).setCells Q 0 (itL sx xn xd (.slice qp xl qc) xg (.slice qv xm qe)) := ⟨_, rfl⟩
          have hzQ : Blk (w7e.alloc (.cells #[.string ⟨#[]⟩, .int .i64 0, .int .i64 0, .slice none 0 0, .bool false, .slice none 0 0] 28)) Q 28 (itL ⟨#[]⟩ 0 0 (.slice none 0 0) false (.slice none 0 0)) := by rw [← hQ]; exact Blk.new w7e _ (itL ⟨#[]⟩ 0 0 (.slice none 0 0) false (.slice none 0 0))
          have kw8 : Kp Nb w7e w8 := by rw [hw8]; exact Kp.setCells (fun h => absurd h (by omega)) _ 0 _ ((Kp.refl Nb w7e).alloc _)
          have BQ := hid (show Blk w8 Q 28 (itL sx xn xd (.slice qp xl qc) xg (.slice qv xm qe)) by rw [hw8]; exact row_set hzQ rfl)
          have THQ := hid (item_there (ks := sx) (dn := xn) (dd := xd) (vp := .slice qp xl qc) (vv := .slice qv xm qe) (g := xg) hzQ rfl)
          clear hzQ
          have KW8 := hid (KW7e.out.trans kw8 (fun _ _ h => h))
          have OP := hid (OP7e.out.kept kw8)
          have OQ := hid (OQ7e.out.kept kw8)
          have BP := hid (BP7e.out.kept kw8 (fun h => h))
          have BX := hid (BX0.out.kept KW8.out (fun h => h))
          have BY := hid (BY0.out.kept KW8.out (fun h => h))
          have BZ := hid (BZ0.out.kept KW8.out (fun h => h))
          have K8 := hid (K0.out.trans KW8.out (fun _ _ h => h))
          clear kw8 OP7e OQ7e BP7e KW7e
          have tr := fun (wx : World) (q : Kp Nb w8 wx) => KW8.out.trans q (fun _ _ h => h)
          have CSP : Hid (∀ wx, Kp Nb w8 wx → Calls Tryz.prog 12 #[itV sx xn xd (.slice pp xl pc) xg (.slice pv xm pe), itV sx xn xd (.slice xp xl xc) xg (.slice xv xm xe)] wx fun e w' => e = .returned (.bool true) ∧ Kp Nb wx w') := hid (fun wx q => by
            have h := isame_any ⟨xk, xn, xd, xpa, xg, xva⟩ ⟨xk, xn, xd, xpa, xg, xva⟩ _ _ _ _ wx (OP.out.kept q) (OX.out.kept (tr wx q)) (by show xpa.length ≤ 1000; rw [HSx.out.1]; exact HLL.out.1) (by show xpa.length ≤ 1000; rw [HSx.out.1]; exact HLL.out.1)
            rw [(sameI_iff _ _).2 rfl] at h
            unfold itVq itV at h
            dsimp only at h
            rwa [HSx.out.2.2, HSx.out.1, HSx.out.2.1] at h)
          have CSQ : Hid (∀ wx, Kp Nb w8 wx → Calls Tryz.prog 12 #[itV sx xn xd (.slice qp xl qc) xg (.slice qv xm qe), itV sx xn xd (.slice xp xl xc) xg (.slice xv xm xe)] wx fun e w' => e = .returned (.bool true) ∧ Kp Nb wx w') := hid (fun wx q => by
            have h := isame_any ⟨xk, xn, xd, xpa, xg, xva⟩ ⟨xk, xn, xd, xpa, xg, xva⟩ _ _ _ _ wx (OQ.out.kept q) (OX.out.kept (tr wx q)) (by show xpa.length ≤ 1000; rw [HSx.out.1]; exact HLL.out.1) (by show xpa.length ≤ 1000; rw [HSx.out.1]; exact HLL.out.1)
            rw [(sameI_iff _ _).2 rfl] at h
            unfold itVq itV at h
            dsimp only at h
            rwa [HSx.out.2.2, HSx.out.1, HSx.out.2.1] at h)
          have CSX := hid (fun wx (q : Kp Nb w8 wx) => CSX0.out wx (tr wx q) HLL.out.1 HLL.out.2.1)
          have CA := hid (fun wx (q : Kp Nb w8 wx) => (by have h := CA0.out wx (tr wx q) HLL.out.1; rwa [above_self HRA.out] at h : Calls Tryz.prog 14 #[itV sx xn xd (.slice xp xl xc) xg (.slice xv xm xe), itV sx xn xd (.slice xp xl xc) xg (.slice xv xm xe)] wx fun e w' => e = .returned (.bool false) ∧ Kp Nb wx w'))
          have CC1 := hid (fun wx (q : Kp Nb w8 wx) => CC10.out wx (tr wx q) HLL.out.1 HLL.out.2.1)
          have CC2 := hid (fun wx (q : Kp Nb w8 wx) => CC20.out wx (tr wx q) HLL.out.2.1 HLL.out.2.2)
          have CC3 := hid (fun wx (q : Kp Nb w8 wx) => CC30.out wx (tr wx q) HLL.out.2.1 HLL.out.1)
          have CC4 := hid (fun wx (q : Kp Nb w8 wx) => CC40.out wx (tr wx q) HLL.out.1 HLL.out.2.2)
          clear CSX0 CA0 CC10 CC20 CC30 CC40 tr OX
          go_upto_region 7 with (first | (refine at_storeV 28 (.tmp 9) (.tmp 46) (by rfl) ?_; refine wpList_store_mid (by rfl) 28 (.tmp 9) (.tmp 46) (by rfl) Q 0 (itL sx xn xd (.slice qp xl qc) xg (.slice qv xm qe)).toArray (by rfl) (by rfl) THQ.out item_info (item_one _ _ _ _ _ _ _ _ _ _) ?_))
          try rw [hQ]
          rw [show (w7e.alloc (.cells #[.string ⟨#[]⟩, .int .i64 0, .int .i64 0, .slice none 0 0, .bool false, .slice none 0 0] 28)).setCells Q 0 (itL sx xn xd (.slice qp xl qc) xg (.slice qv xm qe)) = w8 from hw8.symm]
          clear hw8 THQ hQ
          refine V3.region_valsF [none, none, none, none, none, none, none, none, none, none, none, none, none, none, none, none, none, none, none, none, none, none, none, none, none, none, none, none, none, none, none, none, none, none, none, none, none, none, none, none, none, none, none, none, none, none, none, none, some 0, some 1, some 2, some 3, some 4, some 5, some 6, some 7, some 8, some 9, some 10, some 11, some 12, some 13, some 14, some 15, some 16, some 17, some 18, some 19, some 20, some 21, some 22, none, none, none, none, none, none, none, none, none, none, none, none, none, none, none, none, none, none, none, none, none, none, none, none, none, none, none, none, none, none, none, none, none, none, none, none, none, none, none, none, none] [[(8, none)], [(48, some 0)], [(49, some 1)], [(7, none)], [(3, none)], [(51, some 3), (52, some 4)], [(53, some 5)], [(50, some 2), (54, some 6)], [(55, some 7)], [(10, none)], [(57, some 9)], [(56, some 8), (58, some 10)], [(59, some 11)], [(9, none)], [(3, none)], [(61, some 13), (62, some 14)], [(63, some 15)], [(60, some 12), (64, some 16)], [(65, some 17)], [(3, none)], [(3, none)], [(67, some 19), (68, some 20)], [(66, some 18), (69, some 21)]] [some 48, some 49, some 50, some 51, some 52, some 53, some 54, some 55, some 56, some 57, some 58, some 59, some 60, some 61, some 62, some 63, some 64, some 65, some 66, some 67, some 68, some 69, some 70] [.int .i64 0, .bool false, .bool false, itV sx xn xd (.slice pp xl pc) xg (.slice pv xm pe), itV sx xn xd (.slice xp xl xc) xg (.slice xv xm xe), .bool true, .bool false, .bool false, .bool false, .bool true, .bool false, .bool false, .bool false, itV sx xn xd (.slice qp xl qc) xg (.slice qv xm qe), itV sx xn xd (.slice xp xl xc) xg (.slice xv xm xe), .bool true, .bool false, .bool false, .bool false, itV sx xn xd (.slice xp xl xc) xg (.slice xv xm xe), itV sx xn xd (.slice xp xl xc) xg (.slice xv xm xe), .bool false, .bool false] (fun wq => Hid (Kp Nb w8 wq)) (by kernel_rfl) (by kernel_rfl) ?hS (V3.VFrom.all (n := 23) (by kernel_rfl) ?hstep) ?hend
          case hstep =>
            refine V3.VFrom.cons (V3.VStep.val _ rfl _ rfl (.int .i64 0) rfl trivial (fun ev wq hS he hr => ?_)) ?_
            · have r0 : ev (.tmp 8) = .int .i64 0 := hr (8, none) (by simp); have hk := he.1; clear hr he
              go_simp
            refine V3.VFrom.cons (V3.VStep.val _ rfl _ rfl (.bool false) rfl trivial (fun ev wq hS he hr => ?_)) ?_
            · have r0 : ev (.tmp 48) = .int .i64 0 := hr (48, some 0) (by simp); have hk := he.1; clear hr he
              go_simp
            refine V3.VFrom.cons (V3.VStep.val _ rfl _ rfl (.bool false) rfl trivial (fun ev wq hS he hr => ?_)) ?_
            · have r0 : ev (.tmp 49) = .bool false := hr (49, some 1) (by simp); have hk := he.1; clear hr he
              go_simp
            refine V3.VFrom.cons (V3.VStep.val _ rfl _ rfl (itV sx xn xd (.slice pp xl pc) xg (.slice pv xm pe)) rfl rfl (fun ev wq hS he hr => ?_)) ?_
            · have r0 : ev (.tmp 7) = .pointer (some ⟨P, 0, none⟩) := hr (7, none) (by simp); have hk := he.1; clear hr he
              exact exec_loadD rfl r0 (load_item (BP.out.kept hS.out (fun h => h)))
            refine V3.VFrom.cons (V3.VStep.val _ rfl _ rfl (itV sx xn xd (.slice xp xl xc) xg (.slice xv xm xe)) rfl rfl (fun ev wq hS he hr => ?_)) ?_
            · have r0 : ev (.tmp 3) = .pointer (some ⟨N, 0, none⟩) := hr (3, none) (by simp); have hk := he.1; clear hr he
              exact exec_loadD rfl r0 (load_item (BX.out.kept hS.out (fun h => h)))
            refine V3.VFrom.cons (V3.VStep.call _ rfl _ rfl (.bool true) rfl rfl 12 #[itV sx xn xd (.slice pp xl pc) xg (.slice pv xm pe), itV sx xn xd (.slice xp xl xc) xg (.slice xv xm xe)] (fun ev wq hS he hr => ?_) (fun wq hS => ?_)) ?_
            · have r0 : ev (.tmp 51) = itV sx xn xd (.slice pp xl pc) xg (.slice pv xm pe) := hr (51, some 3) (by simp); have r1 : ev (.tmp 52) = itV sx xn xd (.slice xp xl xc) xg (.slice xv xm xe) := hr (52, some 4) (by simp); have hk := he.1; have hf := he.2; clear hr he
              go_simp
            · exact (CSP.out wq hS.out).mono fun e w' ⟨h1, h2⟩ => ⟨h1, hid (hS.out.trans h2 (fun _ _ h => h))⟩
            refine V3.VFrom.cons (V3.VStep.val _ rfl _ rfl (.bool false) rfl rfl (fun ev wq hS he hr => ?_)) ?_
            · have r0 : ev (.tmp 53) = .bool true := hr (53, some 5) (by simp); have hk := he.1; clear hr he
              go_simp
            refine V3.VFrom.cons (V3.VStep.val _ rfl _ rfl (.bool false) rfl trivial (fun ev wq hS he hr => ?_)) ?_
            · have r0 : ev (.tmp 50) = .bool false := hr (50, some 2) (by simp); have r1 : ev (.tmp 54) = .bool false := hr (54, some 6) (by simp); have hk := he.1; clear hr he
              go_simp
            refine V3.VFrom.cons (V3.VStep.val _ rfl _ rfl (.bool false) rfl trivial (fun ev wq hS he hr => ?_)) ?_
            · have r0 : ev (.tmp 55) = .bool false := hr (55, some 7) (by simp); have hk := he.1; clear hr he
              go_simp
            refine V3.VFrom.cons (V3.VStep.val _ rfl _ rfl (.bool true) rfl rfl (fun ev wq hS he hr => ?_)) ?_
            · have r0 : ev (.tmp 10) = .bool true := hr (10, none) (by simp); have hk := he.1; clear hr he
              go_simp
            refine V3.VFrom.cons (V3.VStep.val _ rfl _ rfl (.bool false) rfl rfl (fun ev wq hS he hr => ?_)) ?_
            · have r0 : ev (.tmp 57) = .bool true := hr (57, some 9) (by simp); have hk := he.1; clear hr he
              go_simp
            refine V3.VFrom.cons (V3.VStep.val _ rfl _ rfl (.bool false) rfl trivial (fun ev wq hS he hr => ?_)) ?_
            · have r0 : ev (.tmp 56) = .bool false := hr (56, some 8) (by simp); have r1 : ev (.tmp 58) = .bool false := hr (58, some 10) (by simp); have hk := he.1; clear hr he
              go_simp
            refine V3.VFrom.cons (V3.VStep.val _ rfl _ rfl (.bool false) rfl trivial (fun ev wq hS he hr => ?_)) ?_
            · have r0 : ev (.tmp 59) = .bool false := hr (59, some 11) (by simp); have hk := he.1; clear hr he
              go_simp
            refine V3.VFrom.cons (V3.VStep.val _ rfl _ rfl (itV sx xn xd (.slice qp xl qc) xg (.slice qv xm qe)) rfl rfl (fun ev wq hS he hr => ?_)) ?_
            · have r0 : ev (.tmp 9) = .pointer (some ⟨Q, 0, none⟩) := hr (9, none) (by simp); have hk := he.1; clear hr he
              exact exec_loadD rfl r0 (load_item (BQ.out.kept hS.out (fun h => h)))
            refine V3.VFrom.cons (V3.VStep.val _ rfl _ rfl (itV sx xn xd (.slice xp xl xc) xg (.slice xv xm xe)) rfl rfl (fun ev wq hS he hr => ?_)) ?_
            · have r0 : ev (.tmp 3) = .pointer (some ⟨N, 0, none⟩) := hr (3, none) (by simp); have hk := he.1; clear hr he
              exact exec_loadD rfl r0 (load_item (BX.out.kept hS.out (fun h => h)))
            refine V3.VFrom.cons (V3.VStep.call _ rfl _ rfl (.bool true) rfl rfl 12 #[itV sx xn xd (.slice qp xl qc) xg (.slice qv xm qe), itV sx xn xd (.slice xp xl xc) xg (.slice xv xm xe)] (fun ev wq hS he hr => ?_) (fun wq hS => ?_)) ?_
            · have r0 : ev (.tmp 61) = itV sx xn xd (.slice qp xl qc) xg (.slice qv xm qe) := hr (61, some 13) (by simp); have r1 : ev (.tmp 62) = itV sx xn xd (.slice xp xl xc) xg (.slice xv xm xe) := hr (62, some 14) (by simp); have hk := he.1; have hf := he.2; clear hr he
              go_simp
            · exact (CSQ.out wq hS.out).mono fun e w' ⟨h1, h2⟩ => ⟨h1, hid (hS.out.trans h2 (fun _ _ h => h))⟩
            refine V3.VFrom.cons (V3.VStep.val _ rfl _ rfl (.bool false) rfl rfl (fun ev wq hS he hr => ?_)) ?_
            · have r0 : ev (.tmp 63) = .bool true := hr (63, some 15) (by simp); have hk := he.1; clear hr he
              go_simp
            refine V3.VFrom.cons (V3.VStep.val _ rfl _ rfl (.bool false) rfl trivial (fun ev wq hS he hr => ?_)) ?_
            · have r0 : ev (.tmp 60) = .bool false := hr (60, some 12) (by simp); have r1 : ev (.tmp 64) = .bool false := hr (64, some 16) (by simp); have hk := he.1; clear hr he
              go_simp
            refine V3.VFrom.cons (V3.VStep.val _ rfl _ rfl (.bool false) rfl trivial (fun ev wq hS he hr => ?_)) ?_
            · have r0 : ev (.tmp 65) = .bool false := hr (65, some 17) (by simp); have hk := he.1; clear hr he
              go_simp
            refine V3.VFrom.cons (V3.VStep.val _ rfl _ rfl (itV sx xn xd (.slice xp xl xc) xg (.slice xv xm xe)) rfl rfl (fun ev wq hS he hr => ?_)) ?_
            · have r0 : ev (.tmp 3) = .pointer (some ⟨N, 0, none⟩) := hr (3, none) (by simp); have hk := he.1; clear hr he
              exact exec_loadD rfl r0 (load_item (BX.out.kept hS.out (fun h => h)))
            refine V3.VFrom.cons (V3.VStep.val _ rfl _ rfl (itV sx xn xd (.slice xp xl xc) xg (.slice xv xm xe)) rfl rfl (fun ev wq hS he hr => ?_)) ?_
            · have r0 : ev (.tmp 3) = .pointer (some ⟨N, 0, none⟩) := hr (3, none) (by simp); have hk := he.1; clear hr he
              exact exec_loadD rfl r0 (load_item (BX.out.kept hS.out (fun h => h)))
            refine V3.VFrom.cons (V3.VStep.call _ rfl _ rfl (.bool false) rfl rfl 14 #[itV sx xn xd (.slice xp xl xc) xg (.slice xv xm xe), itV sx xn xd (.slice xp xl xc) xg (.slice xv xm xe)] (fun ev wq hS he hr => ?_) (fun wq hS => ?_)) ?_
            · have r0 : ev (.tmp 67) = itV sx xn xd (.slice xp xl xc) xg (.slice xv xm xe) := hr (67, some 19) (by simp); have r1 : ev (.tmp 68) = itV sx xn xd (.slice xp xl xc) xg (.slice xv xm xe) := hr (68, some 20) (by simp); have hk := he.1; have hf := he.2; clear hr he
              go_simp
            · exact (CA.out wq hS.out).mono fun e w' ⟨h1, h2⟩ => ⟨h1, hid (hS.out.trans h2 (fun _ _ h => h))⟩
            refine V3.VFrom.cons (V3.VStep.val _ rfl _ rfl (.bool false) rfl trivial (fun ev wq hS he hr => ?_)) ?_
            · have r0 : ev (.tmp 66) = .bool false := hr (66, some 18) (by simp); have r1 : ev (.tmp 69) = .bool false := hr (69, some 21) (by simp); have hk := he.1; clear hr he
              go_simp
            exact V3.VFrom.nil
          case hS => exact hid (Kp.refl Nb w8)
          case hend =>
            intro w8b h8
            have KX := hid h8.out
            clear h8
            simp only [V3.putAll, List.zip_cons_cons, List.zip_nil_right, List.foldl_cons, List.foldl_nil, Act.put, List.setIfInBounds_toArray, List.set_cons_zero, List.set_cons_succ]
            go_upto_region 9 with fail
            refine V3.region_vals2 [none, none, none, none, none, none, none, none, none, none, none, some 6, some 7, none, none, none, none, none, none, none, none, none, none, none, none, none, none, none, none, none, none, none, none, none, none, none, none, none, none, none, none, none, none, none, none, none, none, none, none, none, none, none, none, none, none, none, none, none, none, none, none, none, none, none, none, none, none, none, none, none, none, some 0, some 1, some 2, some 3, some 4, some 5, none, none, none, none, none, none, none, none, none, none, none, none, none, none, none, none, none, none, none, none, none, none, none, none, none, none, none, none, none, none, none, none, none, none, none] [[(3, none)], [(4, none)], [(71, some 0), (72, some 1)], [(4, none)], [(5, none)], [(74, some 3), (75, some 4)], [(73, some 2)], [(76, some 5)]] [some 71, some 72, some 73, some 74, some 75, some 76, some 11, some 12] [itV sx xn xd (.slice xp xl xc) xg (.slice xv xm xe), itV sy yn yd (.slice yp yl yc) yg (.slice yv ym ye), .int .i64 p, itV sy yn yd (.slice yp yl yc) yg (.slice yv ym ye), itV sz zn zd (.slice zp zl zc) zg (.slice zv zm ze), .int .i64 q, .int .i64 p, .int .i64 q] (fun wq => Hid (Kp Nb w8 wq)) (by kernel_rfl) (by kernel_rfl) (by kernel_rfl) ?hS (V3.VFrom.all (n := 8) (by kernel_rfl) ?hstep) ?hend
            case hstep =>
              refine V3.VFrom.cons (V3.VStep.val _ rfl _ rfl (itV sx xn xd (.slice xp xl xc) xg (.slice xv xm xe)) rfl trivial (fun ev wq hS he hr => ?_)) ?_
              · have r0 : ev (.tmp 3) = .pointer (some ⟨N, 0, none⟩) := hr (3, none) (by simp); have hk := he.1; clear hr he
                exact exec_loadD rfl r0 (load_item (BX.out.kept hS.out (fun h => h)))
              refine V3.VFrom.cons (V3.VStep.val _ rfl _ rfl (itV sy yn yd (.slice yp yl yc) yg (.slice yv ym ye)) rfl trivial (fun ev wq hS he hr => ?_)) ?_
              · have r0 : ev (.tmp 4) = .pointer (some ⟨N + 1, 0, none⟩) := hr (4, none) (by simp); have hk := he.1; clear hr he
                exact exec_loadD rfl r0 (load_item (BY.out.kept hS.out (fun h => h)))
              refine V3.VFrom.cons (V3.VStep.call _ rfl _ rfl (.int .i64 p) rfl trivial 17 #[itV sx xn xd (.slice xp xl xc) xg (.slice xv xm xe), itV sy yn yd (.slice yp yl yc) yg (.slice yv ym ye)] (fun ev wq hS he hr => ?_) (fun wq hS => ?_)) ?_
              · have r0 : ev (.tmp 71) = itV sx xn xd (.slice xp xl xc) xg (.slice xv xm xe) := hr (71, some 0) (by simp); have r1 : ev (.tmp 72) = itV sy yn yd (.slice yp yl yc) yg (.slice yv ym ye) := hr (72, some 1) (by simp); have hk := he.1; have hf := he.2; clear hr he
                go_simp
              · exact (CC1.out wq hS.out).mono fun e w' ⟨h1, h2⟩ => ⟨h1, hid (hS.out.trans h2 (fun _ _ h => h))⟩
              refine V3.VFrom.cons (V3.VStep.val _ rfl _ rfl (itV sy yn yd (.slice yp yl yc) yg (.slice yv ym ye)) rfl trivial (fun ev wq hS he hr => ?_)) ?_
              · have r0 : ev (.tmp 4) = .pointer (some ⟨N + 1, 0, none⟩) := hr (4, none) (by simp); have hk := he.1; clear hr he
                exact exec_loadD rfl r0 (load_item (BY.out.kept hS.out (fun h => h)))
              refine V3.VFrom.cons (V3.VStep.val _ rfl _ rfl (itV sz zn zd (.slice zp zl zc) zg (.slice zv zm ze)) rfl trivial (fun ev wq hS he hr => ?_)) ?_
              · have r0 : ev (.tmp 5) = .pointer (some ⟨N + 1 + 1, 0, none⟩) := hr (5, none) (by simp); have hk := he.1; clear hr he
                exact exec_loadD rfl r0 (load_item (BZ.out.kept hS.out (fun h => h)))
              refine V3.VFrom.cons (V3.VStep.call _ rfl _ rfl (.int .i64 q) rfl trivial 17 #[itV sy yn yd (.slice yp yl yc) yg (.slice yv ym ye), itV sz zn zd (.slice zp zl zc) zg (.slice zv zm ze)] (fun ev wq hS he hr => ?_) (fun wq hS => ?_)) ?_
              · have r0 : ev (.tmp 74) = itV sy yn yd (.slice yp yl yc) yg (.slice yv ym ye) := hr (74, some 3) (by simp); have r1 : ev (.tmp 75) = itV sz zn zd (.slice zp zl zc) zg (.slice zv zm ze) := hr (75, some 4) (by simp); have hk := he.1; have hf := he.2; clear hr he
                go_simp
              · exact (CC2.out wq hS.out).mono fun e w' ⟨h1, h2⟩ => ⟨h1, hid (hS.out.trans h2 (fun _ _ h => h))⟩
              refine V3.VFrom.cons (V3.VStep.val _ rfl _ rfl (.int .i64 p) rfl trivial (fun ev wq hS he hr => ?_)) ?_
              · have r0 : ev (.tmp 73) = .int .i64 p := hr (73, some 2) (by simp); have hk := he.1; clear hr he
                go_simp
              refine V3.VFrom.cons (V3.VStep.val _ rfl _ rfl (.int .i64 q) rfl trivial (fun ev wq hS he hr => ?_)) ?_
              · have r0 : ev (.tmp 76) = .int .i64 q := hr (76, some 5) (by simp); have hk := he.1; clear hr he
                go_simp
              exact V3.VFrom.nil
            case hS => exact hid (KX.out.drew)
            case hend =>
              intro w9 h9
              have KY := hid h9.out
              have K9 := hid (K8.out.trans h9.out (fun _ _ h => h))
              clear h9 KX
              simp only [V3.putAll, List.zip_cons_cons, List.zip_nil_right, List.foldl_cons, List.foldl_nil, Act.put, List.setIfInBounds_toArray, List.set_cons_zero, List.set_cons_succ]
              go_upto_region 10 with fail
              by_cases hpl : p ≤ 0
              · by_cases hql : q ≤ 0
                · have HP : Hid (p ≤ 0) := hid hpl
                  have HQ : Hid (q ≤ 0) := hid hql
                  have HR : Hid (r ≤ 0) := hid (HORD.out.2.2 hpl hql)
                  clear hpl hql
                  refine V3.region_valsF [none, none, none, none, none, none, some 35, none, none, none, none, none, none, none, none, none, none, none, none, none, none, none, none, none, none, none, none, none, none, none, none, none, none, none, none, none, none, none, none, none, none, none, none, none, none, none, none, none, none, none, none, none, none, none, none, none, none, none, none, none, none, none, none, none, none, none, none, none, none, none, none, none, none, none, none, none, none, some 0, some 1, some 2, some 3, some 4, some 5, some 6, some 7, some 8, some 9, some 10, some 11, some 12, some 13, some 14, some 15, some 16, some 17, some 18, some 19, some 20, some 21, some 22, some 23, some 24, some 25, some 26, some 27, some 28, some 29, some 30, some 31, some 32, some 33, some 34] [[(11, none)], [(4, none)], [(3, none)], [(78, some 1), (79, some 2)], [(80, some 3)], [(77, some 0), (81, some 4)], [(82, some 5)], [(11, none)], [(84, some 7)], [(3, none)], [(4, none)], [(86, some 9), (87, some 10)], [(85, some 8), (88, some 11)], [(83, some 6), (89, some 12)], [(90, some 13)], [(11, none)], [(92, some 15)], [(93, some 16)], [(12, none)], [(95, some 18)], [(94, some 17), (96, some 19)], [(11, none)], [(98, some 21)], [(99, some 22)], [(12, none)], [(101, some 24)], [(100, some 23), (102, some 25)], [(103, some 26)], [(3, none)], [(5, none)], [(105, some 28), (106, some 29)], [(107, some 30)], [(104, some 27), (108, some 31)], [(97, some 20), (109, some 32)], [(91, some 14), (110, some 33)], [(111, some 34)]] [some 77, some 78, some 79, some 80, some 81, some 82, some 83, some 84, some 85, some 86, some 87, some 88, some 89, some 90, some 91, some 92, some 93, some 94, some 95, some 96, some 97, some 98, some 99, some 100, some 101, some 102, some 103, some 104, some 105, some 106, some 107, some 108, some 109, some 110, some 111, some 6] [.int .i64 p, itV sy yn yd (.slice yp yl yc) yg (.slice yv ym ye), itV sx xn xd (.slice xp xl xc) xg (.slice xv xm xe), .int .i64 pn, .int .i64 p, .bool true, .bool true, .int .i64 p, .bool bz, itV sx xn xd (.slice xp xl xc) xg (.slice xv xm xe), itV sy yn yd (.slice yp yl yc) yg (.slice yv ym ye), .bool bz, .bool true, .bool true, .bool true, .int .i64 p, .bool true, .bool true, .int .i64 q, .bool true, .bool true, .int .i64 p, .bool true, .bool true, .int .i64 q, .bool true, .bool true, .bool true, itV sx xn xd (.slice xp xl xc) xg (.slice xv xm xe), itV sz zn zd (.slice zp zl zc) zg (.slice zv zm ze), .int .i64 r, .bool true, .bool true, .bool true, .bool true, .bool true] (fun wq => Hid (Kp Nb w8 wq)) (by kernel_rfl) (by kernel_rfl) ?hS (V3.VFrom.all (n := 36) (by kernel_rfl) ?hstep) ?hend
                  case hstep =>
                    refine V3.VFrom.cons (V3.VStep.val _ rfl _ rfl (.int .i64 p) rfl trivial (fun ev wq hS he hr => ?_)) ?_
                    · have r0 : ev (.tmp 11) = .int .i64 p := hr (11, none) (by simp); have hk := he.1; clear hr he
                      go_simp
                    refine V3.VFrom.cons (V3.VStep.val _ rfl _ rfl (itV sy yn yd (.slice yp yl yc) yg (.slice yv ym ye)) rfl trivial (fun ev wq hS he hr => ?_)) ?_
                    · have r0 : ev (.tmp 4) = .pointer (some ⟨N + 1, 0, none⟩) := hr (4, none) (by simp); have hk := he.1; clear hr he
                      exact exec_loadD rfl r0 (load_item (BY.out.kept hS.out (fun h => h)))
                    refine V3.VFrom.cons (V3.VStep.val _ rfl _ rfl (itV sx xn xd (.slice xp xl xc) xg (.slice xv xm xe)) rfl trivial (fun ev wq hS he hr => ?_)) ?_
                    · have r0 : ev (.tmp 3) = .pointer (some ⟨N, 0, none⟩) := hr (3, none) (by simp); have hk := he.1; clear hr he
                      exact exec_loadD rfl r0 (load_item (BX.out.kept hS.out (fun h => h)))
                    refine V3.VFrom.cons (V3.VStep.call _ rfl _ rfl (.int .i64 pn) rfl trivial 17 #[itV sy yn yd (.slice yp yl yc) yg (.slice yv ym ye), itV sx xn xd (.slice xp xl xc) xg (.slice xv xm xe)] (fun ev wq hS he hr => ?_) (fun wq hS => ?_)) ?_
                    · have r0 : ev (.tmp 78) = itV sy yn yd (.slice yp yl yc) yg (.slice yv ym ye) := hr (78, some 1) (by simp); have r1 : ev (.tmp 79) = itV sx xn xd (.slice xp xl xc) xg (.slice xv xm xe) := hr (79, some 2) (by simp); have hk := he.1; have hf := he.2; clear hr he
                      go_simp
                    · exact (CC3.out wq hS.out).mono fun e w' ⟨h1, h2⟩ => ⟨h1, hid (hS.out.trans h2 (fun _ _ h => h))⟩
                    refine V3.VFrom.cons (V3.VStep.val _ rfl _ rfl (.int .i64 p) rfl trivial (fun ev wq hS he hr => ?_)) ?_
                    · have r0 : ev (.tmp 80) = .int .i64 pn := hr (80, some 3) (by simp); have hk := he.1; clear hr he
                      have e1 := HNG.out; go_simp
                    refine V3.VFrom.cons (V3.VStep.val _ rfl _ rfl (.bool true) rfl trivial (fun ev wq hS he hr => ?_)) ?_
                    · have r0 : ev (.tmp 77) = .int .i64 p := hr (77, some 0) (by simp); have r1 : ev (.tmp 81) = .int .i64 p := hr (81, some 4) (by simp); have hk := he.1; clear hr he
                      have e1 : (p == p) = true := by simp
                      go_simp
                    refine V3.VFrom.cons (V3.VStep.val _ rfl _ rfl (.bool true) rfl trivial (fun ev wq hS he hr => ?_)) ?_
                    · have r0 : ev (.tmp 82) = .bool true := hr (82, some 5) (by simp); have hk := he.1; clear hr he
                      go_simp
                    refine V3.VFrom.cons (V3.VStep.val _ rfl _ rfl (.int .i64 p) rfl rfl (fun ev wq hS he hr => ?_)) ?_
                    · have r0 : ev (.tmp 11) = .int .i64 p := hr (11, none) (by simp); have hk := he.1; clear hr he
                      go_simp
                    refine V3.VFrom.cons (V3.VStep.val _ rfl _ rfl (.bool bz) rfl rfl (fun ev wq hS he hr => ?_)) ?_
                    · have r0 : ev (.tmp 84) = .int .i64 p := hr (84, some 7) (by simp); have hk := he.1; clear hr he
                      have e1 := HPZ.out
                      go_simp
                    refine V3.VFrom.cons (V3.VStep.val _ rfl _ rfl (itV sx xn xd (.slice xp xl xc) xg (.slice xv xm xe)) rfl rfl (fun ev wq hS he hr => ?_)) ?_
                    · have r0 : ev (.tmp 3) = .pointer (some ⟨N, 0, none⟩) := hr (3, none) (by simp); have hk := he.1; clear hr he
                      exact exec_loadD rfl r0 (load_item (BX.out.kept hS.out (fun h => h)))
                    refine V3.VFrom.cons (V3.VStep.val _ rfl _ rfl (itV sy yn yd (.slice yp yl yc) yg (.slice yv ym ye)) rfl rfl (fun ev wq hS he hr => ?_)) ?_
                    · have r0 : ev (.tmp 4) = .pointer (some ⟨N + 1, 0, none⟩) := hr (4, none) (by simp); have hk := he.1; clear hr he
                      exact exec_loadD rfl r0 (load_item (BY.out.kept hS.out (fun h => h)))
                    refine V3.VFrom.cons (V3.VStep.call _ rfl _ rfl (.bool bz) rfl rfl 12 #[itV sx xn xd (.slice xp xl xc) xg (.slice xv xm xe), itV sy yn yd (.slice yp yl yc) yg (.slice yv ym ye)] (fun ev wq hS he hr => ?_) (fun wq hS => ?_)) ?_
                    · have r0 : ev (.tmp 86) = itV sx xn xd (.slice xp xl xc) xg (.slice xv xm xe) := hr (86, some 9) (by simp); have r1 : ev (.tmp 87) = itV sy yn yd (.slice yp yl yc) yg (.slice yv ym ye) := hr (87, some 10) (by simp); have hk := he.1; have hf := he.2; clear hr he
                      go_simp
                    · exact (CSX.out wq hS.out).mono fun e w' ⟨h1, h2⟩ => ⟨h1, hid (hS.out.trans h2 (fun _ _ h => h))⟩
                    refine V3.VFrom.cons (V3.VStep.val _ rfl _ rfl (.bool true) rfl rfl (fun ev wq hS he hr => ?_)) ?_
                    · have r0 : ev (.tmp 85) = .bool bz := hr (85, some 8) (by simp); have r1 : ev (.tmp 88) = .bool bz := hr (88, some 11) (by simp); have hk := he.1; clear hr he
                      have e1 : (bz == bz) = true := by simp
                      go_simp
                    refine V3.VFrom.cons (V3.VStep.val _ rfl _ rfl (.bool true) rfl trivial (fun ev wq hS he hr => ?_)) ?_
                    · have r0 : ev (.tmp 83) = .bool true := hr (83, some 6) (by simp); have r1 : ev (.tmp 89) = .bool true := hr (89, some 12) (by simp); have hk := he.1; clear hr he
                      go_simp
                    refine V3.VFrom.cons (V3.VStep.val _ rfl _ rfl (.bool true) rfl trivial (fun ev wq hS he hr => ?_)) ?_
                    · have r0 : ev (.tmp 90) = .bool true := hr (90, some 13) (by simp); have hk := he.1; clear hr he
                      go_simp
                    refine V3.VFrom.cons (V3.VStep.val _ rfl _ rfl (.int .i64 p) rfl rfl (fun ev wq hS he hr => ?_)) ?_
                    · have r0 : ev (.tmp 11) = .int .i64 p := hr (11, none) (by simp); have hk := he.1; clear hr he
                      go_simp
                    refine V3.VFrom.cons (V3.VStep.val _ rfl _ rfl (.bool true) rfl rfl (fun ev wq hS he hr => ?_)) ?_
                    · have r0 : ev (.tmp 92) = .int .i64 p := hr (92, some 15) (by simp); have hk := he.1; clear hr he
                      have e1 := HP.out
                      go_simp
                    refine V3.VFrom.cons (V3.VStep.val _ rfl _ rfl (.bool true) rfl rfl (fun ev wq hS he hr => ?_)) ?_
                    · have r0 : ev (.tmp 93) = .bool true := hr (93, some 16) (by simp); have hk := he.1; clear hr he
                      go_simp
                    refine V3.VFrom.cons (V3.VStep.val _ rfl _ rfl (.int .i64 q) rfl rfl (fun ev wq hS he hr => ?_)) ?_
                    · have r0 : ev (.tmp 12) = .int .i64 q := hr (12, none) (by simp); have hk := he.1; clear hr he
                      go_simp
                    refine V3.VFrom.cons (V3.VStep.val _ rfl _ rfl (.bool true) rfl rfl (fun ev wq hS he hr => ?_)) ?_
                    · have r0 : ev (.tmp 95) = .int .i64 q := hr (95, some 18) (by simp); have hk := he.1; clear hr he
                      have e1 := HQ.out
                      go_simp
                    refine V3.VFrom.cons (V3.VStep.val _ rfl _ rfl (.bool true) rfl rfl (fun ev wq hS he hr => ?_)) ?_
                    · have r0 : ev (.tmp 94) = .bool true := hr (94, some 17) (by simp); have r1 : ev (.tmp 96) = .bool true := hr (96, some 19) (by simp); have hk := he.1; clear hr he
                      go_simp
                    refine V3.VFrom.cons (V3.VStep.val _ rfl _ rfl (.int .i64 p) rfl rfl (fun ev wq hS he hr => ?_)) ?_
                    · have r0 : ev (.tmp 11) = .int .i64 p := hr (11, none) (by simp); have hk := he.1; clear hr he
                      go_simp
                    refine V3.VFrom.cons (V3.VStep.val _ rfl _ rfl (.bool true) rfl rfl (fun ev wq hS he hr => ?_)) ?_
                    · have r0 : ev (.tmp 98) = .int .i64 p := hr (98, some 21) (by simp); have hk := he.1; clear hr he
                      have e1 := HP.out
                      go_simp
                    refine V3.VFrom.cons (V3.VStep.val _ rfl _ rfl (.bool true) rfl rfl (fun ev wq hS he hr => ?_)) ?_
                    · have r0 : ev (.tmp 99) = .bool true := hr (99, some 22) (by simp); have hk := he.1; clear hr he
                      go_simp
                    refine V3.VFrom.cons (V3.VStep.val _ rfl _ rfl (.int .i64 q) rfl rfl (fun ev wq hS he hr => ?_)) ?_
                    · have r0 : ev (.tmp 12) = .int .i64 q := hr (12, none) (by simp); have hk := he.1; clear hr he
                      go_simp
                    refine V3.VFrom.cons (V3.VStep.val _ rfl _ rfl (.bool true) rfl rfl (fun ev wq hS he hr => ?_)) ?_
                    · have r0 : ev (.tmp 101) = .int .i64 q := hr (101, some 24) (by simp); have hk := he.1; clear hr he
                      have e1 := HQ.out
                      go_simp
                    refine V3.VFrom.cons (V3.VStep.val _ rfl _ rfl (.bool true) rfl rfl (fun ev wq hS he hr => ?_)) ?_
                    · have r0 : ev (.tmp 100) = .bool true := hr (100, some 23) (by simp); have r1 : ev (.tmp 102) = .bool true := hr (102, some 25) (by simp); have hk := he.1; clear hr he
                      go_simp
                    refine V3.VFrom.cons (V3.VStep.val _ rfl _ rfl (.bool true) rfl rfl (fun ev wq hS he hr => ?_)) ?_
                    · have r0 : ev (.tmp 103) = .bool true := hr (103, some 26) (by simp); have hk := he.1; clear hr he
                      go_simp
                    refine V3.VFrom.cons (V3.VStep.val _ rfl _ rfl (itV sx xn xd (.slice xp xl xc) xg (.slice xv xm xe)) rfl rfl (fun ev wq hS he hr => ?_)) ?_
                    · have r0 : ev (.tmp 3) = .pointer (some ⟨N, 0, none⟩) := hr (3, none) (by simp); have hk := he.1; clear hr he
                      exact exec_loadD rfl r0 (load_item (BX.out.kept hS.out (fun h => h)))
                    refine V3.VFrom.cons (V3.VStep.val _ rfl _ rfl (itV sz zn zd (.slice zp zl zc) zg (.slice zv zm ze)) rfl rfl (fun ev wq hS he hr => ?_)) ?_
                    · have r0 : ev (.tmp 5) = .pointer (some ⟨N + 1 + 1, 0, none⟩) := hr (5, none) (by simp); have hk := he.1; clear hr he
                      exact exec_loadD rfl r0 (load_item (BZ.out.kept hS.out (fun h => h)))
                    refine V3.VFrom.cons (V3.VStep.call _ rfl _ rfl (.int .i64 r) rfl rfl 17 #[itV sx xn xd (.slice xp xl xc) xg (.slice xv xm xe), itV sz zn zd (.slice zp zl zc) zg (.slice zv zm ze)] (fun ev wq hS he hr => ?_) (fun wq hS => ?_)) ?_
                    · have r0 : ev (.tmp 105) = itV sx xn xd (.slice xp xl xc) xg (.slice xv xm xe) := hr (105, some 28) (by simp); have r1 : ev (.tmp 106) = itV sz zn zd (.slice zp zl zc) zg (.slice zv zm ze) := hr (106, some 29) (by simp); have hk := he.1; have hf := he.2; clear hr he
                      go_simp
                    · exact (CC4.out wq hS.out).mono fun e w' ⟨h1, h2⟩ => ⟨h1, hid (hS.out.trans h2 (fun _ _ h => h))⟩
                    refine V3.VFrom.cons (V3.VStep.val _ rfl _ rfl (.bool true) rfl rfl (fun ev wq hS he hr => ?_)) ?_
                    · have r0 : ev (.tmp 107) = .int .i64 r := hr (107, some 30) (by simp); have hk := he.1; clear hr he
                      have e1 := HR.out
                      go_simp
                    refine V3.VFrom.cons (V3.VStep.val _ rfl _ rfl (.bool true) rfl rfl (fun ev wq hS he hr => ?_)) ?_
                    · have r0 : ev (.tmp 104) = .bool true := hr (104, some 27) (by simp); have r1 : ev (.tmp 108) = .bool true := hr (108, some 31) (by simp); have hk := he.1; clear hr he
                      go_simp
                    refine V3.VFrom.cons (V3.VStep.val _ rfl _ rfl (.bool true) rfl rfl (fun ev wq hS he hr => ?_)) ?_
                    · have r0 : ev (.tmp 97) = .bool true := hr (97, some 20) (by simp); have r1 : ev (.tmp 109) = .bool true := hr (109, some 32) (by simp); have hk := he.1; clear hr he
                      go_simp
                    refine V3.VFrom.cons (V3.VStep.val _ rfl _ rfl (.bool true) rfl trivial (fun ev wq hS he hr => ?_)) ?_
                    · have r0 : ev (.tmp 91) = .bool true := hr (91, some 14) (by simp); have r1 : ev (.tmp 110) = .bool true := hr (110, some 33) (by simp); have hk := he.1; clear hr he
                      go_simp
                    refine V3.VFrom.cons (V3.VStep.val _ rfl _ rfl (.bool true) rfl trivial (fun ev wq hS he hr => ?_)) ?_
                    · have r0 : ev (.tmp 111) = .bool true := hr (111, some 34) (by simp); have hk := he.1; clear hr he
                      go_simp
                    exact V3.VFrom.nil
                  case hS => exact KY
                  case hend =>
                    intro wa ha
                    have KF := hid (K8.out.trans ha.out (fun _ _ h => h))
                    clear ha
                    simp only [V3.putAll, List.zip_cons_cons, List.zip_nil_right, List.foldl_cons, List.foldl_nil, Act.put, List.setIfInBounds_toArray, List.set_cons_zero, List.set_cons_succ]
                    go_wp2
                    go_ret
                    exact ⟨rfl, KF.out⟩
                · have HP : Hid (p ≤ 0) := hid hpl
                  have HQ : Hid (¬ q ≤ 0) := hid hql
                  clear hpl hql
                  refine V3.region_valsF [none, none, none, none, none, none, some 35, none, none, none, none, none, none, none, none, none, none, none, none, none, none, none, none, none, none, none, none, none, none, none, none, none, none, none, none, none, none, none, none, none, none, none, none, none, none, none, none, none, none, none, none, none, none, none, none, none, none, none, none, none, none, none, none, none, none, none, none, none, none, none, none, none, none, none, none, none, none, some 0, some 1, some 2, some 3, some 4, some 5, some 6, some 7, some 8, some 9, some 10, some 11, some 12, some 13, some 14, some 15, some 16, some 17, some 18, some 19, some 20, some 21, some 22, some 23, some 24, some 25, some 26, some 27, some 28, some 29, some 30, some 31, some 32, some 33, some 34] [[(11, none)], [(4, none)], [(3, none)], [(78, some 1), (79, some 2)], [(80, some 3)], [(77, some 0), (81, some 4)], [(82, some 5)], [(11, none)], [(84, some 7)], [(3, none)], [(4, none)], [(86, some 9), (87, some 10)], [(85, some 8), (88, some 11)], [(83, some 6), (89, some 12)], [(90, some 13)], [(11, none)], [(92, some 15)], [(93, some 16)], [(12, none)], [(95, some 18)], [(94, some 17), (96, some 19)], [(11, none)], [(98, some 21)], [(99, some 22)], [(12, none)], [(101, some 24)], [(100, some 23), (102, some 25)], [(103, some 26)], [(3, none)], [(5, none)], [(105, some 28), (106, some 29)], [(107, some 30)], [(104, some 27), (108, some 31)], [(97, some 20), (109, some 32)], [(91, some 14), (110, some 33)], [(111, some 34)]] [some 77, some 78, some 79, some 80, some 81, some 82, some 83, some 84, some 85, some 86, some 87, some 88, some 89, some 90, some 91, some 92, some 93, some 94, some 95, some 96, some 97, some 98, some 99, some 100, some 101, some 102, some 103, some 104, some 105, some 106, some 107, some 108, some 109, some 110, some 111, some 6] [.int .i64 p, itV sy yn yd (.slice yp yl yc) yg (.slice yv ym ye), itV sx xn xd (.slice xp xl xc) xg (.slice xv xm xe), .int .i64 pn, .int .i64 p, .bool true, .bool true, .int .i64 p, .bool bz, itV sx xn xd (.slice xp xl xc) xg (.slice xv xm xe), itV sy yn yd (.slice yp yl yc) yg (.slice yv ym ye), .bool bz, .bool true, .bool true, .bool true, .int .i64 p, .bool true, .bool true, .int .i64 q, .bool false, .bool false, .int .i64 p, .bool true, .bool true, .int .i64 q, .bool false, .bool false, .bool false, undef, undef, undef, undef, .bool false, .bool true, .bool true, .bool true] (fun wq => Hid (Kp Nb w8 wq)) (by kernel_rfl) (by kernel_rfl) ?hS (V3.VFrom.all (n := 36) (by kernel_rfl) ?hstep) ?hend
                  case hstep =>
                    refine V3.VFrom.cons (V3.VStep.val _ rfl _ rfl (.int .i64 p) rfl trivial (fun ev wq hS he hr => ?_)) ?_
                    · have r0 : ev (.tmp 11) = .int .i64 p := hr (11, none) (by simp); have hk := he.1; clear hr he
                      go_simp
                    refine V3.VFrom.cons (V3.VStep.val _ rfl _ rfl (itV sy yn yd (.slice yp yl yc) yg (.slice yv ym ye)) rfl trivial (fun ev wq hS he hr => ?_)) ?_
                    · have r0 : ev (.tmp 4) = .pointer (some ⟨N + 1, 0, none⟩) := hr (4, none) (by simp); have hk := he.1; clear hr he
                      exact exec_loadD rfl r0 (load_item (BY.out.kept hS.out (fun h => h)))
                    refine V3.VFrom.cons (V3.VStep.val _ rfl _ rfl (itV sx xn xd (.slice xp xl xc) xg (.slice xv xm xe)) rfl trivial (fun ev wq hS he hr => ?_)) ?_
                    · have r0 : ev (.tmp 3) = .pointer (some ⟨N, 0, none⟩) := hr (3, none) (by simp); have hk := he.1; clear hr he
                      exact exec_loadD rfl r0 (load_item (BX.out.kept hS.out (fun h => h)))
                    refine V3.VFrom.cons (V3.VStep.call _ rfl _ rfl (.int .i64 pn) rfl trivial 17 #[itV sy yn yd (.slice yp yl yc) yg (.slice yv ym ye), itV sx xn xd (.slice xp xl xc) xg (.slice xv xm xe)] (fun ev wq hS he hr => ?_) (fun wq hS => ?_)) ?_
                    · have r0 : ev (.tmp 78) = itV sy yn yd (.slice yp yl yc) yg (.slice yv ym ye) := hr (78, some 1) (by simp); have r1 : ev (.tmp 79) = itV sx xn xd (.slice xp xl xc) xg (.slice xv xm xe) := hr (79, some 2) (by simp); have hk := he.1; have hf := he.2; clear hr he
                      go_simp
                    · exact (CC3.out wq hS.out).mono fun e w' ⟨h1, h2⟩ => ⟨h1, hid (hS.out.trans h2 (fun _ _ h => h))⟩
                    refine V3.VFrom.cons (V3.VStep.val _ rfl _ rfl (.int .i64 p) rfl trivial (fun ev wq hS he hr => ?_)) ?_
                    · have r0 : ev (.tmp 80) = .int .i64 pn := hr (80, some 3) (by simp); have hk := he.1; clear hr he
                      have e1 := HNG.out; go_simp
                    refine V3.VFrom.cons (V3.VStep.val _ rfl _ rfl (.bool true) rfl trivial (fun ev wq hS he hr => ?_)) ?_
                    · have r0 : ev (.tmp 77) = .int .i64 p := hr (77, some 0) (by simp); have r1 : ev (.tmp 81) = .int .i64 p := hr (81, some 4) (by simp); have hk := he.1; clear hr he
                      have e1 : (p == p) = true := by simp
                      go_simp
                    refine V3.VFrom.cons (V3.VStep.val _ rfl _ rfl (.bool true) rfl trivial (fun ev wq hS he hr => ?_)) ?_
                    · have r0 : ev (.tmp 82) = .bool true := hr (82, some 5) (by simp); have hk := he.1; clear hr he
                      go_simp
                    refine V3.VFrom.cons (V3.VStep.val _ rfl _ rfl (.int .i64 p) rfl rfl (fun ev wq hS he hr => ?_)) ?_
                    · have r0 : ev (.tmp 11) = .int .i64 p := hr (11, none) (by simp); have hk := he.1; clear hr he
                      go_simp
                    refine V3.VFrom.cons (V3.VStep.val _ rfl _ rfl (.bool bz) rfl rfl (fun ev wq hS he hr => ?_)) ?_
                    · have r0 : ev (.tmp 84) = .int .i64 p := hr (84, some 7) (by simp); have hk := he.1; clear hr he
                      have e1 := HPZ.out
                      go_simp
                    refine V3.VFrom.cons (V3.VStep.val _ rfl _ rfl (itV sx xn xd (.slice xp xl xc) xg (.slice xv xm xe)) rfl rfl (fun ev wq hS he hr => ?_)) ?_
                    · have r0 : ev (.tmp 3) = .pointer (some ⟨N, 0, none⟩) := hr (3, none) (by simp); have hk := he.1; clear hr he
                      exact exec_loadD rfl r0 (load_item (BX.out.kept hS.out (fun h => h)))
                    refine V3.VFrom.cons (V3.VStep.val _ rfl _ rfl (itV sy yn yd (.slice yp yl yc) yg (.slice yv ym ye)) rfl rfl (fun ev wq hS he hr => ?_)) ?_
                    · have r0 : ev (.tmp 4) = .pointer (some ⟨N + 1, 0, none⟩) := hr (4, none) (by simp); have hk := he.1; clear hr he
                      exact exec_loadD rfl r0 (load_item (BY.out.kept hS.out (fun h => h)))
                    refine V3.VFrom.cons (V3.VStep.call _ rfl _ rfl (.bool bz) rfl rfl 12 #[itV sx xn xd (.slice xp xl xc) xg (.slice xv xm xe), itV sy yn yd (.slice yp yl yc) yg (.slice yv ym ye)] (fun ev wq hS he hr => ?_) (fun wq hS => ?_)) ?_
                    · have r0 : ev (.tmp 86) = itV sx xn xd (.slice xp xl xc) xg (.slice xv xm xe) := hr (86, some 9) (by simp); have r1 : ev (.tmp 87) = itV sy yn yd (.slice yp yl yc) yg (.slice yv ym ye) := hr (87, some 10) (by simp); have hk := he.1; have hf := he.2; clear hr he
                      go_simp
                    · exact (CSX.out wq hS.out).mono fun e w' ⟨h1, h2⟩ => ⟨h1, hid (hS.out.trans h2 (fun _ _ h => h))⟩
                    refine V3.VFrom.cons (V3.VStep.val _ rfl _ rfl (.bool true) rfl rfl (fun ev wq hS he hr => ?_)) ?_
                    · have r0 : ev (.tmp 85) = .bool bz := hr (85, some 8) (by simp); have r1 : ev (.tmp 88) = .bool bz := hr (88, some 11) (by simp); have hk := he.1; clear hr he
                      have e1 : (bz == bz) = true := by simp
                      go_simp
                    refine V3.VFrom.cons (V3.VStep.val _ rfl _ rfl (.bool true) rfl trivial (fun ev wq hS he hr => ?_)) ?_
                    · have r0 : ev (.tmp 83) = .bool true := hr (83, some 6) (by simp); have r1 : ev (.tmp 89) = .bool true := hr (89, some 12) (by simp); have hk := he.1; clear hr he
                      go_simp
                    refine V3.VFrom.cons (V3.VStep.val _ rfl _ rfl (.bool true) rfl trivial (fun ev wq hS he hr => ?_)) ?_
                    · have r0 : ev (.tmp 90) = .bool true := hr (90, some 13) (by simp); have hk := he.1; clear hr he
                      go_simp
                    refine V3.VFrom.cons (V3.VStep.val _ rfl _ rfl (.int .i64 p) rfl rfl (fun ev wq hS he hr => ?_)) ?_
                    · have r0 : ev (.tmp 11) = .int .i64 p := hr (11, none) (by simp); have hk := he.1; clear hr he
                      go_simp
                    refine V3.VFrom.cons (V3.VStep.val _ rfl _ rfl (.bool true) rfl rfl (fun ev wq hS he hr => ?_)) ?_
                    · have r0 : ev (.tmp 92) = .int .i64 p := hr (92, some 15) (by simp); have hk := he.1; clear hr he
                      have e1 := HP.out
                      go_simp
                    refine V3.VFrom.cons (V3.VStep.val _ rfl _ rfl (.bool true) rfl rfl (fun ev wq hS he hr => ?_)) ?_
                    · have r0 : ev (.tmp 93) = .bool true := hr (93, some 16) (by simp); have hk := he.1; clear hr he
                      go_simp
                    refine V3.VFrom.cons (V3.VStep.val _ rfl _ rfl (.int .i64 q) rfl rfl (fun ev wq hS he hr => ?_)) ?_
                    · have r0 : ev (.tmp 12) = .int .i64 q := hr (12, none) (by simp); have hk := he.1; clear hr he
                      go_simp
                    refine V3.VFrom.cons (V3.VStep.val _ rfl _ rfl (.bool false) rfl rfl (fun ev wq hS he hr => ?_)) ?_
                    · have r0 : ev (.tmp 95) = .int .i64 q := hr (95, some 18) (by simp); have hk := he.1; clear hr he
                      have e1 := HQ.out
                      go_simp
                    refine V3.VFrom.cons (V3.VStep.val _ rfl _ rfl (.bool false) rfl rfl (fun ev wq hS he hr => ?_)) ?_
                    · have r0 : ev (.tmp 94) = .bool true := hr (94, some 17) (by simp); have r1 : ev (.tmp 96) = .bool false := hr (96, some 19) (by simp); have hk := he.1; clear hr he
                      go_simp
                    refine V3.VFrom.cons (V3.VStep.val _ rfl _ rfl (.int .i64 p) rfl rfl (fun ev wq hS he hr => ?_)) ?_
                    · have r0 : ev (.tmp 11) = .int .i64 p := hr (11, none) (by simp); have hk := he.1; clear hr he
                      go_simp
                    refine V3.VFrom.cons (V3.VStep.val _ rfl _ rfl (.bool true) rfl rfl (fun ev wq hS he hr => ?_)) ?_
                    · have r0 : ev (.tmp 98) = .int .i64 p := hr (98, some 21) (by simp); have hk := he.1; clear hr he
                      have e1 := HP.out
                      go_simp
                    refine V3.VFrom.cons (V3.VStep.val _ rfl _ rfl (.bool true) rfl rfl (fun ev wq hS he hr => ?_)) ?_
                    · have r0 : ev (.tmp 99) = .bool true := hr (99, some 22) (by simp); have hk := he.1; clear hr he
                      go_simp
                    refine V3.VFrom.cons (V3.VStep.val _ rfl _ rfl (.int .i64 q) rfl rfl (fun ev wq hS he hr => ?_)) ?_
                    · have r0 : ev (.tmp 12) = .int .i64 q := hr (12, none) (by simp); have hk := he.1; clear hr he
                      go_simp
                    refine V3.VFrom.cons (V3.VStep.val _ rfl _ rfl (.bool false) rfl rfl (fun ev wq hS he hr => ?_)) ?_
                    · have r0 : ev (.tmp 101) = .int .i64 q := hr (101, some 24) (by simp); have hk := he.1; clear hr he
                      have e1 := HQ.out
                      go_simp
                    refine V3.VFrom.cons (V3.VStep.val _ rfl _ rfl (.bool false) rfl rfl (fun ev wq hS he hr => ?_)) ?_
                    · have r0 : ev (.tmp 100) = .bool true := hr (100, some 23) (by simp); have r1 : ev (.tmp 102) = .bool false := hr (102, some 25) (by simp); have hk := he.1; clear hr he
                      go_simp
                    refine V3.VFrom.cons (V3.VStep.val _ rfl _ rfl (.bool false) rfl rfl (fun ev wq hS he hr => ?_)) ?_
                    · have r0 : ev (.tmp 103) = .bool false := hr (103, some 26) (by simp); have hk := he.1; clear hr he
                      go_simp
                    refine V3.VFrom.cons (V3.VStep.skip _ rfl rfl rfl) ?_
                    refine V3.VFrom.cons (V3.VStep.skip _ rfl rfl rfl) ?_
                    refine V3.VFrom.cons (V3.VStep.skip _ rfl rfl rfl) ?_
                    refine V3.VFrom.cons (V3.VStep.skip _ rfl rfl rfl) ?_
                    refine V3.VFrom.cons (V3.VStep.val _ rfl _ rfl (.bool false) rfl rfl (fun ev wq hS he hr => ?_)) ?_
                    · have r0 : ev (.tmp 104) = .bool false := hr (104, some 27) (by simp); have r1 : ev (.tmp 108) = undef := hr (108, some 31) (by simp); have hk := he.1; clear hr he
                      go_simp
                    refine V3.VFrom.cons (V3.VStep.val _ rfl _ rfl (.bool true) rfl rfl (fun ev wq hS he hr => ?_)) ?_
                    · have r0 : ev (.tmp 97) = .bool false := hr (97, some 20) (by simp); have r1 : ev (.tmp 109) = .bool false := hr (109, some 32) (by simp); have hk := he.1; clear hr he
                      go_simp
                    refine V3.VFrom.cons (V3.VStep.val _ rfl _ rfl (.bool true) rfl trivial (fun ev wq hS he hr => ?_)) ?_
                    · have r0 : ev (.tmp 91) = .bool true := hr (91, some 14) (by simp); have r1 : ev (.tmp 110) = .bool true := hr (110, some 33) (by simp); have hk := he.1; clear hr he
                      go_simp
                    refine V3.VFrom.cons (V3.VStep.val _ rfl _ rfl (.bool true) rfl trivial (fun ev wq hS he hr => ?_)) ?_
                    · have r0 : ev (.tmp 111) = .bool true := hr (111, some 34) (by simp); have hk := he.1; clear hr he
                      go_simp
                    exact V3.VFrom.nil
                  case hS => exact KY
                  case hend =>
                    intro wa ha
                    have KF := hid (K8.out.trans ha.out (fun _ _ h => h))
                    clear ha
                    simp only [V3.putAll, List.zip_cons_cons, List.zip_nil_right, List.foldl_cons, List.foldl_nil, Act.put, List.setIfInBounds_toArray, List.set_cons_zero, List.set_cons_succ]
                    go_wp2
                    go_ret
                    exact ⟨rfl, KF.out⟩
              · have HP : Hid (¬ p ≤ 0) := hid hpl
                clear hpl
                refine V3.region_valsF [none, none, none, none, none, none, some 35, none, none, none, none, none, none, none, none, none, none, none, none, none, none, none, none, none, none, none, none, none, none, none, none, none, none, none, none, none, none, none, none, none, none, none, none, none, none, none, none, none, none, none, none, none, none, none, none, none, none, none, none, none, none, none, none, none, none, none, none, none, none, none, none, none, none, none, none, none, none, some 0, some 1, some 2, some 3, some 4, some 5, some 6, some 7, some 8, some 9, some 10, some 11, some 12, some 13, some 14, some 15, some 16, some 17, some 18, some 19, some 20, some 21, some 22, some 23, some 24, some 25, some 26, some 27, some 28, some 29, some 30, some 31, some 32, some 33, some 34] [[(11, none)], [(4, none)], [(3, none)], [(78, some 1), (79, some 2)], [(80, some 3)], [(77, some 0), (81, some 4)], [(82, some 5)], [(11, none)], [(84, some 7)], [(3, none)], [(4, none)], [(86, some 9), (87, some 10)], [(85, some 8), (88, some 11)], [(83, some 6), (89, some 12)], [(90, some 13)], [(11, none)], [(92, some 15)], [(93, some 16)], [(12, none)], [(95, some 18)], [(94, some 17), (96, some 19)], [(11, none)], [(98, some 21)], [(99, some 22)], [(12, none)], [(101, some 24)], [(100, some 23), (102, some 25)], [(103, some 26)], [(3, none)], [(5, none)], [(105, some 28), (106, some 29)], [(107, some 30)], [(104, some 27), (108, some 31)], [(97, some 20), (109, some 32)], [(91, some 14), (110, some 33)], [(111, some 34)]] [some 77, some 78, some 79, some 80, some 81, some 82, some 83, some 84, some 85, some 86, some 87, some 88, some 89, some 90, some 91, some 92, some 93, some 94, some 95, some 96, some 97, some 98, some 99, some 100, some 101, some 102, some 103, some 104, some 105, some 106, some 107, some 108, some 109, some 110, some 111, some 6] [.int .i64 p, itV sy yn yd (.slice yp yl yc) yg (.slice yv ym ye), itV sx xn xd (.slice xp xl xc) xg (.slice xv xm xe), .int .i64 pn, .int .i64 p, .bool true, .bool true, .int .i64 p, .bool bz, itV sx xn xd (.slice xp xl xc) xg (.slice xv xm xe), itV sy yn yd (.slice yp yl yc) yg (.slice yv ym ye), .bool bz, .bool true, .bool true, .bool true, .int .i64 p, .bool false, .bool false, undef, undef, .bool false, .int .i64 p, .bool false, .bool false, undef, undef, .bool false, .bool false, undef, undef, undef, undef, .bool false, .bool true, .bool true, .bool true] (fun wq => Hid (Kp Nb w8 wq)) (by kernel_rfl) (by kernel_rfl) ?hS (V3.VFrom.all (n := 36) (by kernel_rfl) ?hstep) ?hend
                case hstep =>
                  refine V3.VFrom.cons (V3.VStep.val _ rfl _ rfl (.int .i64 p) rfl trivial (fun ev wq hS he hr => ?_)) ?_
                  · have r0 : ev (.tmp 11) = .int .i64 p := hr (11, none) (by simp); have hk := he.1; clear hr he
                    go_simp
                  refine V3.VFrom.cons (V3.VStep.val _ rfl _ rfl (itV sy yn yd (.slice yp yl yc) yg (.slice yv ym ye)) rfl trivial (fun ev wq hS he hr => ?_)) ?_
                  · have r0 : ev (.tmp 4) = .pointer (some ⟨N + 1, 0, none⟩) := hr (4, none) (by simp); have hk := he.1; clear hr he
                    exact exec_loadD rfl r0 (load_item (BY.out.kept hS.out (fun h => h)))
                  refine V3.VFrom.cons (V3.VStep.val _ rfl _ rfl (itV sx xn xd (.slice xp xl xc) xg (.slice xv xm xe)) rfl trivial (fun ev wq hS he hr => ?_)) ?_
                  · have r0 : ev (.tmp 3) = .pointer (some ⟨N, 0, none⟩) := hr (3, none) (by simp); have hk := he.1; clear hr he
                    exact exec_loadD rfl r0 (load_item (BX.out.kept hS.out (fun h => h)))
                  refine V3.VFrom.cons (V3.VStep.call _ rfl _ rfl (.int .i64 pn) rfl trivial 17 #[itV sy yn yd (.slice yp yl yc) yg (.slice yv ym ye), itV sx xn xd (.slice xp xl xc) xg (.slice xv xm xe)] (fun ev wq hS he hr => ?_) (fun wq hS => ?_)) ?_
                  · have r0 : ev (.tmp 78) = itV sy yn yd (.slice yp yl yc) yg (.slice yv ym ye) := hr (78, some 1) (by simp); have r1 : ev (.tmp 79) = itV sx xn xd (.slice xp xl xc) xg (.slice xv xm xe) := hr (79, some 2) (by simp); have hk := he.1; have hf := he.2; clear hr he
                    go_simp
                  · exact (CC3.out wq hS.out).mono fun e w' ⟨h1, h2⟩ => ⟨h1, hid (hS.out.trans h2 (fun _ _ h => h))⟩
                  refine V3.VFrom.cons (V3.VStep.val _ rfl _ rfl (.int .i64 p) rfl trivial (fun ev wq hS he hr => ?_)) ?_
                  · have r0 : ev (.tmp 80) = .int .i64 pn := hr (80, some 3) (by simp); have hk := he.1; clear hr he
                    have e1 := HNG.out; go_simp
                  refine V3.VFrom.cons (V3.VStep.val _ rfl _ rfl (.bool true) rfl trivial (fun ev wq hS he hr => ?_)) ?_
                  · have r0 : ev (.tmp 77) = .int .i64 p := hr (77, some 0) (by simp); have r1 : ev (.tmp 81) = .int .i64 p := hr (81, some 4) (by simp); have hk := he.1; clear hr he
                    have e1 : (p == p) = true := by simp
                    go_simp
                  refine V3.VFrom.cons (V3.VStep.val _ rfl _ rfl (.bool true) rfl trivial (fun ev wq hS he hr => ?_)) ?_
                  · have r0 : ev (.tmp 82) = .bool true := hr (82, some 5) (by simp); have hk := he.1; clear hr he
                    go_simp
                  refine V3.VFrom.cons (V3.VStep.val _ rfl _ rfl (.int .i64 p) rfl rfl (fun ev wq hS he hr => ?_)) ?_
                  · have r0 : ev (.tmp 11) = .int .i64 p := hr (11, none) (by simp); have hk := he.1; clear hr he
                    go_simp
                  refine V3.VFrom.cons (V3.VStep.val _ rfl _ rfl (.bool bz) rfl rfl (fun ev wq hS he hr => ?_)) ?_
                  · have r0 : ev (.tmp 84) = .int .i64 p := hr (84, some 7) (by simp); have hk := he.1; clear hr he
                    have e1 := HPZ.out
                    go_simp
                  refine V3.VFrom.cons (V3.VStep.val _ rfl _ rfl (itV sx xn xd (.slice xp xl xc) xg (.slice xv xm xe)) rfl rfl (fun ev wq hS he hr => ?_)) ?_
                  · have r0 : ev (.tmp 3) = .pointer (some ⟨N, 0, none⟩) := hr (3, none) (by simp); have hk := he.1; clear hr he
                    exact exec_loadD rfl r0 (load_item (BX.out.kept hS.out (fun h => h)))
                  refine V3.VFrom.cons (V3.VStep.val _ rfl _ rfl (itV sy yn yd (.slice yp yl yc) yg (.slice yv ym ye)) rfl rfl (fun ev wq hS he hr => ?_)) ?_
                  · have r0 : ev (.tmp 4) = .pointer (some ⟨N + 1, 0, none⟩) := hr (4, none) (by simp); have hk := he.1; clear hr he
                    exact exec_loadD rfl r0 (load_item (BY.out.kept hS.out (fun h => h)))
                  refine V3.VFrom.cons (V3.VStep.call _ rfl _ rfl (.bool bz) rfl rfl 12 #[itV sx xn xd (.slice xp xl xc) xg (.slice xv xm xe), itV sy yn yd (.slice yp yl yc) yg (.slice yv ym ye)] (fun ev wq hS he hr => ?_) (fun wq hS => ?_)) ?_
                  · have r0 : ev (.tmp 86) = itV sx xn xd (.slice xp xl xc) xg (.slice xv xm xe) := hr (86, some 9) (by simp); have r1 : ev (.tmp 87) = itV sy yn yd (.slice yp yl yc) yg (.slice yv ym ye) := hr (87, some 10) (by simp); have hk := he.1; have hf := he.2; clear hr he
                    go_simp
                  · exact (CSX.out wq hS.out).mono fun e w' ⟨h1, h2⟩ => ⟨h1, hid (hS.out.trans h2 (fun _ _ h => h))⟩
                  refine V3.VFrom.cons (V3.VStep.val _ rfl _ rfl (.bool true) rfl rfl (fun ev wq hS he hr => ?_)) ?_
                  · have r0 : ev (.tmp 85) = .bool bz := hr (85, some 8) (by simp); have r1 : ev (.tmp 88) = .bool bz := hr (88, some 11) (by simp); have hk := he.1; clear hr he
                    have e1 : (bz == bz) = true := by simp
                    go_simp
                  refine V3.VFrom.cons (V3.VStep.val _ rfl _ rfl (.bool true) rfl trivial (fun ev wq hS he hr => ?_)) ?_
                  · have r0 : ev (.tmp 83) = .bool true := hr (83, some 6) (by simp); have r1 : ev (.tmp 89) = .bool true := hr (89, some 12) (by simp); have hk := he.1; clear hr he
                    go_simp
                  refine V3.VFrom.cons (V3.VStep.val _ rfl _ rfl (.bool true) rfl trivial (fun ev wq hS he hr => ?_)) ?_
                  · have r0 : ev (.tmp 90) = .bool true := hr (90, some 13) (by simp); have hk := he.1; clear hr he
                    go_simp
                  refine V3.VFrom.cons (V3.VStep.val _ rfl _ rfl (.int .i64 p) rfl rfl (fun ev wq hS he hr => ?_)) ?_
                  · have r0 : ev (.tmp 11) = .int .i64 p := hr (11, none) (by simp); have hk := he.1; clear hr he
                    go_simp
                  refine V3.VFrom.cons (V3.VStep.val _ rfl _ rfl (.bool false) rfl rfl (fun ev wq hS he hr => ?_)) ?_
                  · have r0 : ev (.tmp 92) = .int .i64 p := hr (92, some 15) (by simp); have hk := he.1; clear hr he
                    have e1 := HP.out
                    go_simp
                  refine V3.VFrom.cons (V3.VStep.val _ rfl _ rfl (.bool false) rfl rfl (fun ev wq hS he hr => ?_)) ?_
                  · have r0 : ev (.tmp 93) = .bool false := hr (93, some 16) (by simp); have hk := he.1; clear hr he
                    go_simp
                  refine V3.VFrom.cons (V3.VStep.skip _ rfl rfl rfl) ?_
                  refine V3.VFrom.cons (V3.VStep.skip _ rfl rfl rfl) ?_
                  refine V3.VFrom.cons (V3.VStep.val _ rfl _ rfl (.bool false) rfl rfl (fun ev wq hS he hr => ?_)) ?_
                  · have r0 : ev (.tmp 94) = .bool false := hr (94, some 17) (by simp); have r1 : ev (.tmp 96) = undef := hr (96, some 19) (by simp); have hk := he.1; clear hr he
                    go_simp
                  refine V3.VFrom.cons (V3.VStep.val _ rfl _ rfl (.int .i64 p) rfl rfl (fun ev wq hS he hr => ?_)) ?_
                  · have r0 : ev (.tmp 11) = .int .i64 p := hr (11, none) (by simp); have hk := he.1; clear hr he
                    go_simp
                  refine V3.VFrom.cons (V3.VStep.val _ rfl _ rfl (.bool false) rfl rfl (fun ev wq hS he hr => ?_)) ?_
                  · have r0 : ev (.tmp 98) = .int .i64 p := hr (98, some 21) (by simp); have hk := he.1; clear hr he
                    have e1 := HP.out
                    go_simp
                  refine V3.VFrom.cons (V3.VStep.val _ rfl _ rfl (.bool false) rfl rfl (fun ev wq hS he hr => ?_)) ?_
                  · have r0 : ev (.tmp 99) = .bool false := hr (99, some 22) (by simp); have hk := he.1; clear hr he
                    go_simp
                  refine V3.VFrom.cons (V3.VStep.skip _ rfl rfl rfl) ?_
                  refine V3.VFrom.cons (V3.VStep.skip _ rfl rfl rfl) ?_
                  refine V3.VFrom.cons (V3.VStep.val _ rfl _ rfl (.bool false) rfl rfl (fun ev wq hS he hr => ?_)) ?_
                  · have r0 : ev (.tmp 100) = .bool false := hr (100, some 23) (by simp); have r1 : ev (.tmp 102) = undef := hr (102, some 25) (by simp); have hk := he.1; clear hr he
                    go_simp
                  refine V3.VFrom.cons (V3.VStep.val _ rfl _ rfl (.bool false) rfl rfl (fun ev wq hS he hr => ?_)) ?_
                  · have r0 : ev (.tmp 103) = .bool false := hr (103, some 26) (by simp); have hk := he.1; clear hr he
                    go_simp
                  refine V3.VFrom.cons (V3.VStep.skip _ rfl rfl rfl) ?_
                  refine V3.VFrom.cons (V3.VStep.skip _ rfl rfl rfl) ?_
                  refine V3.VFrom.cons (V3.VStep.skip _ rfl rfl rfl) ?_
                  refine V3.VFrom.cons (V3.VStep.skip _ rfl rfl rfl) ?_
                  refine V3.VFrom.cons (V3.VStep.val _ rfl _ rfl (.bool false) rfl rfl (fun ev wq hS he hr => ?_)) ?_
                  · have r0 : ev (.tmp 104) = .bool false := hr (104, some 27) (by simp); have r1 : ev (.tmp 108) = undef := hr (108, some 31) (by simp); have hk := he.1; clear hr he
                    go_simp
                  refine V3.VFrom.cons (V3.VStep.val _ rfl _ rfl (.bool true) rfl rfl (fun ev wq hS he hr => ?_)) ?_
                  · have r0 : ev (.tmp 97) = .bool false := hr (97, some 20) (by simp); have r1 : ev (.tmp 109) = .bool false := hr (109, some 32) (by simp); have hk := he.1; clear hr he
                    go_simp
                  refine V3.VFrom.cons (V3.VStep.val _ rfl _ rfl (.bool true) rfl trivial (fun ev wq hS he hr => ?_)) ?_
                  · have r0 : ev (.tmp 91) = .bool true := hr (91, some 14) (by simp); have r1 : ev (.tmp 110) = .bool true := hr (110, some 33) (by simp); have hk := he.1; clear hr he
                    go_simp
                  refine V3.VFrom.cons (V3.VStep.val _ rfl _ rfl (.bool true) rfl trivial (fun ev wq hS he hr => ?_)) ?_
                  · have r0 : ev (.tmp 111) = .bool true := hr (111, some 34) (by simp); have hk := he.1; clear hr he
                    go_simp
                  exact V3.VFrom.nil
                case hS => exact KY
                case hend =>
                  intro wa ha
                  have KF := hid (K8.out.trans ha.out (fun _ _ h => h))
                  clear ha
                  simp only [V3.putAll, List.zip_cons_cons, List.zip_nil_right, List.foldl_cons, List.foldl_nil, Act.put, List.setIfInBounds_toArray, List.set_cons_zero, List.set_cons_succ]
                  go_wp2
                  go_ret
                  exact ⟨rfl, KF.out⟩

end Go.Proofs.YtogoophofgkboaaGreatDoor

namespace Go.Proofs.YtogoophofgkboaaGreatDoor
open Go.ChangeShapes Go.WideShapes Go.ChangeAt Go.RowKit

set_option maxRecDepth 100000 in
theorem vback_lifted (os : Os) (started : os.Started) (H : Type) (enc : TypeId × Value → H) :
    ReturnsInHanded {} Tryz.checked os 6 .any (fun w args => (Rows.verBackSpec.pre enc Tryz.prog Tryz.f6 [] false w args ∧ laidMetH Tryz.prog dtLaid w) ∧ sizedMet enc Tryz.prog Tryz.f6 (OpenSpec.ofChange Rows.verBackSpec) false w args)
      (Rows.verBackSpec.post enc Tryz.prog Tryz.f6 false true false false) := by
  refine handed_dt (C := Tryz.checked) own started (by kernel_rfl) Tryz.func6
    (ChangeSpec.witness_shaped (enc := enc) (C := Tryz.checked) (os := os) (X := fun w _ => laidMetH Tryz.prog dtLaid w) false (World.laidAll Tryz.prog os dtLaid) #[.agg #[.string ⟨#[]⟩, .int .i64 0, .int .i64 0, .slice none 0 0, .bool false, .slice none 0 0], .agg #[.string ⟨#[]⟩, .int .i64 0, .int .i64 0, .slice none 0 0, .bool false, .slice none 0 0], .agg #[.string ⟨#[]⟩, .int .i64 0, .int .i64 0, .slice none 0 0, .bool false, .slice none 0 0]] 8 (World.laidAll_os _ _ _)
      (World.shaped_of_ZipB (by kernel_rfl) (by kernel_rfl)) (by kernel_rfl) (by kernel_rfl) (by kernel_rfl) (laid_met os _)) ?_
  intro W base args ds gs before hval0 hW hL hsh
  have hval : ∀ (j : Nat) t v, Tryz.f6.params[j]? = some t → args[j]? = some v → Value.okWide Tryz.prog W .any base t v := hval0
  have hW' := hW
  obtain ⟨p, q, hA0, hV, rfl, hfz, hnd⟩ := hW
  have hA : DataW.TrodAll enc Tryz.prog W 0 (fun _ => true) true Tryz.f6.params.toList args.toList ds p := hA0
  rw [Tryz.params6] at hA hval
  obtain ⟨v0, vs0, d0, ds0, p0, q0, hargs, rfl, rfl, h0, r0⟩ := trodAll_cons hA
  obtain ⟨v1, vs1, d1, ds1, p1, q1, rfl, rfl, rfl, h1, r1⟩ := trodAll_cons r0
  obtain ⟨v2, vs2, d2, ds2, p2, q2, rfl, rfl, rfl, h2, r2⟩ := trodAll_cons r1
  obtain ⟨rfl, rfl, rfl⟩ := trodAll_nil r2
  obtain rfl : args = #[v0, v1, v2] := by cases args; simp_all
  obtain ⟨rfl, rfl⟩ := trodVars_none hV
  have lt0 : ∀ x ∈ p0, x.block < W.heap.size := by obtain ⟨m, hm⟩ := h0; exact DataW.trod_lt m _ _ _ hm
  have lt1 : ∀ x ∈ p1, x.block < W.heap.size := by obtain ⟨m, hm⟩ := h1; exact DataW.trod_lt m _ _ _ hm
  have lt2 : ∀ x ∈ p2, x.block < W.heap.size := by obtain ⟨m, hm⟩ := h2; exact DataW.trod_lt m _ _ _ hm
  obtain ⟨x0, vp0, vv0, rfl, O0, LO0⟩ := open_itemv (hval 0 28 v0 rfl rfl) h0
  obtain ⟨x1, vp1, vv1, rfl, O1, LO1⟩ := open_itemv (hval 1 28 v1 rfl rfl) h1
  obtain ⟨x2, vp2, vv2, rfl, O2, LO2⟩ := open_itemv (hval 2 28 v2 rfl rfl) h2
  have ht := tab_of_laid hL
  have he := ev_of_laid hL
  have hm := mx_of_shape hsh
  clear hA0 hval0
  refine (vback_any x0 x1 x2 vp0 vv0 vp1 vv1 vp2 vv2 W O0 O1 O2 LO0 LO1 LO2 hm he ht).mono fun e W' ⟨he, kp⟩ => ?_
  subst he
  have bel : Below W.heap.size W W' := kp.below (Nat.le_refl _) (fun _ _ h => h)
  exact ⟨_, rfl, _, _, _, [], _, [], hW', trodAll_mk1 (shut_bool Tryz.underlying4 _), (trodAll_cons_mk (Below.trod laidOut (by kernel_rfl) (of_decide_eq_true (by kernel_rfl)) h0 bel lt0) (trodAll_cons_mk (Below.trod laidOut (by kernel_rfl) (of_decide_eq_true (by kernel_rfl)) h1 bel lt1) (trodAll_cons_mk (Below.trod laidOut (by kernel_rfl) (of_decide_eq_true (by kernel_rfl)) h2 bel lt2) trodAll_mk0))), rfl, bel.frame _, fun h => by cases h⟩

theorem vback_over : Rows.verBackRow.holds Tryz.pinned (OpenSpec.ofChange Rows.verBackSpec) :=
  OpenClaim.holds_of_wide 6 Tryz.f6 rfl rfl rfl rfl rfl rfl rfl ⟨rfl, rfl, rfl, rfl, rfl⟩ rfl rfl rfl rfl rfl (by kernel_rfl) Tryz.func6 (by kernel_rfl)
    (of_decide_eq_true (by kernel_rfl)) (by unfold Func.isWrapper; first | (rw [if_pos (by decide +kernel)]; kernel_rfl) | (rw [if_neg (by decide +kernel)]; exact ⟨rfl, rfl⟩))
    (fun os started H enc _ => vback_lifted os started H enc)

theorem vback_said : Rows.VerBackCardSaid :=
  Claim7.holds_tied_plain_at .later [] [.data, .data, .data, .data, .sentinel, .sentinel, .pinned] true _ true
    vback_over (fun _ h => by cases h) (by kernel_rfl) (fun _ h => by cases h) verBack_row_tie rfl ⟨rfl, rfl⟩ (by kernel_rfl) rfl
    (fun f fn hf hfn => by
      obtain rfl : f = 6 := Option.some.inj ((show Tryz.prog.funcNamed "gleanings/gleaningslaw04.VerBack" = some 6 by kernel_rfl).symm.trans hf) |>.symm
      obtain rfl : fn = Tryz.f6 := (Option.some.inj (Tryz.func6.symm.trans hfn)).symm
      exact ⟨by kernel_rfl, fun j t ht => by
        rw [Tryz.params6] at ht
        have hm : t ∈ [28, 28, 28] := by simpa using Array.mem_of_getElem? ht
        have hall : ([28, 28, 28].all fun u => !Tryz.prog.wantsStandIn u) = true := by kernel_rfl
        exact (show Tryz.prog.wantsStandIn t = false by simpa using List.all_eq_true.1 hall t hm)⟩)
    (by kernel_rfl)
end Go.Proofs.YtogoophofgkboaaGreatDoor
