/-
  Of the texts VeAe, VTellsProof what is used. No condition but what each says.
-/
import Derived.Test.YtogoophofgkboaaGreatDoorRu
import Derived.Test.YtogoophofgkboaaGreatDoorRv
import Derived.Deep.CutBlock
import Derived.Deep.DeepCutAuto
import Derived.Test.YtogoophofgkboaaGreatDoorRj
import Derived.Test.YtogoophofgkboaaGreatDoorCards
import Derived.Test.YtogoophofgkboaaGreatDoorTie
import Derived.ChangeSame
import Derived.ChangeVars
import Derived.SevenTiedAt
namespace Go.Proofs.YtogoophofgkboaaGreatDoor
section
open Go.RowKit
theorem two_range {W : World} {G t : Nat} {A B : List Value} (hb : Blk W G t (A ++ B)) (ha : A.length = 6) : W.rangeAt G 0 A ∧ W.rangeAt G 6 B := by
  refine ⟨hb.range 0 _ (fun j hj => ?_), hb.range 6 _ (fun j hj => ?_)⟩
  · rw [Nat.zero_add, List.getElem?_append_left hj]
  · rw [List.getElem?_append_right (by omega), ha, show 6 + j - 6 = j by omega]
theorem load_mk4 {w : World} {B : Nat} {ms : List Int} (hl : ms.length = 16) (h : Blk w B 30 (ms.map (Value.int .u8))) : (Instr.loadAt 30 (.pointer (some ⟨B, 0, none⟩))).run Tryz.prog w = .ok (.agg (ms.map (Value.int .u8)).toArray) w :=
  run_loadAt_mid w B 0 30 (ms.map (Value.int .u8)) _ (range_ofR h) under_mark rfl (by rw [List.length_map, hl]; kernel_rfl)
theorem exec_sliceE {P : Program} {ev : Operand → Value} {o : Oper} {T : TypeId} {x : Operand} {a v : Value} {w w' : World} (ho : o.op = .slice T x none none none) (hx : ev x = a) (hl : (Instr.sliceAt T a none none none).run P w = .ok v w') : (execOp ev o).run P w = .ok (.value v) w' := by
  unfold execOp
  simp only [ho, hx, Option.map_none, Sem.run_bind, Sem.run_pure, Result.andThen_ok, hl]
theorem slice_mk4 (B : Nat) (w : World) : (Instr.sliceAt 30 (.pointer (some ⟨B, 0, none⟩)) none none none).run Tryz.prog w = .ok (.slice (some ⟨B, 0, none⟩) 16 16) w := by
  kernel_rfl
theorem conv_mk {w : World} {B : Nat} {ms : List Int} (hz : IsBytes ms) (hl : ms.length = 16) (h : Blk w B 30 (ms.map (Value.int .u8))) : (convert 26 9 (.slice (some ⟨B, 0, none⟩) 16 16)).run Tryz.prog w = .ok (.string (st ms)) w := by
  have hb : BySl Nb w (.slice (some ⟨B, 0, none⟩) ms.length 16) ms := ⟨hz, .inr ⟨B, 0, 16, rfl, by omega, by unfold maxLen; omega, fun i hi => by
    rw [h.cell]
    rw [Nat.zero_add, List.getElem?_map, List.getElem?_eq_getElem hi]
    rfl, fun _ h => h⟩⟩
  have := conv_any hb
  rwa [hl] at this
def VrA (w : World) (yv : Option Addr) (nV : Nat) : Prop := (0 < nV → ∃ g vs, yv = some ⟨g, 0, none⟩ ∧ Blk w g 5 vs ∧ ∀ j, j < nV → ∃ z, vs[j]? = some (.int .u8 z))
def PrA (w : World) (yp : Option Addr) (nP : Nat) : Prop := (0 < nP → ∃ g vs, yp = some ⟨g, 0, none⟩ ∧ Blk w g 38 vs ∧ ∀ j, j < nP → ∃ z, vs[j * 3 + 2]? = some (.int .i64 z))
def OwA (n : Nat) (yv : Option Addr) (b : Nat) : Prop := 0 < n ∧ yv.map (·.block) = some b
theorem own_A {yv : Option Addr} {n m c b : Nat} (h : OwA n yv b) : (Value.slice yv m c).ownBlock = some b := by
  cases yv with
  | none => cases h.2
  | some a =>
    obtain ⟨-, h⟩ := h
    injection h with h
    subst h
    rfl
theorem PrA.beside {W W' : World} {yv yp : Option Addr} {nV nP : Nat} (hp : PrA W yp nP) (hv : VrA W yv nV) (k : Kp (OwA nV yv) W W') : PrA W' yp nP := fun h0 => by
  obtain ⟨g, vs, e, hb, hz⟩ := hp h0
  refine ⟨g, vs, e, hb.kept k (fun h => ?_), hz⟩
  obtain ⟨g2, vs2, e2, hb2, -⟩ := hv h.1
  have h2 := h.2
  rw [e2] at h2
  injection h2 with h2
  have h2 : g2 = g := h2
  subst h2
  unfold Blk at hb hb2
  rw [hb] at hb2
  injection hb2 with hb2
  injection hb2 with _ h3 _
  exact absurd h3 (by decide)
theorem VrA.kept {W W' : World} {yv : Option Addr} {nV : Nat} {S : Nat → Prop} (hv : VrA W yv nV) (k : Kp S W W') (hs : ∀ b, OwA nV yv b → ¬ S b) : VrA W' yv nV := fun h0 => by
  obtain ⟨g, vs, e, hb, hz⟩ := hv h0
  exact ⟨g, vs, e, hb.kept k (hs g ⟨h0, by rw [e]; rfl⟩), hz⟩
theorem PrA.kept {W W' : World} {yv : Option Addr} {nV : Nat} {S : Nat → Prop} (hv : PrA W yv nV) (k : Kp S W W') (hs : ∀ b, OwA nV yv b → ¬ S b) : PrA W' yv nV := fun h0 => by
  obtain ⟨g, vs, e, hb, hz⟩ := hv h0
  exact ⟨g, vs, e, hb.kept k (hs g ⟨h0, by rw [e]; rfl⟩), hz⟩
def TvR (W : World) (yv : Option Addr) (nV : Nat) (i : Value) (wr : World) : Prop := ∃ k : Nat, k ≤ nV ∧ i = .int .i64 k ∧ Hid (Kp (OwA nV yv) W wr) ∧ Hid (VrA wr yv nV)
def TpR (W : World) (yp : Option Addr) (nP : Nat) (i : Value) (wr : World) : Prop := ∃ k : Nat, k ≤ nP ∧ i = .int .i64 k ∧ Hid (Kp (OwA nP yp) W wr) ∧ Hid (PrA wr yp nP)
theorem VrA.set {W : World} {g n k : Nat} {vs : List Value} (hb : Blk W g 5 vs) (hz : ∀ j, j < n → ∃ z, vs[j]? = some (.int .u8 z)) (hk : k < n) (z : Int) : VrA (W.setCell ⟨g, k, none⟩ (.int .u8 z)) (some ⟨g, 0, none⟩) n := fun _ => by
  refine ⟨g, _, rfl, hb.set k _, fun j hj => ?_⟩
  by_cases e : k = j
  · subst e
    obtain ⟨z0, h0⟩ := hz k hk
    exact ⟨z, by rw [List.getElem?_set_self (List.getElem?_eq_some_iff.1 h0).1]⟩
  · rw [List.getElem?_set_ne e]
    exact hz j hj
theorem PrA.set {W : World} {g n k : Nat} {vs : List Value} (hb : Blk W g 38 vs) (hz : ∀ j, j < n → ∃ z, vs[j * 3 + 2]? = some (.int .i64 z)) (hk : k < n) (z : Int) : PrA (W.setCell ⟨g, k * 3 + 2, none⟩ (.int .i64 z)) (some ⟨g, 0, none⟩) n := fun _ => by
  refine ⟨g, _, rfl, hb.set (k * 3 + 2) _, fun j hj => ?_⟩
  by_cases e : k = j
  · subst e
    obtain ⟨z0, h0⟩ := hz k hk
    exact ⟨z, by rw [List.getElem?_set_self (List.getElem?_eq_some_iff.1 h0).1]⟩
  · rw [List.getElem?_set_ne (by omega)]
    exact hz j hj
theorem ow_set {W : World} {g n k : Nat} (h0 : 0 < n) (v : Value) : Kp (OwA n (some ⟨g, 0, none⟩)) W (W.setCell ⟨g, k, none⟩ v) :=
  ((Kp.refl (Jb g) W).set k v).mono (fun i _ h => ⟨h0, congrArg some (show g = i from h.symm)⟩)
theorem val_rows {w : World} {base n c : Nat} {yv : Option Addr} {zs : List Int} (h : w.ownsRow base 5 1 (.slice yv n c) n (zs.map (Value.int .u8))) (hn : zs.length = n) : VrA w yv n := fun h0 => by
  obtain ⟨g, cap, vs, e, hb, hg, hnc, hcm, hvl, hvt⟩ := rowblk h h0
  injection e with e1 _ _
  refine ⟨g, vs, e1, hg, fun j hj => ?_⟩
  have hz : j < zs.length := by omega
  refine ⟨zs[j], ?_⟩
  rw [← List.getElem?_take_of_lt (show j < n * 1 by omega), hvt, List.getElem?_map, List.getElem?_eq_getElem hz]
  rfl
theorem past_rows {w : World} {base n c : Nat} {yp : Option Addr} {qs : List RunQ} (h : w.ownsRow base 38 3 (.slice yp n c) n (flatR runL qs)) (hn : qs.length = n) : PrA w yp n := fun h0 => by
  obtain ⟨g, cap, vs, e, hb, hg, hnc, hcm, hvl, hvt⟩ := rowblk h h0
  injection e with e1 _ _
  refine ⟨g, vs, e1, hg, fun j hj => ?_⟩
  have hR : RowsSl runL (0, 0, 0) 3 w (.slice yp n c) qs := rows_owned (by rw [hn]; exact h) (fun _ _ => rfl)
  rcases hR with ⟨⟨a, c2, e2⟩, e3⟩ | ⟨blk, off, cap2, e2, _, _, hr⟩
  · rw [e3] at hn; simp at hn; omega
  · injection e2 with e4 _ _
    rw [e1] at e4
    injection e4 with e4
    injection e4 with e5 e6 _
    subst e5 e6
    have hc := hr j (by omega) 2 _ rfl
    rw [hg.cell] at hc
    exact ⟨_, by rw [show j * 3 + 2 = 0 + j * 3 + 2 by omega]; exact hc⟩
set_option maxRecDepth 100000 in
set_option maxHeartbeats 16000000 in
theorem vtells_any (x y : ItQ) (vpx vvx vpy vvy : Value) (ms : List Int) (w : World) (hx : ItOk w x vpx vvx) (hy : ItOk w y vpy vvy) (lx : ∀ g, vpx.ownBlock = some g → g < w.heap.size) (ly : ∀ g, vpy.ownBlock = some g → g < w.heap.size) (hmz : IsBytes ms) (hml : ms.length = 16)
    (hm : Mx w) (he : Ev w) (ht : Tab w) : Calls Tryz.prog 3 #[itVq x vpx vvx, itVq y vpy vvy, .agg (ms.map (Value.int .u8)).toArray] w fun e w' => e = .returned (.bool true) ∧ Kp Nb w w' := by
  obtain ⟨xp, xc, rfl⟩ := hx.past.shape
  obtain ⟨xv, xe, rfl⟩ := by_shape hx.val
  obtain ⟨yp, yc, rfl⟩ := hy.past.shape
  obtain ⟨yv, ye, rfl⟩ := by_shape hy.val
  obtain ⟨N, hN⟩ : ∃ N, w.heap.size = N := ⟨_, rfl⟩
  obtain ⟨W, hW⟩ : ∃ W, W = ((w.alloc (.cells #[.string (st x.key), .int .i64 x.dn, .int .i64 x.dd, .slice xp x.past.length xc, .bool x.gone, .slice xv x.val.length xe] 28)).alloc (.cells #[.string (st y.key), .int .i64 y.dn, .int .i64 y.dd, .slice yp y.past.length yc, .bool y.gone, .slice yv y.val.length ye] 28)).alloc (.cells (ms.map (Value.int .u8)).toArray 30) := ⟨_, rfl⟩
  have hbx : Blk W N 28 (itL (st x.key) x.dn x.dd (.slice xp x.past.length xc) x.gone (.slice xv x.val.length xe)) := by rw [hW, ← hN]; exact ((Blk.new w _ (itL (st x.key) x.dn x.dd (.slice xp x.past.length xc) x.gone (.slice xv x.val.length xe))).alloc _).alloc _
  have hby : Blk W (N + 1) 28 (itL (st y.key) y.dn y.dd (.slice yp y.past.length yc) y.gone (.slice yv y.val.length ye)) := by
    have h := Blk.new (w.alloc (.cells #[.string (st x.key), .int .i64 x.dn, .int .i64 x.dd, .slice xp x.past.length xc, .bool x.gone, .slice xv x.val.length xe] 28)) 28 (itL (st y.key) y.dn y.dd (.slice yp y.past.length yc) y.gone (.slice yv y.val.length ye))
    simp only [World.size_alloc] at h
    rw [hW, ← hN]
    exact h.alloc _
  have hbm : Blk W (N + 1 + 1) 30 (ms.map (Value.int .u8)) := by
    have h := Blk.new ((w.alloc (.cells #[.string (st x.key), .int .i64 x.dn, .int .i64 x.dd, .slice xp x.past.length xc, .bool x.gone, .slice xv x.val.length xe] 28)).alloc (.cells #[.string (st y.key), .int .i64 y.dn, .int .i64 y.dd, .slice yp y.past.length yc, .bool y.gone, .slice yv y.val.length ye] 28)) 30 (ms.map (Value.int .u8))
    simp only [World.size_alloc] at h
    rw [hW, ← hN]
    exact h
  have BX0 := hid hbx
  have BY0 := hid hby
  have BM0 := hid hbm
  have HML := hid hml
  have HMZ := hid hmz
  have K0 : Hid (Kp Nb w W) := hid (by rw [hW]; exact (((Kp.refl Nb w).alloc _).alloc _).alloc _)
  have HSZ : Hid (N + 1 + 1 < W.heap.size) := hid hbm.lt
  have HM := hid (show Mx W ∧ Ev W ∧ Tab W from ⟨hm.kept K0.out, he.kept K0.out, ht.kept K0.out⟩)
  have OX := hid (hx.kept K0.out)
  have OY := hid (hy.kept K0.out)
  have LX := hid (fun g hg => (by have := lx g hg; have := K0.out.size; omega : g < W.heap.size))
  have LY := hid (fun g hg => (by have := ly g hg; have := K0.out.size; omega : g < W.heap.size))
  have CF := hid (first4_any W HM.out.1 HM.out.2.1 HM.out.2.2)
  have CG := hid (fun (G : Nat) (wx : World) (q : Kp Nb W wx) (hb : Blk wx G 28 ((itL (st x.key) x.dn x.dd (.slice xp x.past.length xc) x.gone (.slice xv x.val.length xe)) ++ (itL (st y.key) y.dn y.dd (.slice yp y.past.length yc) y.gone (.slice yv y.val.length ye)))) => great4_any G 2 [(x, .slice xp x.past.length xc, .slice xv x.val.length xe), (y, .slice yp y.past.length yc, .slice yv y.val.length ye)] wx rfl (by decide) (fun j hj p hp => by
    obtain ⟨r1, r2⟩ := two_range hb rfl
    match j, hj with
    | 0, _ => injection hp with hp; subst hp; exact ⟨r1, OX.out.kept q⟩
    | 1, _ => injection hp with hp; subst hp; exact ⟨r2, OY.out.kept q⟩))
  have CR1 := hid (fun wx (q : Kp Nb W wx) => iright_any x _ _ wx (OX.out.kept q))
  have CR2 := hid (fun wx (q : Kp Nb W wx) => riright_any x _ _ wx (OX.out.kept q))
  have CR3 := hid (fun wx (q : Kp Nb W wx) => riright_any y _ _ wx (OY.out.kept q))
  have CA1 := hid (fun wx (q : Kp Nb W wx) (h : x.past.length ≤ 1000) => iabove_any x y _ _ _ _ wx (OX.out.kept q) (OY.out.kept q) h)
  have CA2 := hid (fun wx (q : Kp Nb W wx) (h : x.past.length ≤ 1000) => riabove_any x y _ _ _ _ wx (OX.out.kept q) (OY.out.kept q) h)
  have CS1 := hid (fun wx (q : Kp Nb W wx) (h : x.past.length ≤ 1000) (g : y.past.length ≤ 1000) => isame_any x y _ _ _ _ wx (OX.out.kept q) (OY.out.kept q) h g)
  have CS2 := hid (fun wx (q : Kp Nb W wx) (h : x.past.length ≤ 1000) => risame_any x y _ _ _ _ wx (OX.out.kept q) (OY.out.kept q) h)
  have CC1 := hid (fun wx (q : Kp Nb W wx) (h : x.past.length ≤ 1000) (g : y.past.length ≤ 1000) => icompare_any x y _ _ _ _ wx (OX.out.kept q) (OY.out.kept q) h g (fun b hb => Nat.lt_of_lt_of_le (LX.out b hb) q.size) (fun b hb => Nat.lt_of_lt_of_le (LY.out b hb) q.size))
  have CC2 := hid (fun wx (q : Kp Nb W wx) (h : rightI x = true) (g : rightI y = true) => (by
    have := ricompare_any x y _ _ _ _ wx (OX.out.kept q) (OY.out.kept q) h g
    rwa [← cmpI_ref h OX.out.key OX.out.val.1 g OY.out.key OY.out.val.1] at this : Calls Tryz.prog 10 #[itVq x (.slice xp x.past.length xc) (.slice xv x.val.length xe), itVq y (.slice yp y.past.length yc) (.slice yv y.val.length ye)] wx fun e w' => e = .returned (.int .i64 (cmpI x y)) ∧ Kp Nb wx w'))
  have CM1 := hid (fun wx (q : Kp Nb W wx) => imark_any x _ _ wx (OX.out.kept q) (fun b hb => Nat.lt_of_lt_of_le (LX.out b hb) q.size))
  have CM2 := hid (fun wx (q : Kp Nb W wx) => rimark_any x _ _ wx (OX.out.kept q))
  have CL0 := hid (fun wx (q : Kp Nb W wx) (h : x.past.length ≤ 100000) (g : x.val.length ≤ 140737488355328) => iclone2_any x _ _ wx (OX.out.kept q) h g)
  have CSC := hid (fun wx (q : Kp Nb W wx) (vp vv : Value) (o : ItOk wx x vp vv) (h : x.past.length ≤ 1000) => (by
    have := isame_any x x _ _ _ _ wx o (OX.out.kept q) h h
    rwa [(sameI_iff x x).2 rfl] at this : Calls Tryz.prog 12 #[itVq x vp vv, itVq x (.slice xp x.past.length xc) (.slice xv x.val.length xe)] wx fun e w' => e = .returned (.bool true) ∧ Kp Nb wx w'))
  have CH1 := hid (fun wx => ihex_any ms wx HML.out HMZ.out)
  have CH2 := hid (fun wx => rhex_any ms wx HMZ.out (by have := HML.out; omega))
  have HME := hid (fun wx => (by have h := mk_eq x x wx; rwa [decide_eq_true rfl] at h : Sem.run Tryz.prog (Op.equal 30 (mkV x) (mkV x)) wx = .ok true wx))
  have HCW := hid (show ¬ (rightI x = true ∧ rightI y = true) → cmpI x y = 0 from cmpI_wrong)
  have HGB : Hid (grS [x, y] ≤ 1000 → x.past.length ≤ 1000 ∧ y.past.length ≤ 1000 ∧ x.val.length ≤ 140737488355328) := hid (by unfold grS grS grS grI; omega)
  have HPV : Hid (∀ (wx : World) (vp vv : Value) (b : Nat), wx.ownsRow b 38 3 vp x.past.length (flatR runL x.past) → wx.ownsRow b 5 1 vv x.val.length (x.val.map (Value.int .u8)) → ∃ ap cp av cv, vp = .slice ap x.past.length cp ∧ vv = .slice av x.val.length cv ∧ VrA wx av x.val.length ∧ PrA wx ap x.past.length ∧ (∀ g, (OwA x.val.length av g ∨ OwA x.past.length ap g) → b ≤ g ∧ g < wx.heap.size)) := hid (fun wx vp vv b h1 h2 => by
    obtain ⟨ap, cp, rfl⟩ := own_shape h1
    obtain ⟨av, cv, rfl⟩ := own_shape h2
    exact ⟨ap, cp, av, cv, rfl, rfl, val_rows h2 rfl, past_rows h1 rfl, fun g hg => by
      rcases hg with hg | hg
      · obtain ⟨h3, o, ho, -⟩ := row_cells h2 (own_A hg)
        exact ⟨h3, (Array.getElem?_eq_some_iff.1 ho).1⟩
      · obtain ⟨h3, o, ho, -⟩ := row_cells h1 (own_A hg)
        exact ⟨h3, (Array.getElem?_eq_some_iff.1 ho).1⟩⟩)
  obtain ⟨gr, hgr⟩ : ∃ g, grS ([(x, Value.slice xp x.past.length xc, Value.slice xv x.val.length xe), (y, Value.slice yp y.past.length yc, Value.slice yv y.val.length ye)].map (·.1)) = g := ⟨_, rfl⟩
  have hgr2 : grS [x, y] = gr := hgr
  rw [hgr] at CG
  rw [hgr2] at HGB
  obtain ⟨rx, hrx⟩ : ∃ b, rightI x = b := ⟨_, rfl⟩
  obtain ⟨ry, hry⟩ : ∃ b, rightI y = b := ⟨_, rfl⟩
  obtain ⟨ab, hab⟩ : ∃ b, aboveI x y = b := ⟨_, rfl⟩
  obtain ⟨sm, hsm⟩ : ∃ b, sameI x y = b := ⟨_, rfl⟩
  obtain ⟨cm, hcm⟩ : ∃ b, cmpI x y = b := ⟨_, rfl⟩
  obtain ⟨xI0, hxi⟩ : ∃ i, x = i := ⟨_, rfl⟩
  rw [hrx] at CR1 CR2 CC2 HCW
  rw [hry] at CR3 CC2 HCW
  rw [hab] at CA1 CA2
  rw [hsm] at CS1 CS2
  rw [hcm] at CC1 CC2 HCW
  have HXI := hid hxi
  rw [show mkV x = mkV xI0 by rw [hxi]] at CM1 CM2 HME
  obtain ⟨sm2, hsm2⟩ : ∃ b, st ms = b := ⟨_, rfl⟩
  obtain ⟨hx2, hhx⟩ : ∃ b, bs (hexL ms) = b := ⟨_, rfl⟩
  have HCV := hid (fun (wx : World) (hb : Blk wx (N + 1 + 1) 30 (ms.map (Value.int .u8))) => conv_mk HMZ.out HML.out hb)
  rw [hsm2] at CH2 HCV
  rw [hhx] at CH1 CH2
  clear hx hy hm he ht hgr hgr2 hrx hry hab hsm hcm lx ly hbx hby hbm hmz hml hsm2 hhx OX OY LX LY hxi
  unfold itVq itV at *
  obtain ⟨xk, xn, xd, xpa, xg, xva⟩ := x
  dsimp only at *
  obtain ⟨xl, hxl⟩ : ∃ n, xpa.length = n := ⟨_, rfl⟩
  obtain ⟨xm, hxm⟩ : ∃ n, xva.length = n := ⟨_, rfl⟩
  obtain ⟨sx, hsx⟩ : ∃ n, st xk = n := ⟨_, rfl⟩
  have HSx := hid (show xpa.length = xl ∧ xva.length = xm ∧ st xk = sx from ⟨hxl, hxm, hsx⟩)
  simp only [hxl, hxm, hsx] at hW BX0 CG CR1 CR2 CA1 CA2 CS1 CS2 CC1 CC2 CM1 CM2 CL0 CSC HGB HPV ⊢
  clear hxl hxm hsx
  obtain ⟨yk, yn, yd, ypa, yg, yva⟩ := y
  dsimp only at *
  obtain ⟨yl, hyl⟩ : ∃ n, ypa.length = n := ⟨_, rfl⟩
  obtain ⟨ym, hym⟩ : ∃ n, yva.length = n := ⟨_, rfl⟩
  obtain ⟨sy, hsy⟩ : ∃ n, st yk = n := ⟨_, rfl⟩
  have HSy := hid (show ypa.length = yl ∧ yva.length = ym ∧ st yk = sy from ⟨hyl, hym, hsy⟩)
  simp only [hyl, hym, hsy] at hW BY0 CG CR3 CA1 CA2 CS1 CS2 CC1 CC2 HGB ⊢
  clear hyl hym hsy
  go_enter Tryz.func3, Tryz.ntmps3
  go_upto_region 1 with fail
  try simp only [World.size_alloc, hN]
  rw [← hW]
  clear hW hN
  go_wp2_with fail
  refine CF.out.mono ?_
  rintro e w1 ⟨rfl, k1⟩
  have KW1 := hid k1
  have BX1 := hid (BX0.out.kept k1 (fun h => h))
  have BY1 := hid (BY0.out.kept k1 (fun h => h))
  clear k1 CF
  obtain ⟨G, hG⟩ : ∃ G, w1.heap.size = G := ⟨_, rfl⟩
  obtain ⟨w2, hw2⟩ : ∃ w2, w2 = w1.alloc (.cells #[.string sx, .int .i64 xn, .int .i64 xd, .slice xp xl xc, .bool xg, .slice xv xm xe, .string sy, .int .i64 yn, .int .i64 yd, .slice yp yl yc, .bool yg, .slice yv ym ye] 28) := ⟨_, rfl⟩
  have k2 : Kp Nb w1 w2 := by rw [hw2]; exact (Kp.refl Nb w1).alloc _
  have hb2 : Blk w2 G 28 ((itL sx xn xd (.slice xp xl xc) xg (.slice xv xm xe)) ++ (itL sy yn yd (.slice yp yl yc) yg (.slice yv ym ye))) := by rw [hw2, ← hG]; exact Blk.new w1 _ ((itL sx xn xd (.slice xp xl xc) xg (.slice xv xm xe)) ++ (itL sy yn yd (.slice yp yl yc) yg (.slice yv ym ye)))
  have KW2 := hid (KW1.out.trans k2 (fun _ _ h => h))
  have CGW := hid (CG.out G w2 KW2.out hb2)
  clear k2 hb2 CG
  go_upto_region 3 with fail
  go_wp2_with (first | (refine at_loadV 28 (.tmp 3) (by rfl) ?_; refine wpList_valI (by rfl) _ _ (exec_loadD (x := .tmp 3) rfl (by rfl) (load_item BX1.out)) ?_) | (refine at_loadV 28 (.tmp 4) (by rfl) ?_; refine wpList_valI (by rfl) _ _ (exec_loadD (x := .tmp 4) rfl (by rfl) (load_item BY1.out)) ?_))
  rw [← hw2]
  refine CGW.out.mono ?_
  rintro e w3 ⟨rfl, k3⟩
  have KW3 := hid (KW2.out.trans k3 (fun _ _ h => h))
  have K3 := hid (K0.out.trans KW3.out (fun _ _ h => h))
  have BX3 := hid (BX0.out.kept KW3.out (fun h => h))
  have BY3 := hid (BY0.out.kept KW3.out (fun h => h))
  clear k3 CGW hw2 hG KW2 BX1 BY1 KW1
  by_cases hg : gr > 1000
  · go_wp2
    go_ret
    exact ⟨rfl, K3.out⟩
  · have HLL := hid (HGB.out (by omega))
    clear HGB
    clear K3
    go_upto_region 6 with fail
    clear hg
    go_cut [23] (fun s23 wx => s23 = .bool (rx && ry) ∧ Hid (Kp Nb W wx))
    case first =>
      go_wp2_with (first | (refine at_loadV 28 (.tmp 3) (by rfl) ?_; refine wpList_valI (by rfl) _ _ (exec_loadD (x := .tmp 3) rfl (by rfl) (load_item BX3.out)) ?_))
      refine (CR2.out w3 KW3.out).mono ?_
      rintro e w4 ⟨rfl, k4⟩
      have KW4 := hid (KW3.out.trans k4 (fun _ _ h => h))
      have BY4 := hid (BY3.out.kept k4 (fun h => h))
      clear k4 BX3 BY3 KW3
      cases rx with
      | false =>
        go_wp2_with fail
        go_meet
        exact ⟨rfl, KW4⟩
      | true =>
        go_wp2_with (first | (refine at_loadV 28 (.tmp 4) (by rfl) ?_; refine wpList_valI (by rfl) _ _ (exec_loadD (x := .tmp 4) rfl (by rfl) (load_item BY4.out)) ?_))
        refine (CR3.out w4 KW4.out).mono ?_
        rintro e w5 ⟨rfl, k5⟩
        have KW5 := hid (KW4.out.trans k5 (fun _ _ h => h))
        clear k5 BY4 KW4
        cases ry <;>
          (go_wp2_with fail
           go_meet
           exact ⟨rfl, KW5⟩)
    case rest =>
      obtain ⟨rfl, HK5⟩ := hcut
      clear KW3 BX3 BY3 CR3
      have BX5 := hid (BX0.out.kept HK5.out (fun h => h))
      have BY5 := hid (BY0.out.kept HK5.out (fun h => h))
      go_upto_if 23 with fail
      go_cut [7] (fun s7 wx => s7 = .int .i64 cm ∧ Hid (Kp Nb W wx))
      case first =>
        rcases hrb : rx && ry with _ | _
        · obtain rfl : cm = 0 := HCW.out (by simpa using hrb)
          go_wp2_with fail
          go_meet
          exact ⟨rfl, HK5⟩
        · obtain ⟨rfl, rfl⟩ : rx = true ∧ ry = true := by simpa using hrb
          go_wp2_with (first | (refine at_loadV 28 (.tmp 3) (by rfl) ?_; refine wpList_valI (by rfl) _ _ (exec_loadD (x := .tmp 3) rfl (by rfl) (load_item BX5.out)) ?_) | (refine at_loadV 28 (.tmp 4) (by rfl) ?_; refine wpList_valI (by rfl) _ _ (exec_loadD (x := .tmp 4) rfl (by rfl) (load_item BY5.out)) ?_))
          refine (CC2.out wc HK5.out (by trivial) (by trivial)).mono ?_
          rintro e w6 ⟨rfl, k6⟩
          have KW6 := hid (HK5.out.trans k6 (fun _ _ h => h))
          clear k6
          go_wp2_with fail
          go_meet
          exact ⟨rfl, KW6⟩
      case rest =>
        obtain ⟨rfl, HK6⟩ := hcut
        clear HK5 BX5 BY5 HCW CC2
        have BX6 := hid (BX0.out.kept HK6.out (fun h => h))
        go_wp2_with (first | (refine at_loadV 28 (.tmp 3) (by rfl) ?_; refine wpList_valI (by rfl) _ _ (exec_loadD (x := .tmp 3) rfl (by rfl) (load_item BX6.out)) ?_))
        refine (CL0.out _ HK6.out (by have := HLL.out; omega) HLL.out.2.2).mono ?_
        rintro e w6 ⟨vp2, vv2, rfl, hit2, ho1, ho2, k6⟩
        obtain ⟨zp, zc, zv, ze, rfl, rfl, hvr, hpr, hzr⟩ := HPV.out w6 vp2 vv2 _ ho1 ho2
        have HV6 := hid hvr
        have HP6 := hid hpr
        have HZ6 := hid hzr
        have OC6 := hid hit2
        have KW6 := hid (HK6.out.trans k6 (fun _ _ h => h))
        have HWS : Hid (W.heap.size ≤ wc.heap.size) := hid HK6.out.size
        clear hit2 ho1 ho2 k6 hvr hpr hzr CL0 HPV HK6 BX6
        obtain ⟨C, hC⟩ : ∃ X, w6.heap.size = X := ⟨_, rfl⟩
        obtain ⟨w7, hw7⟩ : ∃ V, V = (w6.alloc (.cells #[.string ⟨#[]⟩, .int .i64 0, .int .i64 0, .slice none 0 0, .bool false, .slice none 0 0] 28)).setCells C 0 (itL sx xn xd (.slice zp xl zc) xg (.slice zv xm ze)) := ⟨_, rfl⟩
        have hzC : Blk (w6.alloc (.cells #[.string ⟨#[]⟩, .int .i64 0, .int .i64 0, .slice none 0 0, .bool false, .slice none 0 0] 28)) C 28 (itL ⟨#[]⟩ 0 0 (.slice none 0 0) false (.slice none 0 0)) := by rw [← hC]; exact Blk.new w6 _ (itL ⟨#[]⟩ 0 0 (.slice none 0 0) false (.slice none 0 0))
        have kw7 : Kp Nb w6 w7 := by rw [hw7]; exact Kp.setCells (fun h => absurd h (by omega)) _ 0 _ ((Kp.refl Nb w6).alloc _)
        have BC := hid (show Blk w7 C 28 (itL sx xn xd (.slice zp xl zc) xg (.slice zv xm ze)) by rw [hw7]; exact row_set hzC rfl)
        have THC := hid (item_there (ks := sx) (dn := xn) (dd := xd) (vp := .slice zp xl zc) (vv := .slice zv xm ze) (g := xg) hzC rfl)
        clear hzC
        have KW7 := hid (KW6.out.trans kw7 (fun _ _ h => h))
        have HV7 := hid (HV6.out.kept kw7 (fun _ _ h => h))
        have HP7 := hid (HP6.out.kept kw7 (fun _ _ h => h))
        have HZ7 : Hid (∀ g, (OwA xm zv g ∨ OwA xl zp g) → W.heap.size ≤ g ∧ g < C) := hid (fun g hg => by have := HZ6.out g hg; have := HWS.out; have := hC; omega)
        have OC7 := hid (OC6.out.kept kw7)
        have BX7 := hid (BX0.out.kept KW7.out (fun h => h))
        clear kw7 HV6 HP6 HZ6 OC6 KW6 HWS
        go_upto_region 9 with (first | (refine at_storeV 28 (.tmp 8) (.tmp 28) (by rfl) ?_; refine wpList_store_mid (by rfl) 28 (.tmp 8) (.tmp 28) (by rfl) C 0 (itL sx xn xd (.slice zp xl zc) xg (.slice zv xm ze)).toArray (by rfl) (by rfl) THC.out item_info (item_one _ _ _ _ _ _ _ _ _ _) ?_))
        try rw [hC]
        rw [show (w6.alloc (.cells #[.string ⟨#[]⟩, .int .i64 0, .int .i64 0, .slice none 0 0, .bool false, .slice none 0 0] 28)).setCells C 0 (itL sx xn xd (.slice zp xl zc) xg (.slice zv xm ze)) = w7 from hw7.symm]
        clear hw7 THC hC
        go_wp2_with (first | (refine at_loadV 28 (.tmp 3) (by rfl) ?_; refine wpList_valI (by rfl) _ _ (exec_loadD (x := .tmp 3) rfl (by rfl) (load_item BX7.out)) ?_) | (refine at_loadV 28 (.tmp 8) (by rfl) ?_; refine wpList_valI (by rfl) _ _ (exec_loadD (x := .tmp 8) rfl (by rfl) (load_item BC.out)) ?_))
        refine (CSC.out w7 KW7.out _ _ OC7.out HLL.out.1).mono ?_
        rintro e w8 ⟨rfl, k8⟩
        have KW8 := hid (KW7.out.trans k8 (fun _ _ h => h))
        have HV8 := hid (HV7.out.kept k8 (fun _ _ h => h))
        have HP8 := hid (HP7.out.kept k8 (fun _ _ h => h))
        have BC8 := hid (BC.out.kept k8 (fun h => h))
        clear k8 CSC HV7 HP7 OC7 BX7 BC KW7
        have e5 : w8.cell? ⟨C, 5, none⟩ = some (.slice zv xm ze) := BC8.out.cell 5
        go_wp2_with fail
        clear e5
        trace_state
        go_loopw [36] (TvR w8 zv xm) (fun i _ => xm - (intOf i).toNat)
        case atStart => exact ⟨0, Nat.zero_le _, rfl, hid (Kp.refl _ _), HV8⟩
        case round =>
          obtain ⟨k, hk, rfl, HK, HB⟩ := hrel
          have BCr := hid (BC8.out.kept HK.out (fun h => by have := (HZ7.out C (.inl h)).2; omega))
          by_cases hlt : k < xm
          · obtain ⟨g, vs, rfl, hb, hz⟩ := HB.out (by omega)
            obtain ⟨z, hzk⟩ := hz k hlt
            have HZS := hid hz
            have HBG := hid hb
            have e5 : wr.cell? ⟨C, 5, none⟩ = some (.slice (some ⟨g, 0, none⟩) xm ze) := BCr.out.cell 5
            have c0 : wr.cell? ⟨g, k, none⟩ = some (.int .u8 z) := by rw [HBG.out.cell]; exact hzk
            have fz : wr.frozen? ⟨g, k, none⟩ = false := HBG.out.frozen k
            have hkb : k < 140737488355328 := by have := HLL.out.2.2; omega
            have HKL := hid hlt
            clear hb hz hzk
            go_wp2
            exact ⟨⟨k + 1, by omega, rfl, hid (HK.out.trans (ow_set (by omega) _) (fun _ _ h => h)), hid (VrA.set HBG.out HZS.out HKL.out _)⟩, by simp [intOf]; have := HKL.out; omega⟩
          · obtain rfl : xm = k := by omega
            have HP9 := hid (PrA.beside HP8.out HV8.out HK.out)
            have KW9 := hid (KW8.out.trans HK.out (fun i hi h => by have := (HZ7.out i (.inl h)).1; omega))
            have e3 : wr.cell? ⟨C, 3, none⟩ = some (.slice zp xl zc) := BCr.out.cell 3
            clear HP8 HV8 HK HB KW8 BC8 hlt hk
            go_wp2_with fail
            clear e3
            go_loopw [50] (TpR wr zp xl) (fun i _ => xl - (intOf i).toNat)
            case atStart => exact ⟨0, Nat.zero_le _, rfl, hid (Kp.refl _ _), HP9⟩
            case round =>
              obtain ⟨k, hk, rfl, HK, HB⟩ := hrel
              have BCs := hid (BCr.out.kept HK.out (fun h => by have := (HZ7.out C (.inr h)).2; omega))
              by_cases hlt : k < xl
              · obtain ⟨g, vs, rfl, hb, hz⟩ := HB.out (by omega)
                obtain ⟨z, hzk⟩ := hz k hlt
                have HZS := hid hz
                have HBG := hid hb
                have e3 : wr.cell? ⟨C, 3, none⟩ = some (.slice (some ⟨g, 0, none⟩) xl zc) := BCs.out.cell 3
                have c0 : wr.cell? ⟨g, k * 3 + 2, none⟩ = some (.int .i64 z) := by rw [HBG.out.cell]; exact hzk
                have fz : wr.frozen? ⟨g, k * 3 + 2, none⟩ = false := HBG.out.frozen (k * 3 + 2)
                have hkb : k < 1000 := by have := HLL.out.1; omega
                have HKL := hid hlt
                clear hb hz hzk
                go_wp2
                exact ⟨⟨k + 1, by omega, rfl, hid (HK.out.trans (ow_set (by omega) _) (fun _ _ h => h)), hid (PrA.set HBG.out HZS.out HKL.out _)⟩, by simp [intOf]; have := HKL.out; omega⟩
              · obtain rfl : xl = k := by omega
                obtain ⟨w9, hw9⟩ : ∃ v, v = wr := ⟨_, rfl⟩
                rw [← hw9] at HK ⊢
                have KW0 := hid (KW9.out.trans HK.out (fun i hi h => by have := (HZ7.out i (.inr h)).1; omega))
                have K9 := hid (K0.out.trans KW0.out (fun _ _ h => h))
                clear hw9 HK HB BCs BCr HP9 KW9 hlt hk HZ7
                have BX := hid (BX0.out.kept KW0.out (fun h => h))
                have BY := hid (BY0.out.kept KW0.out (fun h => h))
                have BM := hid (BM0.out.kept KW0.out (fun h => h))
                have tr := fun (wx : World) (q : Kp Nb w9 wx) => KW0.out.trans q (fun _ _ h => h)
                have C1 := hid (fun wx (q : Kp Nb w9 wx) => CR1.out wx (tr wx q))
                have C2 := hid (fun wx (q : Kp Nb w9 wx) => CR2.out wx (tr wx q))
                have C3 := hid (fun wx (q : Kp Nb w9 wx) => CA1.out wx (tr wx q) HLL.out.1)
                have C4 := hid (fun wx (q : Kp Nb w9 wx) => CA2.out wx (tr wx q) HLL.out.1)
                have C5 := hid (fun wx (q : Kp Nb w9 wx) => CS1.out wx (tr wx q) HLL.out.1 HLL.out.2.1)
                have C6 := hid (fun wx (q : Kp Nb w9 wx) => CS2.out wx (tr wx q) HLL.out.1)
                have C7 := hid (fun wx (q : Kp Nb w9 wx) => CC1.out wx (tr wx q) HLL.out.1 HLL.out.2.1)
                have C8 := hid (fun wx (q : Kp Nb w9 wx) => CM1.out wx (tr wx q))
                have C9 := hid (fun wx (q : Kp Nb w9 wx) => CM2.out wx (tr wx q))
                have C10 := hid (fun wx (_ : Kp Nb w9 wx) => CH1.out wx)
                have C11 := hid (fun wx (_ : Kp Nb w9 wx) => CH2.out wx)
                have HCM := hid (fun wx (q : Kp Nb w9 wx) => HCV.out wx (BM.out.kept q (fun h => h)))
                clear CR1 CR2 CA1 CA2 CS1 CS2 CC1 CM1 CM2 CH1 CH2 HCV tr KW0
                go_wp2_with fail
                refine V3.region_vals2 [none, none, none, none, none, none, some 45, none, none, none, none, none, none, none, none, none, none, none, none, none, none, none, none, none, none, none, none, none, none, none, none, none, none, none, none, none, none, none, none, none, none, none, none, none, none, none, none, none, none, none, none, none, none, none, none, none, none, none, none, none, none, none, none, some 0, some 1, some 2, some 3, some 4, some 5, some 6, some 7, some 8, some 9, some 10, some 11, some 12, some 13, some 14, some 15, some 16, some 17, some 18, some 19, some 20, some 21, some 22, some 23, some 24, some 25, some 26, some 27, some 28, some 29, some 30, some 31, some 32, some 33, some 34, some 35, some 36, some 37, some 38, some 39, some 40, some 41, some 42, some 43, some 44] [[(3, none)], [(63, some 0)], [(3, none)], [(65, some 2)], [(64, some 1), (66, some 3)], [(67, some 4)], [(3, none)], [(4, none)], [(69, some 6), (70, some 7)], [(3, none)], [(4, none)], [(72, some 9), (73, some 10)], [(71, some 8), (74, some 11)], [(68, some 5), (75, some 12)], [(76, some 13)], [(3, none)], [(4, none)], [(78, some 15), (79, some 16)], [(3, none)], [(4, none)], [(81, some 18), (82, some 19)], [(80, some 17), (83, some 20)], [(77, some 14), (84, some 21)], [(85, some 22)], [(3, none)], [(4, none)], [(87, some 24), (88, some 25)], [(7, none)], [(89, some 26), (90, some 27)], [(86, some 23), (91, some 28)], [(92, some 29)], [(3, none)], [(94, some 31)], [(3, none)], [(96, some 33)], [(95, some 32), (97, some 34)], [(93, some 30), (98, some 35)], [(99, some 36)], [(5, none)], [(101, some 38)], [(5, none)], [(103, some 40)], [(104, some 41)], [(102, some 39), (105, some 42)], [(100, some 37), (106, some 43)], [(107, some 44)]] [some 63, some 64, some 65, some 66, some 67, some 68, some 69, some 70, some 71, some 72, some 73, some 74, some 75, some 76, some 77, some 78, some 79, some 80, some 81, some 82, some 83, some 84, some 85, some 86, some 87, some 88, some 89, some 90, some 91, some 92, some 93, some 94, some 95, some 96, some 97, some 98, some 99, some 100, some 101, some 102, some 103, some 104, some 105, some 106, some 107, some 6] [itV sx xn xd (.slice xp xl xc) xg (.slice xv xm xe), .bool rx, itV sx xn xd (.slice xp xl xc) xg (.slice xv xm xe), .bool rx, .bool true, .bool true, itV sx xn xd (.slice xp xl xc) xg (.slice xv xm xe), itV sy yn yd (.slice yp yl yc) yg (.slice yv ym ye), .bool ab, itV sx xn xd (.slice xp xl xc) xg (.slice xv xm xe), itV sy yn yd (.slice yp yl yc) yg (.slice yv ym ye), .bool ab, .bool true, .bool true, .bool true, itV sx xn xd (.slice xp xl xc) xg (.slice xv xm xe), itV sy yn yd (.slice yp yl yc) yg (.slice yv ym ye), .bool sm, itV sx xn xd (.slice xp xl xc) xg (.slice xv xm xe), itV sy yn yd (.slice yp yl yc) yg (.slice yv ym ye), .bool sm, .bool true, .bool true, .bool true, itV sx xn xd (.slice xp xl xc) xg (.slice xv xm xe), itV sy yn yd (.slice yp yl yc) yg (.slice yv ym ye), .int .i64 cm, .int .i64 cm, .bool true, .bool true, .bool true, itV sx xn xd (.slice xp xl xc) xg (.slice xv xm xe), mkV xI0, itV sx xn xd (.slice xp xl xc) xg (.slice xv xm xe), mkV xI0, .bool true, .bool true, .bool true, .agg (ms.map (Value.int .u8)).toArray, .string hx2, .slice (some ⟨N + 1 + 1, 0, none⟩) 16 16, .string sm2, .string hx2, .bool true, .bool true, .bool true] (fun wq => Hid (Kp Nb w9 wq)) (by kernel_rfl) (by kernel_rfl) (by kernel_rfl) ?hS (V3.VFrom.all (n := 46) (by kernel_rfl) ?hstep) ?hend
                case hstep =>
                  refine V3.VFrom.cons (V3.VStep.val _ rfl _ rfl (itV sx xn xd (.slice xp xl xc) xg (.slice xv xm xe)) rfl trivial (fun ev wq hS he hr => ?_)) ?_
                  · have r0 : ev (.tmp 3) = .pointer (some ⟨N, 0, none⟩) := hr (3, none) (by simp); have hk := he.1; clear hr he
                    exact exec_loadD rfl r0 (load_item (BX.out.kept hS.out (fun h => h)))
                  refine V3.VFrom.cons (V3.VStep.call _ rfl _ rfl (.bool rx) rfl trivial 13 #[itV sx xn xd (.slice xp xl xc) xg (.slice xv xm xe)] (fun ev wq hS he hr => ?_) (fun wq hS => ?_)) ?_
                  · have r0 : ev (.tmp 63) = itV sx xn xd (.slice xp xl xc) xg (.slice xv xm xe) := hr (63, some 0) (by simp); have hk := he.1; have hf := he.2; clear hr he
                    go_simp
                  · exact (C1.out wq hS.out).mono fun e w' ⟨h1, h2⟩ => ⟨h1, hid (hS.out.trans h2 (fun _ _ h => h))⟩
                  refine V3.VFrom.cons (V3.VStep.val _ rfl _ rfl (itV sx xn xd (.slice xp xl xc) xg (.slice xv xm xe)) rfl trivial (fun ev wq hS he hr => ?_)) ?_
                  · have r0 : ev (.tmp 3) = .pointer (some ⟨N, 0, none⟩) := hr (3, none) (by simp); have hk := he.1; clear hr he
                    exact exec_loadD rfl r0 (load_item (BX.out.kept hS.out (fun h => h)))
                  refine V3.VFrom.cons (V3.VStep.call _ rfl _ rfl (.bool rx) rfl trivial 9 #[itV sx xn xd (.slice xp xl xc) xg (.slice xv xm xe)] (fun ev wq hS he hr => ?_) (fun wq hS => ?_)) ?_
                  · have r0 : ev (.tmp 65) = itV sx xn xd (.slice xp xl xc) xg (.slice xv xm xe) := hr (65, some 2) (by simp); have hk := he.1; have hf := he.2; clear hr he
                    go_simp
                  · exact (C2.out wq hS.out).mono fun e w' ⟨h1, h2⟩ => ⟨h1, hid (hS.out.trans h2 (fun _ _ h => h))⟩
                  refine V3.VFrom.cons (V3.VStep.val _ rfl _ rfl (.bool true) rfl trivial (fun ev wq hS he hr => ?_)) ?_
                  · have r0 : ev (.tmp 64) = .bool rx := hr (64, some 1) (by simp); have r1 : ev (.tmp 66) = .bool rx := hr (66, some 3) (by simp); have hk := he.1; clear hr he
                    have e1 : (rx == rx) = true := by simp
                    go_simp
                  refine V3.VFrom.cons (V3.VStep.val _ rfl _ rfl (.bool true) rfl trivial (fun ev wq hS he hr => ?_)) ?_
                  · have r0 : ev (.tmp 67) = .bool true := hr (67, some 4) (by simp); have hk := he.1; clear hr he
                    go_simp
                  refine V3.VFrom.cons (V3.VStep.val _ rfl _ rfl (itV sx xn xd (.slice xp xl xc) xg (.slice xv xm xe)) rfl rfl (fun ev wq hS he hr => ?_)) ?_
                  · have r0 : ev (.tmp 3) = .pointer (some ⟨N, 0, none⟩) := hr (3, none) (by simp); have hk := he.1; clear hr he
                    exact exec_loadD rfl r0 (load_item (BX.out.kept hS.out (fun h => h)))
                  refine V3.VFrom.cons (V3.VStep.val _ rfl _ rfl (itV sy yn yd (.slice yp yl yc) yg (.slice yv ym ye)) rfl rfl (fun ev wq hS he hr => ?_)) ?_
                  · have r0 : ev (.tmp 4) = .pointer (some ⟨N + 1, 0, none⟩) := hr (4, none) (by simp); have hk := he.1; clear hr he
                    exact exec_loadD rfl r0 (load_item (BY.out.kept hS.out (fun h => h)))
                  refine V3.VFrom.cons (V3.VStep.call _ rfl _ rfl (.bool ab) rfl rfl 14 #[itV sx xn xd (.slice xp xl xc) xg (.slice xv xm xe), itV sy yn yd (.slice yp yl yc) yg (.slice yv ym ye)] (fun ev wq hS he hr => ?_) (fun wq hS => ?_)) ?_
                  · have r0 : ev (.tmp 69) = itV sx xn xd (.slice xp xl xc) xg (.slice xv xm xe) := hr (69, some 6) (by simp); have r1 : ev (.tmp 70) = itV sy yn yd (.slice yp yl yc) yg (.slice yv ym ye) := hr (70, some 7) (by simp); have hk := he.1; have hf := he.2; clear hr he
                    go_simp
                  · exact (C3.out wq hS.out).mono fun e w' ⟨h1, h2⟩ => ⟨h1, hid (hS.out.trans h2 (fun _ _ h => h))⟩
                  refine V3.VFrom.cons (V3.VStep.val _ rfl _ rfl (itV sx xn xd (.slice xp xl xc) xg (.slice xv xm xe)) rfl rfl (fun ev wq hS he hr => ?_)) ?_
                  · have r0 : ev (.tmp 3) = .pointer (some ⟨N, 0, none⟩) := hr (3, none) (by simp); have hk := he.1; clear hr he
                    exact exec_loadD rfl r0 (load_item (BX.out.kept hS.out (fun h => h)))
                  refine V3.VFrom.cons (V3.VStep.val _ rfl _ rfl (itV sy yn yd (.slice yp yl yc) yg (.slice yv ym ye)) rfl rfl (fun ev wq hS he hr => ?_)) ?_
                  · have r0 : ev (.tmp 4) = .pointer (some ⟨N + 1, 0, none⟩) := hr (4, none) (by simp); have hk := he.1; clear hr he
                    exact exec_loadD rfl r0 (load_item (BY.out.kept hS.out (fun h => h)))
                  refine V3.VFrom.cons (V3.VStep.call _ rfl _ rfl (.bool ab) rfl rfl 15 #[itV sx xn xd (.slice xp xl xc) xg (.slice xv xm xe), itV sy yn yd (.slice yp yl yc) yg (.slice yv ym ye)] (fun ev wq hS he hr => ?_) (fun wq hS => ?_)) ?_
                  · have r0 : ev (.tmp 72) = itV sx xn xd (.slice xp xl xc) xg (.slice xv xm xe) := hr (72, some 9) (by simp); have r1 : ev (.tmp 73) = itV sy yn yd (.slice yp yl yc) yg (.slice yv ym ye) := hr (73, some 10) (by simp); have hk := he.1; have hf := he.2; clear hr he
                    go_simp
                  · exact (C4.out wq hS.out).mono fun e w' ⟨h1, h2⟩ => ⟨h1, hid (hS.out.trans h2 (fun _ _ h => h))⟩
                  refine V3.VFrom.cons (V3.VStep.val _ rfl _ rfl (.bool true) rfl rfl (fun ev wq hS he hr => ?_)) ?_
                  · have r0 : ev (.tmp 71) = .bool ab := hr (71, some 8) (by simp); have r1 : ev (.tmp 74) = .bool ab := hr (74, some 11) (by simp); have hk := he.1; clear hr he
                    have e1 : (ab == ab) = true := by simp
                    go_simp
                  refine V3.VFrom.cons (V3.VStep.val _ rfl _ rfl (.bool true) rfl trivial (fun ev wq hS he hr => ?_)) ?_
                  · have r0 : ev (.tmp 68) = .bool true := hr (68, some 5) (by simp); have r1 : ev (.tmp 75) = .bool true := hr (75, some 12) (by simp); have hk := he.1; clear hr he
                    go_simp
                  refine V3.VFrom.cons (V3.VStep.val _ rfl _ rfl (.bool true) rfl trivial (fun ev wq hS he hr => ?_)) ?_
                  · have r0 : ev (.tmp 76) = .bool true := hr (76, some 13) (by simp); have hk := he.1; clear hr he
                    go_simp
                  refine V3.VFrom.cons (V3.VStep.val _ rfl _ rfl (itV sx xn xd (.slice xp xl xc) xg (.slice xv xm xe)) rfl rfl (fun ev wq hS he hr => ?_)) ?_
                  · have r0 : ev (.tmp 3) = .pointer (some ⟨N, 0, none⟩) := hr (3, none) (by simp); have hk := he.1; clear hr he
                    exact exec_loadD rfl r0 (load_item (BX.out.kept hS.out (fun h => h)))
                  refine V3.VFrom.cons (V3.VStep.val _ rfl _ rfl (itV sy yn yd (.slice yp yl yc) yg (.slice yv ym ye)) rfl rfl (fun ev wq hS he hr => ?_)) ?_
                  · have r0 : ev (.tmp 4) = .pointer (some ⟨N + 1, 0, none⟩) := hr (4, none) (by simp); have hk := he.1; clear hr he
                    exact exec_loadD rfl r0 (load_item (BY.out.kept hS.out (fun h => h)))
                  refine V3.VFrom.cons (V3.VStep.call _ rfl _ rfl (.bool sm) rfl rfl 12 #[itV sx xn xd (.slice xp xl xc) xg (.slice xv xm xe), itV sy yn yd (.slice yp yl yc) yg (.slice yv ym ye)] (fun ev wq hS he hr => ?_) (fun wq hS => ?_)) ?_
                  · have r0 : ev (.tmp 78) = itV sx xn xd (.slice xp xl xc) xg (.slice xv xm xe) := hr (78, some 15) (by simp); have r1 : ev (.tmp 79) = itV sy yn yd (.slice yp yl yc) yg (.slice yv ym ye) := hr (79, some 16) (by simp); have hk := he.1; have hf := he.2; clear hr he
                    go_simp
                  · exact (C5.out wq hS.out).mono fun e w' ⟨h1, h2⟩ => ⟨h1, hid (hS.out.trans h2 (fun _ _ h => h))⟩
                  refine V3.VFrom.cons (V3.VStep.val _ rfl _ rfl (itV sx xn xd (.slice xp xl xc) xg (.slice xv xm xe)) rfl rfl (fun ev wq hS he hr => ?_)) ?_
                  · have r0 : ev (.tmp 3) = .pointer (some ⟨N, 0, none⟩) := hr (3, none) (by simp); have hk := he.1; clear hr he
                    exact exec_loadD rfl r0 (load_item (BX.out.kept hS.out (fun h => h)))
                  refine V3.VFrom.cons (V3.VStep.val _ rfl _ rfl (itV sy yn yd (.slice yp yl yc) yg (.slice yv ym ye)) rfl rfl (fun ev wq hS he hr => ?_)) ?_
                  · have r0 : ev (.tmp 4) = .pointer (some ⟨N + 1, 0, none⟩) := hr (4, none) (by simp); have hk := he.1; clear hr he
                    exact exec_loadD rfl r0 (load_item (BY.out.kept hS.out (fun h => h)))
                  refine V3.VFrom.cons (V3.VStep.call _ rfl _ rfl (.bool sm) rfl rfl 16 #[itV sx xn xd (.slice xp xl xc) xg (.slice xv xm xe), itV sy yn yd (.slice yp yl yc) yg (.slice yv ym ye)] (fun ev wq hS he hr => ?_) (fun wq hS => ?_)) ?_
                  · have r0 : ev (.tmp 81) = itV sx xn xd (.slice xp xl xc) xg (.slice xv xm xe) := hr (81, some 18) (by simp); have r1 : ev (.tmp 82) = itV sy yn yd (.slice yp yl yc) yg (.slice yv ym ye) := hr (82, some 19) (by simp); have hk := he.1; have hf := he.2; clear hr he
                    go_simp
                  · exact (C6.out wq hS.out).mono fun e w' ⟨h1, h2⟩ => ⟨h1, hid (hS.out.trans h2 (fun _ _ h => h))⟩
                  refine V3.VFrom.cons (V3.VStep.val _ rfl _ rfl (.bool true) rfl rfl (fun ev wq hS he hr => ?_)) ?_
                  · have r0 : ev (.tmp 80) = .bool sm := hr (80, some 17) (by simp); have r1 : ev (.tmp 83) = .bool sm := hr (83, some 20) (by simp); have hk := he.1; clear hr he
                    have e1 : (sm == sm) = true := by simp
                    go_simp
                  refine V3.VFrom.cons (V3.VStep.val _ rfl _ rfl (.bool true) rfl trivial (fun ev wq hS he hr => ?_)) ?_
                  · have r0 : ev (.tmp 77) = .bool true := hr (77, some 14) (by simp); have r1 : ev (.tmp 84) = .bool true := hr (84, some 21) (by simp); have hk := he.1; clear hr he
                    go_simp
                  refine V3.VFrom.cons (V3.VStep.val _ rfl _ rfl (.bool true) rfl trivial (fun ev wq hS he hr => ?_)) ?_
                  · have r0 : ev (.tmp 85) = .bool true := hr (85, some 22) (by simp); have hk := he.1; clear hr he
                    go_simp
                  refine V3.VFrom.cons (V3.VStep.val _ rfl _ rfl (itV sx xn xd (.slice xp xl xc) xg (.slice xv xm xe)) rfl rfl (fun ev wq hS he hr => ?_)) ?_
                  · have r0 : ev (.tmp 3) = .pointer (some ⟨N, 0, none⟩) := hr (3, none) (by simp); have hk := he.1; clear hr he
                    exact exec_loadD rfl r0 (load_item (BX.out.kept hS.out (fun h => h)))
                  refine V3.VFrom.cons (V3.VStep.val _ rfl _ rfl (itV sy yn yd (.slice yp yl yc) yg (.slice yv ym ye)) rfl rfl (fun ev wq hS he hr => ?_)) ?_
                  · have r0 : ev (.tmp 4) = .pointer (some ⟨N + 1, 0, none⟩) := hr (4, none) (by simp); have hk := he.1; clear hr he
                    exact exec_loadD rfl r0 (load_item (BY.out.kept hS.out (fun h => h)))
                  refine V3.VFrom.cons (V3.VStep.call _ rfl _ rfl (.int .i64 cm) rfl rfl 17 #[itV sx xn xd (.slice xp xl xc) xg (.slice xv xm xe), itV sy yn yd (.slice yp yl yc) yg (.slice yv ym ye)] (fun ev wq hS he hr => ?_) (fun wq hS => ?_)) ?_
                  · have r0 : ev (.tmp 87) = itV sx xn xd (.slice xp xl xc) xg (.slice xv xm xe) := hr (87, some 24) (by simp); have r1 : ev (.tmp 88) = itV sy yn yd (.slice yp yl yc) yg (.slice yv ym ye) := hr (88, some 25) (by simp); have hk := he.1; have hf := he.2; clear hr he
                    go_simp
                  · exact (C7.out wq hS.out).mono fun e w' ⟨h1, h2⟩ => ⟨h1, hid (hS.out.trans h2 (fun _ _ h => h))⟩
                  refine V3.VFrom.cons (V3.VStep.val _ rfl _ rfl (.int .i64 cm) rfl rfl (fun ev wq hS he hr => ?_)) ?_
                  · have r0 : ev (.tmp 7) = .int .i64 cm := hr (7, none) (by simp); have hk := he.1; clear hr he
                    go_simp
                  refine V3.VFrom.cons (V3.VStep.val _ rfl _ rfl (.bool true) rfl rfl (fun ev wq hS he hr => ?_)) ?_
                  · have r0 : ev (.tmp 89) = .int .i64 cm := hr (89, some 26) (by simp); have r1 : ev (.tmp 90) = .int .i64 cm := hr (90, some 27) (by simp); have hk := he.1; clear hr he
                    have e1 : (cm == cm) = true := by simp
                    go_simp
                  refine V3.VFrom.cons (V3.VStep.val _ rfl _ rfl (.bool true) rfl trivial (fun ev wq hS he hr => ?_)) ?_
                  · have r0 : ev (.tmp 86) = .bool true := hr (86, some 23) (by simp); have r1 : ev (.tmp 91) = .bool true := hr (91, some 28) (by simp); have hk := he.1; clear hr he
                    go_simp
                  refine V3.VFrom.cons (V3.VStep.val _ rfl _ rfl (.bool true) rfl trivial (fun ev wq hS he hr => ?_)) ?_
                  · have r0 : ev (.tmp 92) = .bool true := hr (92, some 29) (by simp); have hk := he.1; clear hr he
                    go_simp
                  refine V3.VFrom.cons (V3.VStep.val _ rfl _ rfl (itV sx xn xd (.slice xp xl xc) xg (.slice xv xm xe)) rfl rfl (fun ev wq hS he hr => ?_)) ?_
                  · have r0 : ev (.tmp 3) = .pointer (some ⟨N, 0, none⟩) := hr (3, none) (by simp); have hk := he.1; clear hr he
                    exact exec_loadD rfl r0 (load_item (BX.out.kept hS.out (fun h => h)))
                  refine V3.VFrom.cons (V3.VStep.call _ rfl _ rfl (mkV xI0) rfl rfl 18 #[itV sx xn xd (.slice xp xl xc) xg (.slice xv xm xe)] (fun ev wq hS he hr => ?_) (fun wq hS => ?_)) ?_
                  · have r0 : ev (.tmp 94) = itV sx xn xd (.slice xp xl xc) xg (.slice xv xm xe) := hr (94, some 31) (by simp); have hk := he.1; have hf := he.2; clear hr he
                    go_simp
                  · exact (C8.out wq hS.out).mono fun e w' ⟨h1, h2⟩ => ⟨h1, hid (hS.out.trans h2 (fun _ _ h => h))⟩
                  refine V3.VFrom.cons (V3.VStep.val _ rfl _ rfl (itV sx xn xd (.slice xp xl xc) xg (.slice xv xm xe)) rfl rfl (fun ev wq hS he hr => ?_)) ?_
                  · have r0 : ev (.tmp 3) = .pointer (some ⟨N, 0, none⟩) := hr (3, none) (by simp); have hk := he.1; clear hr he
                    exact exec_loadD rfl r0 (load_item (BX.out.kept hS.out (fun h => h)))
                  refine V3.VFrom.cons (V3.VStep.call _ rfl _ rfl (mkV xI0) rfl rfl 19 #[itV sx xn xd (.slice xp xl xc) xg (.slice xv xm xe)] (fun ev wq hS he hr => ?_) (fun wq hS => ?_)) ?_
                  · have r0 : ev (.tmp 96) = itV sx xn xd (.slice xp xl xc) xg (.slice xv xm xe) := hr (96, some 33) (by simp); have hk := he.1; have hf := he.2; clear hr he
                    go_simp
                  · exact (C9.out wq hS.out).mono fun e w' ⟨h1, h2⟩ => ⟨h1, hid (hS.out.trans h2 (fun _ _ h => h))⟩
                  refine V3.VFrom.cons (V3.VStep.val _ rfl _ rfl (.bool true) rfl rfl (fun ev wq hS he hr => ?_)) ?_
                  · have r0 : ev (.tmp 95) = mkV xI0 := hr (95, some 32) (by simp); have r1 : ev (.tmp 97) = mkV xI0 := hr (97, some 34) (by simp); have hk := he.1; clear hr he
                    exact exec_eqMarkV rfl r0 r1 (HME.out wq)
                  refine V3.VFrom.cons (V3.VStep.val _ rfl _ rfl (.bool true) rfl trivial (fun ev wq hS he hr => ?_)) ?_
                  · have r0 : ev (.tmp 93) = .bool true := hr (93, some 30) (by simp); have r1 : ev (.tmp 98) = .bool true := hr (98, some 35) (by simp); have hk := he.1; clear hr he
                    go_simp
                  refine V3.VFrom.cons (V3.VStep.val _ rfl _ rfl (.bool true) rfl trivial (fun ev wq hS he hr => ?_)) ?_
                  · have r0 : ev (.tmp 99) = .bool true := hr (99, some 36) (by simp); have hk := he.1; clear hr he
                    go_simp
                  refine V3.VFrom.cons (V3.VStep.val _ rfl _ rfl (.agg (ms.map (Value.int .u8)).toArray) rfl rfl (fun ev wq hS he hr => ?_)) ?_
                  · have r0 : ev (.tmp 5) = .pointer (some ⟨N + 1 + 1, 0, none⟩) := hr (5, none) (by simp); have hk := he.1; clear hr he
                    exact exec_loadD rfl r0 (load_mk4 HML.out (BM.out.kept hS.out (fun h => h)))
                  refine V3.VFrom.cons (V3.VStep.call _ rfl _ rfl (.string hx2) rfl rfl 20 #[.agg (ms.map (Value.int .u8)).toArray] (fun ev wq hS he hr => ?_) (fun wq hS => ?_)) ?_
                  · have r0 : ev (.tmp 101) = .agg (ms.map (Value.int .u8)).toArray := hr (101, some 38) (by simp); have hk := he.1; have hf := he.2; clear hr he
                    go_simp
                  · exact (C10.out wq hS.out).mono fun e w' ⟨h1, h2⟩ => ⟨h1, hid (hS.out.trans h2 (fun _ _ h => h))⟩
                  refine V3.VFrom.cons (V3.VStep.val _ rfl _ rfl (.slice (some ⟨N + 1 + 1, 0, none⟩) 16 16) rfl rfl (fun ev wq hS he hr => ?_)) ?_
                  · have r0 : ev (.tmp 5) = .pointer (some ⟨N + 1 + 1, 0, none⟩) := hr (5, none) (by simp); have hk := he.1; clear hr he
                    exact exec_sliceE rfl r0 (slice_mk4 _ wq)
                  refine V3.VFrom.cons (V3.VStep.val _ rfl _ rfl (.string sm2) rfl rfl (fun ev wq hS he hr => ?_)) ?_
                  · have r0 : ev (.tmp 103) = .slice (some ⟨N + 1 + 1, 0, none⟩) 16 16 := hr (103, some 40) (by simp); have hk := he.1; clear hr he
                    exact exec_convT rfl r0 (HCM.out wq hS.out)
                  refine V3.VFrom.cons (V3.VStep.call _ rfl _ rfl (.string hx2) rfl rfl 21 #[.string sm2] (fun ev wq hS he hr => ?_) (fun wq hS => ?_)) ?_
                  · have r0 : ev (.tmp 104) = .string sm2 := hr (104, some 41) (by simp); have hk := he.1; have hf := he.2; clear hr he
                    go_simp
                  · exact (C11.out wq hS.out).mono fun e w' ⟨h1, h2⟩ => ⟨h1, hid (hS.out.trans h2 (fun _ _ h => h))⟩
                  refine V3.VFrom.cons (V3.VStep.val _ rfl _ rfl (.bool true) rfl rfl (fun ev wq hS he hr => ?_)) ?_
                  · have r0 : ev (.tmp 102) = .string hx2 := hr (102, some 39) (by simp); have r1 : ev (.tmp 105) = .string hx2 := hr (105, some 42) (by simp); have hk := he.1; clear hr he
                    have e1 : (hx2.toList == hx2.toList) = true := by simp
                    go_simp
                  refine V3.VFrom.cons (V3.VStep.val _ rfl _ rfl (.bool true) rfl trivial (fun ev wq hS he hr => ?_)) ?_
                  · have r0 : ev (.tmp 100) = .bool true := hr (100, some 37) (by simp); have r1 : ev (.tmp 106) = .bool true := hr (106, some 43) (by simp); have hk := he.1; clear hr he
                    go_simp
                  refine V3.VFrom.cons (V3.VStep.val _ rfl _ rfl (.bool true) rfl trivial (fun ev wq hS he hr => ?_)) ?_
                  · have r0 : ev (.tmp 107) = .bool true := hr (107, some 44) (by simp); have hk := he.1; clear hr he
                    go_simp
                  exact V3.VFrom.nil
                case hS => exact hid (Kp.refl Nb w9).drew
                case hend =>
                  intro w10 h10
                  have KF := hid (K9.out.trans h10.out (fun _ _ h => h))
                  clear h10
                  simp only [V3.putAll, List.zip_cons_cons, List.zip_nil_right, List.foldl_cons, List.foldl_nil, Act.put, List.setIfInBounds_toArray, List.set_cons_zero, List.set_cons_succ]
                  go_wp2
                  go_ret
                  exact ⟨rfl, KF.out⟩
end
section
open Go.ChangeShapes Go.WideShapes Go.ChangeAt Go.RowKit
set_option maxRecDepth 100000 in
theorem vtells_lifted (os : Os) (started : os.Started) (H : Type) (enc : TypeId × Value → H) :
    ReturnsInHanded {} Tryz.checked os 3 .any (fun w args => (Rows.verTellsSpec.pre enc Tryz.prog Tryz.f3 [] false w args ∧ laidMetH Tryz.prog dtLaid w) ∧ sizedMet enc Tryz.prog Tryz.f3 (OpenSpec.ofChange Rows.verTellsSpec) false w args)
      (Rows.verTellsSpec.post enc Tryz.prog Tryz.f3 false true false false) := by
  refine handed_dt (C := Tryz.checked) own started (by kernel_rfl) Tryz.func3
    (ChangeSpec.witness_shaped (enc := enc) (C := Tryz.checked) (os := os) (X := fun w _ => laidMetH Tryz.prog dtLaid w) false (World.laidAll Tryz.prog os dtLaid) #[.agg #[.string ⟨#[]⟩, .int .i64 0, .int .i64 0, .slice none 0 0, .bool false, .slice none 0 0], .agg #[.string ⟨#[]⟩, .int .i64 0, .int .i64 0, .slice none 0 0, .bool false, .slice none 0 0], .agg #[.int .u8 0, .int .u8 0, .int .u8 0, .int .u8 0, .int .u8 0, .int .u8 0, .int .u8 0, .int .u8 0, .int .u8 0, .int .u8 0, .int .u8 0, .int .u8 0, .int .u8 0, .int .u8 0, .int .u8 0, .int .u8 0]] 8 (World.laidAll_os _ _ _)
      (World.shaped_of_ZipB (by kernel_rfl) (by kernel_rfl)) (by kernel_rfl) (by kernel_rfl) (by kernel_rfl) (laid_met os _)) ?_
  intro W base args ds gs before hval0 hW hL hsh
  have hval : ∀ (j : Nat) t v, Tryz.f3.params[j]? = some t → args[j]? = some v → Value.okWide Tryz.prog W .any base t v := hval0
  have hW' := hW
  obtain ⟨p, q, hA0, hV, rfl, hfz, hnd⟩ := hW
  have hA : DataW.TrodAll enc Tryz.prog W 0 (fun _ => true) true Tryz.f3.params.toList args.toList ds p := hA0
  rw [Tryz.params3] at hA hval
  obtain ⟨v0, vs0, d0, ds0, p0, q0, hargs, rfl, rfl, h0, r0⟩ := trodAll_cons hA
  obtain ⟨v1, vs1, d1, ds1, p1, q1, rfl, rfl, rfl, h1, r1⟩ := trodAll_cons r0
  obtain ⟨v2, vs2, d2, ds2, p2, q2, rfl, rfl, rfl, h2, r2⟩ := trodAll_cons r1
  obtain ⟨rfl, rfl, rfl⟩ := trodAll_nil r2
  obtain rfl : args = #[v0, v1, v2] := by cases args; simp_all
  obtain ⟨rfl, rfl⟩ := trodVars_none hV
  have lt0 : ∀ x ∈ p0, x.block < W.heap.size := by obtain ⟨m, hm⟩ := h0; exact DataW.trod_lt m _ _ _ hm
  have lt1 : ∀ x ∈ p1, x.block < W.heap.size := by obtain ⟨m, hm⟩ := h1; exact DataW.trod_lt m _ _ _ hm
  have lt2 : ∀ x ∈ p2, x.block < W.heap.size := by obtain ⟨m, hm⟩ := h2; exact DataW.trod_lt m _ _ _ hm
  obtain ⟨x0, vp0, vv0, rfl, O0, LO0⟩ := open_itemv (hval 0 28 v0 rfl rfl) h0
  obtain ⟨x1, vp1, vv1, rfl, O1, LO1⟩ := open_itemv (hval 1 28 v1 rfl rfl) h1
  obtain ⟨ms2, hms2, hl2, rfl⟩ := open_mark4 (hval 2 30 v2 rfl rfl) h2
  have ht := tab_of_laid hL
  have he := ev_of_laid hL
  have hm := mx_of_shape hsh
  clear hA0 hval0
  refine (vtells_any x0 x1 vp0 vv0 vp1 vv1 ms2 W O0 O1 LO0 LO1 hms2 hl2 hm he ht).mono fun e W' ⟨he, kp⟩ => ?_
  subst he
  have bel : Below W.heap.size W W' := kp.below (Nat.le_refl _) (fun _ _ h => h)
  exact ⟨_, rfl, _, _, _, [], _, [], hW', trodAll_mk1 (shut_bool Tryz.underlying4 _), (trodAll_cons_mk (Below.trod laidOut (by kernel_rfl) (of_decide_eq_true (by kernel_rfl)) h0 bel lt0) (trodAll_cons_mk (Below.trod laidOut (by kernel_rfl) (of_decide_eq_true (by kernel_rfl)) h1 bel lt1) (trodAll_cons_mk (Below.trod laidOut (by kernel_rfl) (of_decide_eq_true (by kernel_rfl)) h2 bel lt2) trodAll_mk0))), rfl, bel.frame _, fun h => by cases h⟩
theorem vtells_over : Rows.verTellsRow.holds Tryz.pinned (OpenSpec.ofChange Rows.verTellsSpec) :=
  OpenClaim.holds_of_wide 3 Tryz.f3 rfl rfl rfl rfl rfl rfl rfl ⟨rfl, rfl, rfl, rfl, rfl⟩ rfl rfl rfl rfl rfl (by kernel_rfl) Tryz.func3 (by kernel_rfl)
    (of_decide_eq_true (by kernel_rfl)) (by unfold Func.isWrapper; first | (rw [if_pos (by decide +kernel)]; kernel_rfl) | (rw [if_neg (by decide +kernel)]; exact ⟨rfl, rfl⟩))
    (fun os started H enc _ => vtells_lifted os started H enc)
theorem vtells_said : Rows.VerTellsCardSaid :=
  Claim7.holds_tied_plain_at .later [] [.data, .data, .data, .data, .sentinel, .sentinel, .pinned] true _ true
    vtells_over (fun _ h => by cases h) (by kernel_rfl) (fun _ h => by cases h) verTells_row_tie rfl ⟨rfl, rfl⟩ (by kernel_rfl) rfl
    (fun f fn hf hfn => by
      obtain rfl : f = 3 := Option.some.inj ((show Tryz.prog.funcNamed "gleanings/gleaningslaw04.VerTells" = some 3 by kernel_rfl).symm.trans hf) |>.symm
      obtain rfl : fn = Tryz.f3 := (Option.some.inj (Tryz.func3.symm.trans hfn)).symm
      exact ⟨by kernel_rfl, fun j t ht => by
        rw [Tryz.params3] at ht
        have hm : t ∈ [28, 28, 30] := by simpa using Array.mem_of_getElem? ht
        have hall : ([28, 28, 30].all fun u => !Tryz.prog.wantsStandIn u) = true := by kernel_rfl
        exact (show Tryz.prog.wantsStandIn t = false by simpa using List.all_eq_true.1 hall t hm)⟩)
    (by kernel_rfl)
end

end Go.Proofs.YtogoophofgkboaaGreatDoor
