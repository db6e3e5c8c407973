/-
  Of the texts VeI, Rme what is used. No condition but what each says.
-/
import Derived.Test.YtogoophofgkboaaGreatDoorRn
import Derived.Test.YtogoophofgkboaaGreatDoorRf
import Derived.Test.YtogoophofgkboaaGreatDoorProg
import Derived.Deep.DeepCutAuto
import Derived.Deep.RegionHeld3
import Derived.Laws.IdiomStrings
namespace Go.Proofs.YtogoophofgkboaaGreatDoor
section
open Go.RowKit
/-- What bytes are as an item, and the error. -/
def readI (zs : List Int) : ItQ × Int := if endE (getI zs 0).2.1 (getI zs 0).2.2 ≠ 0 then (itZ, endE (getI zs 0).2.1 (getI zs 0).2.2) else ((getI zs 0).1, 0)
theorem eye_keptI {w w' : World} {B : Nat} {zs : List Int} {e : Int} (h : EyeAt w B zs e) (k : Kp Nb w w') : EyeAt w' B zs e := by
  obtain ⟨v, hb, hv⟩ := h
  exact ⟨v, hb.kept k (fun h => h), hv.kept k (fun _ h => False.elim h)⟩
theorem ItOk.keptV {S : Nat → Prop} {w w' : World} {x : ItQ} {vp vv : Value} (h : ItOk w x vp vv) (k : Kp S w w') (hp : ∀ g, vp.ownBlock = some g → ¬ S g) (hv : ∀ g, vv.ownBlock = some g → ¬ S g) : ItOk w' x vp vv := ⟨h.key, h.dn, h.dd, h.past.keptV k hp, by_apart h.val k hv⟩
set_option maxRecDepth 100000 in
set_option maxHeartbeats 8000000 in
theorem iread_any (v : Value) (zs : List Int) (w : World) (hv : BySl Nb w v zs) (hl : zs.length ≤ 1000000) :
    Calls Tryz.prog 27 #[v] w fun r w' => ∃ vp vv, r = .returned (.tuple #[itVq (readI zs).1 vp vv, .int .i64 (readI zs).2]) ∧ ItOk w' (readI zs).1 vp vv ∧ OwnV w vp w' ∧ OwnV w vv w' ∧ Kp Nb w w' := by
  have HRI : Hid (readI zs = if endE (getI zs 0).2.1 (getI zs 0).2.2 ≠ 0 then (itZ, endE (getI zs 0).2.1 (getI zs 0).2.2) else ((getI zs 0).1, 0)) := hid rfl
  obtain ⟨RI, hRI⟩ : ∃ x, readI zs = x := ⟨_, rfl⟩
  rw [hRI] at HRI ⊢
  obtain ⟨N, hN⟩ : ∃ N, w.heap.size = N := ⟨_, rfl⟩
  obtain ⟨W, hW⟩ : ∃ W, W = w.alloc (.cells #[.string ⟨#[]⟩, .int .i64 0, .int .i64 0, .slice none 0 0, .bool false, .slice none 0 0] 28) := ⟨_, rfl⟩
  have BN0 : Hid (Blk W N 28 (itL ⟨#[]⟩ 0 0 (.slice none 0 0) false (.slice none 0 0))) := hid (by rw [hW, ← hN]; exact Blk.new w _ (itL ⟨#[]⟩ 0 0 (.slice none 0 0) false (.slice none 0 0)))
  have K0 : Hid (Kp Nb w W) := hid (by rw [hW]; exact (Kp.refl Nb w).alloc _)
  have HNW := hid hN
  have CRD := hid (read_any (S := Nb) v zs W (hv.kept K0.out (fun _ h => h)) (by omega))
  have HLZ := hid hl
  clear hv hl hRI
  go_enter Tryz.func27, Tryz.ntmps27
  go_upto_region 1 with fail
  try rw [hN]
  rw [← hW]
  clear hW hN
  go_wp2_with fail
  refine CRD.out.mono ?_
  rintro r w1 ⟨B, hB, rfl, hey, k1⟩
  have HNB : Hid (N < B ∧ N < w1.heap.size) := hid (by have := BN0.out.lt; have := k1.size; omega)
  have HE1 := hid (EyeOn.of hey w1.heap.size (Nat.le_refl _))
  have HBL := hid hey.lt
  have BN1 := hid (BN0.out.kept k1 (fun h => h))
  have K1 := hid (K0.out.trans k1 (fun _ _ h => h))
  have HBS := hid hB
  clear hey k1 hB CRD K0 BN0
  have CG := iget_any B zs 0 w1 (S := fun i => i = B ∨ w1.heap.size ≤ i) (fun i h => h) HE1.out HLZ.out
  obtain ⟨GI, hGI⟩ : ∃ x, getI zs 0 = x := ⟨_, rfl⟩
  rw [hGI] at CG HRI
  clear hGI
  obtain ⟨x, z, e⟩ := GI
  dsimp only at CG HRI
  go_wp2_with fail
  refine CG.mono ?_
  rintro r w2 ⟨vp, vv, rfl, hit, hop, hov, he2, k2⟩
  have HIT := hid hit
  have HOP := hid hop
  have HOV := hid hov
  have HE2 : Hid (EyeAt w2 B z e) := hid (EyeOn.at he2 (fun i h => .inl h))
  have BN2 := hid (BN1.out.kept k2 (fun h => by have h' : N = B := h; have := HNB.out; omega))
  have K2 : Hid (Kp Nb w w2) := hid (K1.out.trans k2 (fun i hi h => by have h' : i = B := h; have := HNB.out; have := HNW.out; omega))
  have HN2 : Hid (N < w2.heap.size ∧ w1.heap.size ≤ w2.heap.size) := hid (by have := HNB.out; have := k2.size; omega)
  obtain ⟨yp, dp, e1⟩ := hit.past.shape
  obtain ⟨yv, dv, e2⟩ := by_shape hit.val
  subst e1 e2
  clear hit hop hov he2 k2 CG HE1 BN1 K1
  obtain ⟨X, hX⟩ : ∃ X, w2.heap.size = X := ⟨_, rfl⟩
  obtain ⟨V, hV⟩ : ∃ V, V = (w2.alloc (.cells #[.string ⟨#[]⟩, .int .i64 0, .int .i64 0, .slice none 0 0, .bool false, .slice none 0 0] 28)).setCells X 0 (itL (st x.key) x.dn x.dd (.slice yp x.past.length dp) x.gone (.slice yv x.val.length dv)) := ⟨_, rfl⟩
  have hz : Blk (w2.alloc (.cells #[.string ⟨#[]⟩, .int .i64 0, .int .i64 0, .slice none 0 0, .bool false, .slice none 0 0] 28)) X 28 (itL ⟨#[]⟩ 0 0 (.slice none 0 0) false (.slice none 0 0)) := by rw [← hX]; exact Blk.new w2 _ (itL ⟨#[]⟩ 0 0 (.slice none 0 0) false (.slice none 0 0))
  have ks : Kp Nb w2 V := by rw [hV]; exact Kp.setCells (fun h => absurd h (by omega)) _ 0 _ ((Kp.refl Nb w2).alloc _)
  have BX := hid (show Blk V X 28 (itL (st x.key) x.dn x.dd (.slice yp x.past.length dp) x.gone (.slice yv x.val.length dv)) by rw [hV]; exact row_set hz rfl)
  have BNV := hid (BN2.out.kept ks (fun h => h))
  have HEV := hid (eye_keptI HE2.out ks)
  have KV := hid (K2.out.trans ks (fun _ _ h => h))
  have ITV := hid (HIT.out.kept ks)
  have HPV : Hid (∀ g, (Value.slice yp x.past.length dp).ownBlock = some g → w1.heap.size ≤ g ∧ g < V.heap.size) := hid (fun g hg => ⟨(HOP.out g hg).1, Nat.lt_of_lt_of_le (HOP.out g hg).2 ks.size⟩)
  have HVV : Hid (∀ g, (Value.slice yv x.val.length dv).ownBlock = some g → w1.heap.size ≤ g ∧ g < V.heap.size) := hid (fun g hg => ⟨(HOV.out g hg).1, Nat.lt_of_lt_of_le (HOV.out g hg).2 ks.size⟩)
  have TH := hid (item_there (ks := st x.key) (dn := x.dn) (dd := x.dd) (vp := .slice yp x.past.length dp) (vv := .slice yv x.val.length dv) (g := x.gone) hz rfl)
  have HXV := hid hX
  clear ks hz HIT HOP HOV HE2 BN2 K2
  obtain ⟨key, dn, dd, past, gn, val⟩ := x
  unfold itVq itV at *
  dsimp only at *
  obtain ⟨nP, hnP⟩ : ∃ n, past.length = n := ⟨_, rfl⟩
  obtain ⟨nV, hnV⟩ : ∃ n, val.length = n := ⟨_, rfl⟩
  obtain ⟨sk, hsk⟩ : ∃ s, st key = s := ⟨_, rfl⟩
  have HSK := hid hsk
  have HNN := hid (And.intro hnP hnV)
  simp only [hnP, hnV, hsk] at hV BX ITV HPV HVV TH ⊢
  clear hnP hnV hsk
  go_upto_region 3 with (first
    | (refine wpList_store_mid (by rfl) 28 (.tmp 5) (.tmp 10) (by rfl) X 0 (itL sk dn dd (.slice yp nP dp) gn (.slice yv nV dv)).toArray (by rfl) (by rfl) TH.out item_info (item_one _ _ _ _ _ _ _ _ _ _) ?_))
  try rw [hX]
  rw [show (w2.alloc (.cells #[.string ⟨#[]⟩, .int .i64 0, .int .i64 0, .slice none 0 0, .bool false, .slice none 0 0] 28)).setCells X 0 (itL sk dn dd (.slice yp nP dp) gn (.slice yv nV dv)) = V from hV.symm]
  clear hV TH hX
  have CE := end_any B z e V HEV.out
  obtain ⟨fe, hfe⟩ : ∃ x, endE z e = x := ⟨_, rfl⟩
  rw [hfe] at CE HRI
  clear hfe
  go_wp2_with fail
  refine CE.mono ?_
  rintro r w4 ⟨rfl, he4, k4⟩
  have BX4 := hid (BX.out.kept k4 (fun h => by have h' : X = B := h; have := HXV.out; have := HBL.out; have := HN2.out; omega))
  have BN4 := hid (BNV.out.kept k4 (fun h => by have h' : N = B := h; have := HNB.out; omega))
  have K4 : Hid (Kp Nb w w4) := hid (KV.out.trans k4 (fun i hi h => by have h' : i = B := h; have := HNB.out; have := HNW.out; omega))
  have IT4 := hid (ITV.out.keptV k4 (fun g hg h => by have h' : g = B := h; have := (HPV.out g hg).1; have := HBL.out; omega) (fun g hg h => by have h' : g = B := h; have := (HVV.out g hg).1; have := HBL.out; omega))
  have HP4 : Hid (∀ g, (Value.slice yp nP dp).ownBlock = some g → w1.heap.size ≤ g ∧ g < w4.heap.size) := hid (fun g hg => ⟨(HPV.out g hg).1, Nat.lt_of_lt_of_le (HPV.out g hg).2 k4.size⟩)
  have HV4 : Hid (∀ g, (Value.slice yv nV dv).ownBlock = some g → w1.heap.size ≤ g ∧ g < w4.heap.size) := hid (fun g hg => ⟨(HVV.out g hg).1, Nat.lt_of_lt_of_le (HVV.out g hg).2 k4.size⟩)
  clear he4 k4 CE
  by_cases hee : fe = 0
  · have g1 : (fe != 0) = false := by rw [hee]; rfl
    have HR : Hid (RI = (⟨key, dn, dd, past, gn, val⟩, 0)) := hid (by rw [HRI.out, if_neg (by rw [hee]; decide)])
    clear hee
    have TH := hid (item_there (ks := sk) (dn := dn) (dd := dd) (vp := .slice yp nP dp) (vv := .slice yv nV dv) (g := gn) BN4.out rfl)
    have HW := hid (row_set (vs := itL ⟨#[]⟩ 0 0 (.slice none 0 0) false (.slice none 0 0)) (cs := itL sk dn dd (.slice yp nP dp) gn (.slice yv nV dv)) BN4.out rfl)
    have ks : Kp (Jb N) w4 (w4.setCells N 0 (itL sk dn dd (.slice yp nP dp) gn (.slice yv nV dv))) := Kp.setCells (S := Jb N) (B := N) (fun _ => show N = N from rfl) _ 0 _ (Kp.refl _ _)
    have HKW : Hid (Kp Nb w (w4.setCells N 0 (itL sk dn dd (.slice yp nP dp) gn (.slice yv nV dv)))) := hid (K4.out.trans ks (fun i hi h => by have h' : i = N := h; have := HNW.out; omega))
    have ITW := hid (IT4.out.keptV ks (fun g hg h => by have h' : g = N := h; have := (HP4.out g hg).1; have := HNB.out; omega) (fun g hg h => by have h' : g = N := h; have := (HV4.out g hg).1; have := HNB.out; omega))
    have OPW : Hid (OwnV w (.slice yp nP dp) (w4.setCells N 0 (itL sk dn dd (.slice yp nP dp) gn (.slice yv nV dv)))) := hid (fun g hg => ⟨by have := (HP4.out g hg).1; have := HNB.out; have := HNW.out; omega, Nat.lt_of_lt_of_le (HP4.out g hg).2 ks.size⟩)
    have OVW : Hid (OwnV w (.slice yv nV dv) (w4.setCells N 0 (itL sk dn dd (.slice yp nP dp) gn (.slice yv nV dv)))) := hid (fun g hg => ⟨by have := (HV4.out g hg).1; have := HNB.out; have := HNW.out; omega, Nat.lt_of_lt_of_le (HV4.out g hg).2 ks.size⟩)
    clear ks
    go_wp2_with (first
      | (refine wpList_load_mid (by rfl) 28 (.tmp 5) (by rfl) X 0 (by rfl) (itL sk dn dd (.slice yp nP dp) gn (.slice yv nV dv)) _ (range_ofR BX4.out) under_item.choose_spec rfl item_info ?_)
      | (refine wpList_store_mid (by rfl) 28 (.tmp 2) (.tmp 17) (by rfl) N 0 (itL sk dn dd (.slice yp nP dp) gn (.slice yv nV dv)).toArray (by rfl) (by rfl) TH.out item_info (item_one _ _ _ _ _ _ _ _ _ _) ?_))
    refine bodyPost_ret (results_ctD rfl _ N (by rfl) _ (.int .i64 0) (by rfl) (row_loadVar Tryz.underlying28 rfl (item_infoL _ _ _ _ _ _) HW.out 0 (fun j _ => by rw [Nat.zero_add]))) rfl ?_
    rw [HR.out]
    exact ⟨_, _, by unfold itVq; dsimp only; rw [HSK.out], ITW.out, OPW.out, OVW.out, HKW.out⟩
  · have g1 : (fe != 0) = true := by rw [bne_iff_ne]; exact hee
    have HR : Hid (RI = (itZ, fe)) := hid (by rw [HRI.out, if_pos hee])
    clear hee
    have TH := hid (item_there (ks := ⟨#[]⟩) (dn := 0) (dd := 0) (vp := .slice none 0 0) (vv := .slice none 0 0) (g := false) BN4.out rfl)
    have HW := hid (row_set (vs := itL ⟨#[]⟩ 0 0 (.slice none 0 0) false (.slice none 0 0)) (cs := itL ⟨#[]⟩ 0 0 (.slice none 0 0) false (.slice none 0 0)) BN4.out rfl)
    have ks : Kp (Jb N) w4 (w4.setCells N 0 (itL ⟨#[]⟩ 0 0 (.slice none 0 0) false (.slice none 0 0))) := Kp.setCells (S := Jb N) (B := N) (fun _ => show N = N from rfl) _ 0 _ (Kp.refl _ _)
    have HKW : Hid (Kp Nb w (w4.setCells N 0 (itL ⟨#[]⟩ 0 0 (.slice none 0 0) false (.slice none 0 0)))) := hid (K4.out.trans ks (fun i hi h => by have h' : i = N := h; have := HNW.out; omega))
    clear ks
    go_wp2_with (first
      | (refine wpList_store_mid (by rfl) 28 (.tmp 2) (.tmp 15) (by rfl) N 0 (itL ⟨#[]⟩ 0 0 (.slice none 0 0) false (.slice none 0 0)).toArray (by rfl) (by rfl) TH.out item_info (item_one _ _ _ _ _ _ _ _ _ _) ?_))
    refine bodyPost_ret (results_ctD rfl _ N (by rfl) _ (.int .i64 fe) (by rfl) (row_loadVar Tryz.underlying28 rfl (item_infoL _ _ _ _ _ _) HW.out 0 (fun j _ => by rw [Nat.zero_add]))) rfl ?_
    rw [HR.out]
    exact ⟨.slice none 0 0, .slice none 0 0, rfl, itz_ok _, (fun g hg => by simp [Value.ownBlock] at hg), (fun g hg => by simp [Value.ownBlock] at hg), HKW.out⟩
end
section
section
open Go.RowKit
set_option maxHeartbeats 400000 in
theorem up_any (x : Int) (k : Int) (w : World) (hk : k = 13 ∨ k = 16 ∨ k = 17 ∨ k = 21 ∨ k = 32) : Calls Tryz.prog 122 #[.int .u64 x, .int .i64 k] w fun e w' => e = .returned (.int .u64 (rotl x k.toNat)) ∧ ∃ nq, w' = w.drewN nq := by
  rcases hk with rfl | rfl | rfl | rfl | rfl
  all_goals
    go_enter Tryz.func122, Tryz.ntmps122
    go_wp2
    go_quiet (fail)
    go_wp2
    go_ret
    exact ⟨rfl, ⟨nq, rfl⟩⟩
set_option maxRecDepth 100000 in
set_option maxHeartbeats 2000000 in
theorem ref_round (v : V4) (w : World) : Calls Tryz.prog 107 #[.agg #[.int .u64 v.a, .int .u64 v.b, .int .u64 v.c, .int .u64 v.d]] w fun e w' => e = .returned (.agg #[.int .u64 (rnd v).a, .int .u64 (rnd v).b, .int .u64 (rnd v).c, .int .u64 (rnd v).d]) ∧ Kp Nb w w' := by
  go_enter Tryz.func107, Tryz.ntmps107
  go_wp2_with fail
  obtain ⟨a1, ea1⟩ : ∃ a1, IntKind.u64.wrap (v.a + v.b) = a1 := ⟨_, rfl⟩
  have HB1 := hid ((Blk.new w 134 [.int .u64 (IntKind.u64.wrap (v.a + v.b)), .int .u64 v.b, .int .u64 v.c, .int .u64 v.d]).alloc (.cells #[.int .u64 0, .int .u64 0, .int .u64 0, .int .u64 0] 134))
  have HK1 := hid (((Kp.refl Nb w).alloc (.cells #[.int .u64 (IntKind.u64.wrap (v.a + v.b)), .int .u64 v.b, .int .u64 v.c, .int .u64 v.d] 134)).alloc (.cells #[.int .u64 0, .int .u64 0, .int .u64 0, .int .u64 0] 134))
  obtain ⟨w1, hW⟩ : ∃ w1, w1 = (World.alloc (World.alloc w (.cells #[.int .u64 (IntKind.u64.wrap (v.a + v.b)), .int .u64 v.b, .int .u64 v.c, .int .u64 v.d] 134)) (.cells #[.int .u64 0, .int .u64 0, .int .u64 0, .int .u64 0] 134)) := ⟨_, rfl⟩
  have HB1 : Hid (Blk w1 w.heap.size 134 [.int .u64 (IntKind.u64.wrap (v.a + v.b)), .int .u64 v.b, .int .u64 v.c, .int .u64 v.d]) := by rw [hW]; exact HB1
  have HK1 : Hid (Kp Nb w w1) := by rw [hW]; exact HK1
  have HZ1 : Hid (Blk w1 (w.heap.size + 1) 134 [.int .u64 0, .int .u64 0, .int .u64 0, .int .u64 0]) := by rw [hW]; have := Blk.new (World.alloc w (.cells #[.int .u64 (IntKind.u64.wrap (v.a + v.b)), .int .u64 v.b, .int .u64 v.c, .int .u64 v.d] 134)) 134 [.int .u64 0, .int .u64 0, .int .u64 0, .int .u64 0]; rw [World.size_alloc] at this; exact this
  rw [← hW]
  clear hW
  rw [ea1] at HB1
  go_upto_region 2 with fail
  go_cut [11] (fun _ wx => Hid (Blk wx w.heap.size 134 [.int .u64 a1, .int .u64 (bits .xor .u64 (rotl v.b 13) a1), .int .u64 v.c, .int .u64 v.d]) ∧ Hid (Kp Nb w wx) ∧ Hid (Blk wx (w.heap.size + 1) 134 [.int .u64 0, .int .u64 0, .int .u64 0, .int .u64 0]))
  case first =>
    have q1 : w1.cell? ⟨w.heap.size, 1, none⟩ = some (.int .u64 v.b) := HB1.out.cell 1
    have q0 : w1.cell? ⟨w.heap.size, 0, none⟩ = some (.int .u64 a1) := HB1.out.cell 0
    have f1 : w1.frozen? ⟨w.heap.size, 1, none⟩ = false := HB1.out.frozen 1
    go_region_with (go_at_call 122; refine (up_any _ _ _ (by decide)).mono ?_; rintro e wy ⟨rfl, nq, rfl⟩)
    all_goals (go_wp2_with fail; go_meet; exact ⟨hid (Blk.set (Blk.drewN HB1.out (1 + nq)) 1 (.int .u64 _)), hid ((HK1.out.drewN (1 + nq)).setCell (p := ⟨w.heap.size, 1, none⟩) (fun h => absurd h (Nat.lt_irrefl _)) (.int .u64 _)), hid (Blk.other (Blk.drewN HZ1.out (1 + nq)) ⟨w.heap.size, 1, none⟩ (by show w.heap.size + 1 ≠ w.heap.size; omega) (.int .u64 _))⟩)
  case rest =>
    obtain ⟨HB2, HK2, HZ2⟩ := hcut
    obtain ⟨x2, ex2⟩ : ∃ y, (bits .xor .u64 (rotl v.b 13) a1) = y := ⟨_, rfl⟩
    rw [ex2] at HB2
    have ex2 := hid ex2
    clear HB1 HK1 HZ1
    have q0 : wc.cell? ⟨w.heap.size, 0, none⟩ = some (.int .u64 a1) := HB2.out.cell 0
    have f0 : wc.frozen? ⟨w.heap.size, 0, none⟩ = false := HB2.out.frozen 0
    go_wp2_with fail
    refine (up_any _ _ _ (by decide)).mono ?_
    rintro e wy ⟨rfl, nq, rfl⟩
    have q0' : (wc.drewN nq).cell? ⟨w.heap.size, 0, none⟩ = some (.int .u64 a1) := q0
    have f0' : (wc.drewN nq).frozen? ⟨w.heap.size, 0, none⟩ = false := f0
    go_upto_region 4 with fail
    obtain ⟨x3, ex3⟩ : ∃ y, (rotl a1 32) = y := ⟨_, rfl⟩
    obtain ⟨w3, hW⟩ : ∃ y, y = ((wc.drewN nq).setCell ⟨w.heap.size, 0, none⟩ (.int .u64 (rotl a1 32))) := ⟨_, rfl⟩
    have HB3 : Hid (Blk w3 w.heap.size 134 [.int .u64 x3, .int .u64 x2, .int .u64 v.c, .int .u64 v.d]) := by rw [hW, ← ex3]; exact Blk.set (Blk.drewN HB2.out nq) 0 (.int .u64 (rotl a1 32))
    have HK3 : Hid (Kp Nb w w3) := by rw [hW]; exact Kp.setCell (HK2.out.drewN nq) (p := ⟨w.heap.size, 0, none⟩) (fun h => absurd h (Nat.lt_irrefl _)) (.int .u64 (rotl a1 32))
    have HZ3 : Hid (Blk w3 (w.heap.size + 1) 134 [.int .u64 0, .int .u64 0, .int .u64 0, .int .u64 0]) := by rw [hW]; exact Blk.other (Blk.drewN HZ2.out nq) ⟨w.heap.size, 0, none⟩ (by show w.heap.size + 1 ≠ w.heap.size; omega) (.int .u64 (rotl a1 32))
    rw [← hW]
    clear hW q0 f0 q0' f0' HB2 HK2 HZ2
    have ex3 := hid ex3
    have q2 : w3.cell? ⟨w.heap.size, 2, none⟩ = some (.int .u64 v.c) := HB3.out.cell 2
    have q3 : w3.cell? ⟨w.heap.size, 3, none⟩ = some (.int .u64 v.d) := HB3.out.cell 3
    have f2 : w3.frozen? ⟨w.heap.size, 2, none⟩ = false := HB3.out.frozen 2
    go_upto_region 5 with fail
    obtain ⟨x4, ex4⟩ : ∃ y, (IntKind.u64.wrap (v.c + v.d)) = y := ⟨_, rfl⟩
    obtain ⟨w4, hW⟩ : ∃ y, y = (w3.setCell ⟨w.heap.size, 2, none⟩ (.int .u64 (IntKind.u64.wrap (v.c + v.d)))) := ⟨_, rfl⟩
    have HB4 : Hid (Blk w4 w.heap.size 134 [.int .u64 x3, .int .u64 x2, .int .u64 x4, .int .u64 v.d]) := by rw [hW, ← ex4]; exact Blk.set HB3.out 2 (.int .u64 (IntKind.u64.wrap (v.c + v.d)))
    have HK4 : Hid (Kp Nb w w4) := by rw [hW]; exact Kp.setCell HK3.out (p := ⟨w.heap.size, 2, none⟩) (fun h => absurd h (Nat.lt_irrefl _)) (.int .u64 (IntKind.u64.wrap (v.c + v.d)))
    have HZ4 : Hid (Blk w4 (w.heap.size + 1) 134 [.int .u64 0, .int .u64 0, .int .u64 0, .int .u64 0]) := by rw [hW]; exact Blk.other HZ3.out ⟨w.heap.size, 2, none⟩ (by show w.heap.size + 1 ≠ w.heap.size; omega) (.int .u64 (IntKind.u64.wrap (v.c + v.d)))
    rw [← hW]
    clear hW q2 q3 f2 HB3 HK3 HZ3
    have ex4 := hid ex4
    go_upto_region 5 with fail
    go_cut [11] (fun _ wx => Hid (Blk wx w.heap.size 134 [.int .u64 x3, .int .u64 x2, .int .u64 x4, .int .u64 (bits .xor .u64 (rotl v.d 16) x4)]) ∧ Hid (Kp Nb w wx) ∧ Hid (Blk wx (w.heap.size + 1) 134 [.int .u64 0, .int .u64 0, .int .u64 0, .int .u64 0]))
    case first =>
      have q3 : w4.cell? ⟨w.heap.size, 3, none⟩ = some (.int .u64 v.d) := HB4.out.cell 3
      have q2 : w4.cell? ⟨w.heap.size, 2, none⟩ = some (.int .u64 x4) := HB4.out.cell 2
      have f3 : w4.frozen? ⟨w.heap.size, 3, none⟩ = false := HB4.out.frozen 3
      go_region_with (go_at_call 122; refine (up_any _ _ _ (by decide)).mono ?_; rintro e wy ⟨rfl, nq, rfl⟩)
      all_goals (go_wp2_with fail; go_meet; exact ⟨hid (Blk.set (Blk.drewN HB4.out (1 + nq)) 3 (.int .u64 _)), hid ((HK4.out.drewN (1 + nq)).setCell (p := ⟨w.heap.size, 3, none⟩) (fun h => absurd h (Nat.lt_irrefl _)) (.int .u64 _)), hid (Blk.other (Blk.drewN HZ4.out (1 + nq)) ⟨w.heap.size, 3, none⟩ (by show w.heap.size + 1 ≠ w.heap.size; omega) (.int .u64 _))⟩)
    case rest =>
      obtain ⟨HB5, HK5, HZ5⟩ := hcut
      obtain ⟨x5, ex5⟩ : ∃ y, (bits .xor .u64 (rotl v.d 16) x4) = y := ⟨_, rfl⟩
      rw [ex5] at HB5
      have ex5 := hid ex5
      clear HB4 HK4 HZ4
      have q0 : wc.cell? ⟨w.heap.size, 0, none⟩ = some (.int .u64 x3) := HB5.out.cell 0
      have q3 : wc.cell? ⟨w.heap.size, 3, none⟩ = some (.int .u64 x5) := HB5.out.cell 3
      have f0 : wc.frozen? ⟨w.heap.size, 0, none⟩ = false := HB5.out.frozen 0
      go_upto_region 7 with fail
      obtain ⟨x6, ex6⟩ : ∃ y, (IntKind.u64.wrap (x3 + x5)) = y := ⟨_, rfl⟩
      obtain ⟨w6, hW⟩ : ∃ y, y = (wc.setCell ⟨w.heap.size, 0, none⟩ (.int .u64 (IntKind.u64.wrap (x3 + x5)))) := ⟨_, rfl⟩
      have HB6 : Hid (Blk w6 w.heap.size 134 [.int .u64 x6, .int .u64 x2, .int .u64 x4, .int .u64 x5]) := by rw [hW, ← ex6]; exact Blk.set HB5.out 0 (.int .u64 (IntKind.u64.wrap (x3 + x5)))
      have HK6 : Hid (Kp Nb w w6) := by rw [hW]; exact Kp.setCell HK5.out (p := ⟨w.heap.size, 0, none⟩) (fun h => absurd h (Nat.lt_irrefl _)) (.int .u64 (IntKind.u64.wrap (x3 + x5)))
      have HZ6 : Hid (Blk w6 (w.heap.size + 1) 134 [.int .u64 0, .int .u64 0, .int .u64 0, .int .u64 0]) := by rw [hW]; exact Blk.other HZ5.out ⟨w.heap.size, 0, none⟩ (by show w.heap.size + 1 ≠ w.heap.size; omega) (.int .u64 (IntKind.u64.wrap (x3 + x5)))
      rw [← hW]
      clear hW q0 q3 f0 HB5 HK5 HZ5
      have ex6 := hid ex6
      go_upto_region 7 with fail
      go_cut [11] (fun _ wx => Hid (Blk wx w.heap.size 134 [.int .u64 x6, .int .u64 x2, .int .u64 x4, .int .u64 (bits .xor .u64 (rotl x5 21) x6)]) ∧ Hid (Kp Nb w wx) ∧ Hid (Blk wx (w.heap.size + 1) 134 [.int .u64 0, .int .u64 0, .int .u64 0, .int .u64 0]))
      case first =>
        have q3 : w6.cell? ⟨w.heap.size, 3, none⟩ = some (.int .u64 x5) := HB6.out.cell 3
        have q0 : w6.cell? ⟨w.heap.size, 0, none⟩ = some (.int .u64 x6) := HB6.out.cell 0
        have f3 : w6.frozen? ⟨w.heap.size, 3, none⟩ = false := HB6.out.frozen 3
        go_region_with (go_at_call 122; refine (up_any _ _ _ (by decide)).mono ?_; rintro e wy ⟨rfl, nq, rfl⟩)
        all_goals (go_wp2_with fail; go_meet; exact ⟨hid (Blk.set (Blk.drewN HB6.out (1 + nq)) 3 (.int .u64 _)), hid ((HK6.out.drewN (1 + nq)).setCell (p := ⟨w.heap.size, 3, none⟩) (fun h => absurd h (Nat.lt_irrefl _)) (.int .u64 _)), hid (Blk.other (Blk.drewN HZ6.out (1 + nq)) ⟨w.heap.size, 3, none⟩ (by show w.heap.size + 1 ≠ w.heap.size; omega) (.int .u64 _))⟩)
      case rest =>
        obtain ⟨HB7, HK7, HZ7⟩ := hcut
        obtain ⟨x7, ex7⟩ : ∃ y, (bits .xor .u64 (rotl x5 21) x6) = y := ⟨_, rfl⟩
        rw [ex7] at HB7
        have ex7 := hid ex7
        clear HB6 HK6 HZ6
        have q2 : wc.cell? ⟨w.heap.size, 2, none⟩ = some (.int .u64 x4) := HB7.out.cell 2
        have q1 : wc.cell? ⟨w.heap.size, 1, none⟩ = some (.int .u64 x2) := HB7.out.cell 1
        have f2 : wc.frozen? ⟨w.heap.size, 2, none⟩ = false := HB7.out.frozen 2
        go_upto_region 9 with fail
        obtain ⟨x8, ex8⟩ : ∃ y, (IntKind.u64.wrap (x4 + x2)) = y := ⟨_, rfl⟩
        obtain ⟨w8, hW⟩ : ∃ y, y = (wc.setCell ⟨w.heap.size, 2, none⟩ (.int .u64 (IntKind.u64.wrap (x4 + x2)))) := ⟨_, rfl⟩
        have HB8 : Hid (Blk w8 w.heap.size 134 [.int .u64 x6, .int .u64 x2, .int .u64 x8, .int .u64 x7]) := by rw [hW, ← ex8]; exact Blk.set HB7.out 2 (.int .u64 (IntKind.u64.wrap (x4 + x2)))
        have HK8 : Hid (Kp Nb w w8) := by rw [hW]; exact Kp.setCell HK7.out (p := ⟨w.heap.size, 2, none⟩) (fun h => absurd h (Nat.lt_irrefl _)) (.int .u64 (IntKind.u64.wrap (x4 + x2)))
        have HZ8 : Hid (Blk w8 (w.heap.size + 1) 134 [.int .u64 0, .int .u64 0, .int .u64 0, .int .u64 0]) := by rw [hW]; exact Blk.other HZ7.out ⟨w.heap.size, 2, none⟩ (by show w.heap.size + 1 ≠ w.heap.size; omega) (.int .u64 (IntKind.u64.wrap (x4 + x2)))
        rw [← hW]
        clear hW q2 q1 f2 HB7 HK7 HZ7
        have ex8 := hid ex8
        go_upto_region 9 with fail
        go_cut [11] (fun _ wx => Hid (Blk wx w.heap.size 134 [.int .u64 x6, .int .u64 (bits .xor .u64 (rotl x2 17) x8), .int .u64 x8, .int .u64 x7]) ∧ Hid (Kp Nb w wx) ∧ Hid (Blk wx (w.heap.size + 1) 134 [.int .u64 0, .int .u64 0, .int .u64 0, .int .u64 0]))
        case first =>
          have q1 : w8.cell? ⟨w.heap.size, 1, none⟩ = some (.int .u64 x2) := HB8.out.cell 1
          have q2 : w8.cell? ⟨w.heap.size, 2, none⟩ = some (.int .u64 x8) := HB8.out.cell 2
          have f1 : w8.frozen? ⟨w.heap.size, 1, none⟩ = false := HB8.out.frozen 1
          go_region_with (go_at_call 122; refine (up_any _ _ _ (by decide)).mono ?_; rintro e wy ⟨rfl, nq, rfl⟩)
          all_goals (go_wp2_with fail; go_meet; exact ⟨hid (Blk.set (Blk.drewN HB8.out (1 + nq)) 1 (.int .u64 _)), hid ((HK8.out.drewN (1 + nq)).setCell (p := ⟨w.heap.size, 1, none⟩) (fun h => absurd h (Nat.lt_irrefl _)) (.int .u64 _)), hid (Blk.other (Blk.drewN HZ8.out (1 + nq)) ⟨w.heap.size, 1, none⟩ (by show w.heap.size + 1 ≠ w.heap.size; omega) (.int .u64 _))⟩)
        case rest =>
          obtain ⟨HB9, HK9, HZ9⟩ := hcut
          obtain ⟨x9, ex9⟩ : ∃ y, (bits .xor .u64 (rotl x2 17) x8) = y := ⟨_, rfl⟩
          rw [ex9] at HB9
          have ex9 := hid ex9
          clear HB8 HK8 HZ8
          have q2 : wc.cell? ⟨w.heap.size, 2, none⟩ = some (.int .u64 x8) := HB9.out.cell 2
          have f2 : wc.frozen? ⟨w.heap.size, 2, none⟩ = false := HB9.out.frozen 2
          go_wp2_with fail
          refine (up_any _ _ _ (by decide)).mono ?_
          rintro e wy ⟨rfl, nq, rfl⟩
          have q2' : (wc.drewN nq).cell? ⟨w.heap.size, 2, none⟩ = some (.int .u64 x8) := q2
          have f2' : (wc.drewN nq).frozen? ⟨w.heap.size, 2, none⟩ = false := f2
          go_upto_region 11 with fail
          obtain ⟨x10, ex10⟩ : ∃ y, (rotl x8 32) = y := ⟨_, rfl⟩
          obtain ⟨w10, hW⟩ : ∃ y, y = ((wc.drewN nq).setCell ⟨w.heap.size, 2, none⟩ (.int .u64 (rotl x8 32))) := ⟨_, rfl⟩
          have HB10 : Hid (Blk w10 w.heap.size 134 [.int .u64 x6, .int .u64 x9, .int .u64 x10, .int .u64 x7]) := by rw [hW, ← ex10]; exact Blk.set (Blk.drewN HB9.out nq) 2 (.int .u64 (rotl x8 32))
          have HK10 : Hid (Kp Nb w w10) := by rw [hW]; exact Kp.setCell (HK9.out.drewN nq) (p := ⟨w.heap.size, 2, none⟩) (fun h => absurd h (Nat.lt_irrefl _)) (.int .u64 (rotl x8 32))
          have HZ10 : Hid (Blk w10 (w.heap.size + 1) 134 [.int .u64 0, .int .u64 0, .int .u64 0, .int .u64 0]) := by rw [hW]; exact Blk.other (Blk.drewN HZ9.out nq) ⟨w.heap.size, 2, none⟩ (by show w.heap.size + 1 ≠ w.heap.size; omega) (.int .u64 (rotl x8 32))
          rw [← hW]
          clear hW q2 f2 q2' f2' HB9 HK9 HZ9
          have ex10 := hid ex10
          have q0 : w10.cell? ⟨w.heap.size, 0, none⟩ = some (.int .u64 x6) := HB10.out.cell 0
          have q1 : w10.cell? ⟨w.heap.size, 1, none⟩ = some (.int .u64 x9) := HB10.out.cell 1
          have q2 : w10.cell? ⟨w.heap.size, 2, none⟩ = some (.int .u64 x10) := HB10.out.cell 2
          have q3 : w10.cell? ⟨w.heap.size, 3, none⟩ = some (.int .u64 x7) := HB10.out.cell 3
          have z0 : w10.cell? ⟨w.heap.size + 1, 0, none⟩ = some (.int .u64 0) := HZ10.out.cell 0
          have fz0 : w10.frozen? ⟨w.heap.size + 1, 0, none⟩ = false := HZ10.out.frozen 0
          have z1 : w10.cell? ⟨w.heap.size + 1, 1, none⟩ = some (.int .u64 0) := HZ10.out.cell 1
          have fz1 : w10.frozen? ⟨w.heap.size + 1, 1, none⟩ = false := HZ10.out.frozen 1
          have z2 : w10.cell? ⟨w.heap.size + 1, 2, none⟩ = some (.int .u64 0) := HZ10.out.cell 2
          have fz2 : w10.frozen? ⟨w.heap.size + 1, 2, none⟩ = false := HZ10.out.frozen 2
          have z3 : w10.cell? ⟨w.heap.size + 1, 3, none⟩ = some (.int .u64 0) := HZ10.out.cell 3
          have fz3 : w10.frozen? ⟨w.heap.size + 1, 3, none⟩ = false := HZ10.out.frozen 3
          go_wp2
          obtain ⟨wf, hwf⟩ : ∃ y, y = ((((w10.setCell ⟨w.heap.size + 1, 0, none⟩ (.int .u64 x6)).setCell ⟨w.heap.size + 1, 1, none⟩ (.int .u64 x9)).setCell ⟨w.heap.size + 1, 2, none⟩ (.int .u64 x10)).setCell ⟨w.heap.size + 1, 3, none⟩ (.int .u64 x7)) := ⟨_, rfl⟩
          have HF : Hid (Blk wf (w.heap.size + 1) 134 [.int .u64 x6, .int .u64 x9, .int .u64 x10, .int .u64 x7]) := by rw [hwf]; exact Blk.set (Blk.set (Blk.set (Blk.set HZ10.out 0 (.int .u64 x6)) 1 (.int .u64 x9)) 2 (.int .u64 x10)) 3 (.int .u64 x7)
          have HKF : Hid (Kp Nb w wf) := by rw [hwf]; exact (Kp.setCell (Kp.setCell (Kp.setCell (Kp.setCell HK10.out (p := ⟨w.heap.size + 1, 0, none⟩) (fun h => absurd h (show ¬ w.heap.size + 1 < w.heap.size by omega)) (.int .u64 x6)) (p := ⟨w.heap.size + 1, 1, none⟩) (fun h => absurd h (show ¬ w.heap.size + 1 < w.heap.size by omega)) (.int .u64 x9)) (p := ⟨w.heap.size + 1, 2, none⟩) (fun h => absurd h (show ¬ w.heap.size + 1 < w.heap.size by omega)) (.int .u64 x10)) (p := ⟨w.heap.size + 1, 3, none⟩) (fun h => absurd h (show ¬ w.heap.size + 1 < w.heap.size by omega)) (.int .u64 x7))
          rw [← hwf]
          clear hwf
          have y0 : wf.cell? ⟨w.heap.size + 1, 0, none⟩ = some (.int .u64 x6) := HF.out.cell 0
          have y1 : wf.cell? ⟨w.heap.size + 1, 1, none⟩ = some (.int .u64 x9) := HF.out.cell 1
          have y2 : wf.cell? ⟨w.heap.size + 1, 2, none⟩ = some (.int .u64 x10) := HF.out.cell 2
          have y3 : wf.cell? ⟨w.heap.size + 1, 3, none⟩ = some (.int .u64 x7) := HF.out.cell 3
          refine bodyPost_ret (v := .agg #[.int .u64 x6, .int .u64 x9, .int .u64 x10, .int .u64 x7]) (by simp [results, Tryz.results107, go_sem, y0, y1, y2, y3]) rfl ⟨?_, HKF.out⟩
          rw [← ex10.out, ← ex9.out, ← ex8.out, ← ex7.out, ← ex6.out, ← ex5.out, ← ex4.out, ← ex3.out, ← ex2.out, ← ea1]
          rfl
end
section
open Go.RowKit
def PadR (zs : List Int) (s : Value) : Prop := ∃ k : Nat, k ≤ 7 - zs.length % 8 ∧ s = .string (st (zs ++ List.replicate k 0))
def strOf : Value → Nat | .string s => s.size | _ => 0
def V4.cells (v : V4) : List Value := [.int .u64 v.a, .int .u64 v.b, .int .u64 v.c, .int .u64 v.d]
def MainR (a b : Int) (zs : List Int) (w : World) (s : Value) (wr : World) : Prop :=
  ∃ j : Nat, j ≤ zs.length / 8 + 1 ∧ s = .string (st ((padded zs).drop (8 * j))) ∧ Hid (Blk wr (w.heap.size + 1) 134 (atWord a b zs j).cells) ∧ Hid (Kp Nb w wr)
def WordR (ys : List Int) (x i : Value) : Prop := ∃ k : Nat, k ≤ 8 ∧ i = .int .i64 ((k : Int) - 1) ∧ x = .int .u64 (num (ys.drop k))
theorem st_zero (zs : List Int) : st zs ++ (⟨#[0]⟩ : ByteArray) = st (zs ++ [0]) := by rw [st_append]; rfl
set_option maxRecDepth 100000 in
set_option maxHeartbeats 1000000 in
theorem ref_hash (a b : Int) (zs : List Int) (w : World) (hz : IsBytes zs) (hl : zs.length < 4611686018427387904) :
    Calls Tryz.prog 90 #[.agg #[.int .u64 a, .int .u64 b], .string (st zs)] w fun e w' => e = .returned (.int .u64 (hash a b zs)) ∧ Kp Nb w w' := by
  have HZ := hid hz
  have HL := hid hl
  clear hz hl
  have hst := st_size zs
  go_enter Tryz.func90, Tryz.ntmps90
  go_wp2_with fail
  have HK1 := hid (((Kp.refl Nb w).alloc (.cells #[.int .u64 a, .int .u64 b] 118)).alloc (.cells #[.int .u64 (bits .xor .u64 a 8317987319222330741), .int .u64 (bits .xor .u64 b 7237128888997146477), .int .u64 (bits .xor .u64 a 7816392313619706465), .int .u64 (bits .xor .u64 b 8387220255154660723)] 134))
  have HB1 : Hid (Blk (World.alloc (World.alloc w (.cells #[.int .u64 a, .int .u64 b] 118)) (.cells #[.int .u64 (bits .xor .u64 a 8317987319222330741), .int .u64 (bits .xor .u64 b 7237128888997146477), .int .u64 (bits .xor .u64 a 7816392313619706465), .int .u64 (bits .xor .u64 b 8387220255154660723)] 134)) (w.heap.size + 1) 134 (atWord a b zs 0).cells) := by
    rw [word_first]
    have := Blk.new (World.alloc w (.cells #[.int .u64 a, .int .u64 b] 118)) 134 (Sp.init a b).v.cells
    rw [World.size_alloc] at this
    exact this
  obtain ⟨w1, hW⟩ : ∃ w1, w1 = (World.alloc (World.alloc w (.cells #[.int .u64 a, .int .u64 b] 118)) (.cells #[.int .u64 (bits .xor .u64 a 8317987319222330741), .int .u64 (bits .xor .u64 b 7237128888997146477), .int .u64 (bits .xor .u64 a 7816392313619706465), .int .u64 (bits .xor .u64 b 8387220255154660723)] 134)) := ⟨_, rfl⟩
  rw [← hW] at HB1 HK1 ⊢
  clear hW
  go_loop [1] (PadR zs) (fun s => zs.length + 8 - strOf s)
  case atStart => exact ⟨0, Nat.zero_le _, by simp⟩
  case round =>
    obtain ⟨k, hk, rfl⟩ := hrel
    have hsz : (st (zs ++ List.replicate k 0)).size = zs.length + k := by rw [st_size]; simp
    by_cases hlt : k < 7 - zs.length % 8
    · have HR := hid (show PadR zs (.string (st (zs ++ List.replicate k 0) ++ ⟨#[0]⟩)) from ⟨k + 1, by omega, by rw [st_zero, List.append_assoc, ← List.replicate_succ']⟩)
      have HM := hid (show zs.length + 8 - strOf (.string (st (zs ++ List.replicate k 0) ++ ⟨#[0]⟩)) < zs.length + 8 - strOf (.string (st (zs ++ List.replicate k 0))) from by
        rw [st_zero]; simp only [strOf]; rw [hsz, st_size]; simp; omega)
      have g1 : (((zs.length : Int) + k) % 8 != 7) = true := by rw [bne_iff_ne]; omega
      have g2 : ¬ (9223372036854775807 < (st (zs ++ List.replicate k 0)).size + 1) := by rw [hsz]; have := HL.out; omega
      go_wp2
      exact ⟨HR.out, HM.out⟩
    · obtain rfl : k = 7 - zs.length % 8 := by omega
      have hc := fun w => conv_one w ((zs.length : Int) % 256) (by omega) (by omega)
      have g1 : (((zs.length : Int) + (7 - zs.length % 8 : Nat)) % 8 != 7) = false := by rw [bne_eq_false_iff_eq]; omega
      have g2 : ¬ (9223372036854775807 < (st (zs ++ List.replicate (7 - zs.length % 8) 0)).size + (st [(zs.length : Int) % 256]).size) := by rw [hsz, st_size]; have := HL.out; simp only [List.length_cons, List.length_nil]; omega
      have hS : Hid (st (zs ++ List.replicate (7 - zs.length % 8) 0) ++ st [(zs.length : Int) % 256] = st ((padded zs).drop 0)) := by
        rw [List.drop_zero]; unfold Hid padded; rw [← st_append, List.append_assoc]
      go_wp2_with fail
      rw [hS.out]
      have HK2 := hid (HK1.out.alloc (.cells #[.int .u8 ((zs.length : Int) % 256)] 5))
      have HB2 := hid (HB1.out.alloc (.cells #[.int .u8 ((zs.length : Int) % 256)] 5))
      obtain ⟨w2, hW⟩ : ∃ w2, w2 = w1.alloc (.cells #[.int .u8 ((zs.length : Int) % 256)] 5) := ⟨_, rfl⟩
      rw [← hW] at HB2 HK2 ⊢
      clear hW hc g1 g2 hS hsz hlt hk HK1 HB1 hst
      go_loopw [1] (MainR a b zs w) (fun s _ => strOf s)
      case atStart => exact ⟨0, by omega, rfl, HB2, HK2⟩
      case round =>
        clear HB2 HK2
        obtain ⟨j, hj, rfl, HB, HK⟩ := hrel
        obtain ⟨rem, hrem⟩ : ∃ rem, rem = (padded zs).drop (8 * j) := ⟨_, rfl⟩
        have hrl : rem.length = 8 * (zs.length / 8 + 1 - j) := by rw [hrem, List.length_drop, padded_length]; omega
        have hrb := hid (show IsBytes rem from by rw [hrem]; exact (padded_bytes HZ.out).drop _)
        have HREM := hid hrem
        have hsz : (st rem).size = rem.length := st_size rem
        have HRL := hid hrl
        rw [← hrem]
        clear hrem
        by_cases hlt : j < zs.length / 8 + 1
        · have g8 : 8 ≤ rem.length := by omega
          obtain ⟨ys, hys⟩ : ∃ ys, ys = rem.take 8 := ⟨_, rfl⟩
          have hyl : Hid (ys.length = 8) := by rw [hys]; unfold Hid; rw [List.length_take]; omega
          have hyb : Hid (IsBytes ys) := by rw [hys]; exact hrb.out.take 8
          have hg : Hid (∀ m, m < 8 → rem[m]?.getD 0 = ys[m]?.getD 0) := fun m hm => by rw [hys, List.getElem?_take_of_lt hm]
          have g0 : (0 : Int) < (rem.length : Int) := by omega
          have HG8 := hid g8
          clear g8 hrl
          go_wp2_with fail
          go_loop [7, 8] (WordR ys) (fun _ i => (intOf i + 1).toNat)
          case atStart => exact ⟨8, Nat.le_refl _, rfl, by rw [List.drop_of_length_le (by rw [hyl.out]; exact Nat.le_refl _)]; rfl⟩
          case round =>
            obtain ⟨k, hk, rfl, rfl⟩ := hrel
            by_cases hk0 : 0 < k
            · obtain ⟨m, rfl⟩ : ∃ m, k = m + 1 := ⟨k - 1, by omega⟩
              have hix := idx_any rem wr hrb.out m (by have := HG8.out; omega)
              rw [hg.out m (by omega)] at hix
              have hx := hyb.out m
              have HS := hid (num_step ys hyb.out hyl.out m (by omega))
              obtain ⟨X, hX⟩ : ∃ X, X = ys[m]?.getD 0 := ⟨_, rfl⟩
              rw [← hX] at hix hx HS
              obtain ⟨N, hN⟩ : ∃ N, N = num (ys.drop (m + 1)) := ⟨_, rfl⟩
              rw [← hN] at HS ⊢
              have HR := hid (show WordR ys (.int .u64 (IntKind.u64.wrap (IntKind.u64.wrap (N * 256) + X))) (.int .i64 ((m : Int) - 1)) from ⟨m, by omega, rfl, by rw [HS.out]⟩)
              clear hX hN HS
              go_wp2
              exact ⟨HR.out, by simp [intOf]⟩
            · obtain rfl : k = 0 := by omega
              rw [show List.drop 0 ys = ys from List.drop_zero]
              obtain ⟨V, hV⟩ : ∃ V, V = atWord a b zs j := ⟨_, rfl⟩
              obtain ⟨X, hX⟩ : ∃ X, X = num ys := ⟨_, rfl⟩
              have HV : Hid (V.word X = atWord a b zs (j + 1)) := by
                rw [hV, hX, hys, HREM.out]; exact word_step a b zs HZ.out j hlt
              rw [← hV] at HB
              rw [← hX]
              clear hV hX
              obtain ⟨va, vb, vc, vd⟩ := V
              have q0 : wr.cell? ⟨w.heap.size + 1, 0, none⟩ = some (.int .u64 va) := HB.out.cell 0
              have q1 : wr.cell? ⟨w.heap.size + 1, 1, none⟩ = some (.int .u64 vb) := HB.out.cell 1
              have q2 : wr.cell? ⟨w.heap.size + 1, 2, none⟩ = some (.int .u64 vc) := HB.out.cell 2
              have q3 : wr.cell? ⟨w.heap.size + 1, 3, none⟩ = some (.int .u64 vd) := HB.out.cell 3
              have f0 : wr.frozen? ⟨w.heap.size + 1, 0, none⟩ = false := HB.out.frozen 0
              have f1 : wr.frozen? ⟨w.heap.size + 1, 1, none⟩ = false := HB.out.frozen 1
              have f2 : wr.frozen? ⟨w.heap.size + 1, 2, none⟩ = false := HB.out.frozen 2
              have f3 : wr.frozen? ⟨w.heap.size + 1, 3, none⟩ = false := HB.out.frozen 3
              go_wp2_with fail
              have HB3 : Hid (Blk (wr.setCell ⟨w.heap.size + 1, 3, none⟩ (.int .u64 (bits .xor .u64 vd X))) (w.heap.size + 1) 134 (V4.cells ⟨va, vb, vc, bits .xor .u64 vd X⟩)) := Blk.set HB.out 3 (.int .u64 (bits .xor .u64 vd X))
              have HK3 : Hid (Kp Nb w (wr.setCell ⟨w.heap.size + 1, 3, none⟩ (.int .u64 (bits .xor .u64 vd X)))) := HK.out.new (Nat.le_succ _) 3 _
              obtain ⟨w3, hW⟩ : ∃ w3, w3 = wr.setCell ⟨w.heap.size + 1, 3, none⟩ (.int .u64 (bits .xor .u64 vd X)) := ⟨_, rfl⟩
              rw [← hW] at HB3 HK3 ⊢
              clear hW q0 q1 q2 q3 f0 f1 f2 f3 HB HK
              refine (ref_round ⟨va, vb, vc, bits .xor .u64 vd X⟩ _).mono ?_
              rintro e wa ⟨rfl, ka⟩
              have Ka := hid ka
              clear ka
              go_wp2_with fail
              refine (ref_round (rnd ⟨va, vb, vc, bits .xor .u64 vd X⟩) _).mono ?_
              rintro e wb ⟨rfl, kb⟩
              obtain ⟨U, hU⟩ : ∃ U, U = rnd (rnd ⟨va, vb, vc, bits .xor .u64 vd X⟩) := ⟨_, rfl⟩
              rw [← hU]
              have HU : Hid ({ U with a := bits .xor .u64 U.a X } = atWord a b zs (j + 1)) := by rw [← HV.out, hU]; rfl
              have HB4 := hid ((HB3.out.kept Ka.out (fun h => h)).kept kb (fun h => h))
              have HK4 := hid ((HK3.out.trans Ka.out (fun _ _ h => h)).trans kb (fun _ _ h => h))
              clear hU HV kb Ka HB3 HK3
              obtain ⟨ua, ub, uc, ud⟩ := U
              have y0 : wb.cell? ⟨w.heap.size + 1, 0, none⟩ = some (.int .u64 va) := HB4.out.cell 0
              have y1 : wb.cell? ⟨w.heap.size + 1, 1, none⟩ = some (.int .u64 vb) := HB4.out.cell 1
              have y2 : wb.cell? ⟨w.heap.size + 1, 2, none⟩ = some (.int .u64 vc) := HB4.out.cell 2
              have y3 : wb.cell? ⟨w.heap.size + 1, 3, none⟩ = some (.int .u64 (bits .xor .u64 vd X)) := HB4.out.cell 3
              have f0 : wb.frozen? ⟨w.heap.size + 1, 0, none⟩ = false := HB4.out.frozen 0
              have f1 : wb.frozen? ⟨w.heap.size + 1, 1, none⟩ = false := HB4.out.frozen 1
              have f2 : wb.frozen? ⟨w.heap.size + 1, 2, none⟩ = false := HB4.out.frozen 2
              have f3 : wb.frozen? ⟨w.heap.size + 1, 3, none⟩ = false := HB4.out.frozen 3
              have h8 : (8 : Int) ≤ (rem.length : Int) := by have := HG8.out; omega
              have HB5 := hid (((((HB4.out.set 0 (.int .u64 ua)).set 1 (.int .u64 ub)).set 2 (.int .u64 uc)).set 3 (.int .u64 ud)).set 0 (.int .u64 (bits .xor .u64 ua X)))
              have HK5 := hid (((((HK4.out.new (Nat.le_succ _) 0 (.int .u64 ua)).new (Nat.le_succ _) 1 (.int .u64 ub)).new (Nat.le_succ _) 2 (.int .u64 uc)).new (Nat.le_succ _) 3 (.int .u64 ud)).new (Nat.le_succ _) 0 (.int .u64 (bits .xor .u64 ua X)))
              have HR := hid (show MainR a b zs w (.string ((st rem).extract 8 rem.length)) (((((wb.setCell ⟨w.heap.size + 1, 0, none⟩ (.int .u64 ua)).setCell ⟨w.heap.size + 1, 1, none⟩ (.int .u64 ub)).setCell ⟨w.heap.size + 1, 2, none⟩ (.int .u64 uc)).setCell ⟨w.heap.size + 1, 3, none⟩ (.int .u64 ud)).setCell ⟨w.heap.size + 1, 0, none⟩ (.int .u64 (bits .xor .u64 ua X))) from
                ⟨j + 1, by omega, by rw [st_extract, HREM.out, List.drop_drop]; rfl, by rw [← HU.out]; exact HB5, HK5⟩)
              have HM := hid (show strOf (.string ((st rem).extract 8 rem.length)) < strOf (.string (st rem)) from by rw [st_extract]; simp only [strOf]; rw [st_size, st_size, List.length_drop]; have := HG8.out; omega)
              clear HB4 HK4 HB5 HK5 HU
              go_wp2
              refine ⟨?_, ?measure⟩
              iterate 32 (apply Exists.intro)
              refine ⟨?rel, rfl⟩
              case rel => exact HR.out
              case measure => exact HM.out
        · obtain rfl : j = zs.length / 8 + 1 := by omega
          obtain ⟨V, hV⟩ : ∃ V, V = atWord a b zs (zs.length / 8 + 1) := ⟨_, rfl⟩
          have HV := hid (hash_ref a b zs)
          rw [← hV] at HB HV
          clear hV
          obtain ⟨va, vb, vc, vd⟩ := V
          have g0 : rem.length = 0 := by omega
          have q0 : wr.cell? ⟨w.heap.size + 1, 0, none⟩ = some (.int .u64 va) := HB.out.cell 0
          have q1 : wr.cell? ⟨w.heap.size + 1, 1, none⟩ = some (.int .u64 vb) := HB.out.cell 1
          have q2 : wr.cell? ⟨w.heap.size + 1, 2, none⟩ = some (.int .u64 vc) := HB.out.cell 2
          have q3 : wr.cell? ⟨w.heap.size + 1, 3, none⟩ = some (.int .u64 vd) := HB.out.cell 3
          have f2 : wr.frozen? ⟨w.heap.size + 1, 2, none⟩ = false := HB.out.frozen 2
          have HB3 : Hid (Blk (wr.setCell ⟨w.heap.size + 1, 2, none⟩ (.int .u64 (bits .xor .u64 vc 255))) (w.heap.size + 1) 134 (V4.cells ⟨va, vb, bits .xor .u64 vc 255, vd⟩)) := Blk.set HB.out 2 (.int .u64 (bits .xor .u64 vc 255))
          have HK3 : Hid (Kp Nb w (wr.setCell ⟨w.heap.size + 1, 2, none⟩ (.int .u64 (bits .xor .u64 vc 255)))) := HK.out.new (Nat.le_succ _) 2 _
          clear HB HK hrl
          go_wp2_with fail
          refine (ref_round ⟨va, vb, bits .xor .u64 vc 255, vd⟩ _).mono ?_
          rintro e wa ⟨rfl, ka⟩
          have HB4 := hid (HB3.out.kept ka (fun h => h))
          have HK4 := hid (HK3.out.trans ka (fun _ _ h => h))
          clear ka HB3 HK3 q0 q1 q2 q3 f2
          go_wp2_with fail
          refine (ref_round (rnd ⟨va, vb, bits .xor .u64 vc 255, vd⟩) _).mono ?_
          rintro e wb ⟨rfl, ka⟩
          have HB5 := hid (HB4.out.kept ka (fun h => h))
          have HK5 := hid (HK4.out.trans ka (fun _ _ h => h))
          clear ka HB4 HK4
          go_wp2_with fail
          refine (ref_round (rnd (rnd ⟨va, vb, bits .xor .u64 vc 255, vd⟩)) _).mono ?_
          rintro e wc ⟨rfl, ka⟩
          have HB6 := hid (HB5.out.kept ka (fun h => h))
          have HK6 := hid (HK5.out.trans ka (fun _ _ h => h))
          clear ka HB5 HK5
          go_wp2_with fail
          refine (ref_round (rnd (rnd (rnd ⟨va, vb, bits .xor .u64 vc 255, vd⟩))) _).mono ?_
          rintro e wd ⟨rfl, ka⟩
          have HB7 := hid (HB6.out.kept ka (fun h => h))
          have HK7 := hid (HK6.out.trans ka (fun _ _ h => h))
          clear ka HB6 HK6
          obtain ⟨U, hU⟩ : ∃ U, U = rnd (rnd (rnd (rnd ⟨va, vb, bits .xor .u64 vc 255, vd⟩))) := ⟨_, rfl⟩
          rw [← hU]
          have HU : Hid (hash a b zs = U.out) := by rw [HV.out, hU]; rfl
          clear hU HV
          obtain ⟨ua, ub, uc, ud⟩ := U
          have y0 : wd.cell? ⟨w.heap.size + 1, 0, none⟩ = some (.int .u64 va) := HB7.out.cell 0
          have y1 : wd.cell? ⟨w.heap.size + 1, 1, none⟩ = some (.int .u64 vb) := HB7.out.cell 1
          have y2 : wd.cell? ⟨w.heap.size + 1, 2, none⟩ = some (.int .u64 (bits .xor .u64 vc 255)) := HB7.out.cell 2
          have y3 : wd.cell? ⟨w.heap.size + 1, 3, none⟩ = some (.int .u64 vd) := HB7.out.cell 3
          have f0 : wd.frozen? ⟨w.heap.size + 1, 0, none⟩ = false := HB7.out.frozen 0
          have f1 : wd.frozen? ⟨w.heap.size + 1, 1, none⟩ = false := HB7.out.frozen 1
          have f2 : wd.frozen? ⟨w.heap.size + 1, 2, none⟩ = false := HB7.out.frozen 2
          have f3 : wd.frozen? ⟨w.heap.size + 1, 3, none⟩ = false := HB7.out.frozen 3
          have HK8 := hid ((((HK7.out.new (Nat.le_succ _) 0 (.int .u64 ua)).new (Nat.le_succ _) 1 (.int .u64 ub)).new (Nat.le_succ _) 2 (.int .u64 uc)).new (Nat.le_succ _) 3 (.int .u64 ud))
          clear HK7 HB7
          go_wp2_with fail
          go_ret
          exact ⟨by rw [HU.out]; rfl, HK8.out⟩
end
section
open Go.RowKit
theorem not64 (x : Nat) (h : x < 2 ^ 64) : (2 ^ 64 - 1) ^^^ x = 2 ^ 64 - 1 - x := by
  have e := congrArg BitVec.toNat (BitVec.allOnes_xor (x := BitVec.ofNat 64 x))
  rw [BitVec.toNat_xor, BitVec.toNat_not, BitVec.toNat_allOnes, BitVec.toNat_ofNat, Nat.mod_eq_of_lt h] at e
  exact e
theorem bits_not64 (x : Int) (h0 : 0 ≤ x) (h1 : x < 18446744073709551616) : bits .xor .u64 IntKind.u64.max x = IntKind.u64.wrap (18446744073709551615 - x) := by
  obtain ⟨k, rfl⟩ := Int.eq_ofNat_of_zero_le h0
  have hk : k < 2 ^ 64 := by omega
  unfold bits
  have e1 : (BitVec.ofInt IntKind.u64.bits IntKind.u64.max).toNat = 2 ^ 64 - 1 := by decide +kernel
  have e2 : (BitVec.ofInt IntKind.u64.bits (k : Int)).toNat = k := by
    show (BitVec.ofInt 64 (k : Int)).toNat = k
    rw [BitVec.toNat_ofInt]
    omega
  have e3 : (BitVec.ofInt IntKind.u64.bits IntKind.u64.max ^^^ BitVec.ofInt IntKind.u64.bits (k : Int)).toNat = 2 ^ 64 - 1 - k := by
    rw [BitVec.toNat_xor, e2, e1]
    exact not64 k hk
  show IntKind.u64.wrap ((BitVec.ofInt IntKind.u64.bits IntKind.u64.max ^^^ BitVec.ofInt IntKind.u64.bits (k : Int)).toNat : Int) = _
  rw [e3]
  congr 1
  omega
theorem wrap_u64 (n : Int) : IntKind.u64.wrap n = n % 18446744073709551616 := rfl
set_option maxHeartbeats 400000 in
theorem ref_seed (n : Int) (w : World) :
    Calls Tryz.prog 91 #[.int .i64 n] w fun e w' => e = .returned (.agg #[.int .u64 (seedA n), .int .u64 (seedB n)]) ∧ Kp Nb w w' := by
  have hb : seedB n = IntKind.u64.wrap (18446744073709551615 - IntKind.u64.wrap n) := bits_not64 _ (by rw [wrap_u64]; omega) (by rw [wrap_u64]; omega)
  rw [hb]
  go_enter Tryz.func91, Tryz.ntmps91
  go_wp2
  exact bodyPost_ret (v := .agg #[.int .u64 (seedA n), .int .u64 (IntKind.u64.wrap (18446744073709551615 - IntKind.u64.wrap n))]) (by simp [results, Tryz.results91, go_sem]; rfl) rfl ⟨rfl, (Kp.refl Nb w).alloc _⟩
end
section
open Go.RowKit
theorem bits_range (o : BinOp) (a b : Int) (h : o = .xor) : 0 ≤ bits o .u64 a b ∧ bits o .u64 a b < 18446744073709551616 := by
  subst h
  unfold bits
  show 0 ≤ IntKind.u64.wrap _ ∧ IntKind.u64.wrap _ < _
  rw [IntKind.wrap_u64]
  omega
theorem hash_range (a b : Int) (zs : List Int) : 0 ≤ hash a b zs ∧ hash a b zs < 18446744073709551616 := bits_range .xor _ _ rfl
def eightOf (x : Int) : List Int := (List.range 8).map (byteOf x)
def EightR (x : Int) (w : World) (v s i : Value) (wr : World) : Prop :=
  ∃ k : Nat, k ≤ 8 ∧ i = .int .i64 k ∧ v = .int .u64 (x / 2 ^ (8 * k)) ∧ s = .string (st ((eightOf x).drop (8 - k))) ∧ Hid (Kp Nb w wr)
theorem eight_step (x : Int) : ∀ k, k < 8 → (eightOf x).drop (8 - (k + 1)) = (x / 2 ^ (8 * k) % 256) :: (eightOf x).drop (8 - k)
  | 0, _ => rfl | 1, _ => rfl | 2, _ => rfl | 3, _ => rfl | 4, _ => rfl | 5, _ => rfl | 6, _ => rfl | 7, _ => rfl
set_option maxRecDepth 100000 in
set_option maxHeartbeats 400000 in
theorem ref_eight (x : Int) (w : World) (h0 : 0 ≤ x) (h1 : x < 18446744073709551616) :
    Calls Tryz.prog 89 #[.int .u64 x] w fun e w' => e = .returned (.string (st (eightOf x))) ∧ Kp Nb w w' := by
  have H0 := hid h0
  have H1 := hid h1
  clear h0 h1
  go_enter Tryz.func89, Tryz.ntmps89
  go_wp2_with fail
  go_loopw [0, 3, 4] (EightR x w) (fun _ _ i _ => 8 - (intOf i).toNat)
  case atStart => exact ⟨0, Nat.zero_le _, rfl, by simp, rfl, Kp.refl Nb w⟩
  case round =>
    obtain ⟨k, hk, rfl, rfl, rfl, hkp⟩ := hrel
    by_cases hlt : k < 8
    · obtain ⟨X, hX⟩ : ∃ X, X = x / 2 ^ (8 * k) := ⟨_, rfl⟩
      have hX0 : 0 ≤ X := by rw [hX]; exact Int.ediv_nonneg H0.out (Int.pow_nonneg (by decide))
      have hX1 : X < 18446744073709551616 := by
        have h2 : x / 2 ^ (8 * k) ≤ x := Int.ediv_le_self _ H0.out
        have := H1.out
        omega
      have hn : X / 256 = x / 2 ^ (8 * (k + 1)) := by
        rw [hX, Int.ediv_ediv_of_nonneg (Int.pow_nonneg (by decide)), show (2 : Int) ^ (8 * (k + 1)) = 2 ^ (8 * k) * 256 from by rw [show 8 * (k + 1) = 8 * k + 8 from by omega, Int.pow_add]; rfl]
      have hs := eight_step x k hlt
      rw [← hX] at hs ⊢
      have hc := conv_one wr (X % 256) (by omega) (by omega)
      obtain ⟨S, hS⟩ : ∃ S, S = st ((eightOf x).drop (8 - k)) := ⟨_, rfl⟩
      have hSz : S.size ≤ 8 := by rw [hS, st_size, List.length_drop]; unfold eightOf; simp
      have hSt : Hid (st [X % 256] ++ S = st ((eightOf x).drop (8 - (k + 1)))) := by rw [hs, hS]; unfold Hid; rw [← st_append]; rfl
      have g2 : ¬ (9223372036854775807 < (st [X % 256]).size + S.size) := by rw [st_size]; simp only [List.length_cons, List.length_nil]; omega
      rw [← hS]
      have HR := hid (show EightR x w (.int .u64 (X / 256)) (.string (st [X % 256] ++ S)) (.int .i64 ((k : Int) + 1)) (wr.alloc (.cells #[.int .u8 (X % 256)] 5)) from
        ⟨k + 1, by omega, by go_num, by rw [hn], by rw [hSt.out], hkp.out.alloc _⟩)
      clear hX hn hs hS hSt
      go_wp2
      exact ⟨HR.out, by simp [intOf]; omega⟩
    · obtain rfl : k = 8 := by omega
      go_wp2
      go_ret
      exact ⟨rfl, hkp.out⟩
def tCells (T : List Int) (k : Nat) : List Value := (T.take k ++ List.replicate (16 - k) 0).map (Value.int .u8)
theorem tCells_succ (T : List Int) (hT : T.length = 16) (k : Nat) (hk : k < 16) : (tCells T k).set k (.int .u8 (T[k]?.getD 0)) = tCells T (k + 1) := by
  unfold tCells
  rw [← List.map_set, List.set_append_right _ _ (by rw [List.length_take]; omega), List.length_take, Nat.min_eq_left (by omega), Nat.sub_self, show 16 - k = (16 - (k + 1)) + 1 from by omega, List.replicate_succ, List.set_cons_zero, take_snoc T k (by omega), List.append_assoc]
  rfl
theorem tCells_get (T : List Int) (hT : T.length = 16) (k : Nat) (hk : k < 16) : ∃ u, (tCells T k)[k]? = some u := by
  have : k < (tCells T k).length := by unfold tCells; simp; omega
  exact ⟨_, List.getElem?_eq_getElem this⟩
theorem eightOf_bytes (x : Int) : IsBytes (eightOf x) := by
  refine IsBytes.of fun z hz => ?_
  unfold eightOf at hz
  obtain ⟨i, _, rfl⟩ := List.mem_map.1 hz
  unfold byteOf
  omega
theorem eightOf_length (x : Int) : (eightOf x).length = 8 := by unfold eightOf; simp
def TmR (T : List Int) (w : World) (R : Nat) (i : Value) (wr : World) : Prop :=
  ∃ k : Nat, k ≤ 16 ∧ i = .int .i64 k ∧ Hid (Blk wr R 30 (markCells 0 0 0)) ∧ Hid (Blk wr (R + 1) 30 (tCells T k)) ∧ Hid (Kp Nb w wr)
set_option maxRecDepth 100000 in
set_option maxHeartbeats 1000000 in
theorem ref_mark (zs : List Int) (w : World) (hz : IsBytes zs) (hl : zs.length < 4611686018427387904) :
    Calls Tryz.prog 55 #[.string (st zs)] w fun e w' => e = .returned (markVal (markA zs) (markB zs)) ∧ Kp Nb w w' := by
  have HZ := hid hz
  have HL := hid hl
  clear hz hl
  go_enter Tryz.func55, Tryz.ntmps55
  go_wp2_with fail
  refine (ref_seed 1 _).mono ?_
  rintro e w1 ⟨rfl, k1⟩
  have HB0 : Hid (Blk w1 w.heap.size 30 (markCells 0 0 0)) := ((Blk.new w 30 (markCells 0 0 0)).alloc _).kept k1 (fun h => h)
  have HB1 : Hid (Blk w1 (w.heap.size + 1) 30 (markCells 0 0 0)) := by
    have h := Blk.new (w.alloc (.cells (markCells 0 0 0).toArray 30)) 30 (markCells 0 0 0)
    rw [World.size_alloc] at h
    exact h.kept k1 (fun h => h)
  have HK1 := hid ((((Kp.refl Nb w).alloc _).alloc _).trans k1 (fun _ _ h => h))
  clear k1
  go_wp2_with fail
  refine (ref_hash _ _ zs _ HZ.out HL.out).mono ?_
  rintro e w2 ⟨rfl, k2⟩
  have HK2 := hid k2
  clear k2
  go_wp2_with fail
  refine (ref_eight _ _ (hash_range _ _ _).1 (hash_range _ _ _).2).mono ?_
  rintro e w3 ⟨rfl, k3⟩
  have HK3 := hid (HK2.out.trans k3 (fun _ _ h => h))
  clear k3
  go_wp2_with fail
  refine (ref_seed 2 _).mono ?_
  rintro e w4 ⟨rfl, k4⟩
  have HK4 := hid (HK3.out.trans k4 (fun _ _ h => h))
  clear k4
  go_wp2_with fail
  refine (ref_hash _ _ zs _ HZ.out HL.out).mono ?_
  rintro e w5 ⟨rfl, k5⟩
  have HK5 := hid (HK4.out.trans k5 (fun _ _ h => h))
  clear k5
  go_wp2_with fail
  refine (ref_eight _ _ (hash_range _ _ _).1 (hash_range _ _ _).2).mono ?_
  rintro e w6 ⟨rfl, k6⟩
  have HK6 := hid (HK5.out.trans k6 (fun _ _ h => h))
  clear k6 HK2 HK3 HK4 HK5
  obtain ⟨h, hh⟩ : ∃ h, h = hash (seedA 1) (seedB 1) zs := ⟨_, rfl⟩
  obtain ⟨g, hg⟩ : ∃ g, g = hash (seedA 2) (seedB 2) zs := ⟨_, rfl⟩
  obtain ⟨R, hR⟩ : ∃ R, R = w.heap.size := ⟨_, rfl⟩
  rw [← hh, ← hg, ← hR]
  rw [← hR] at HB0 HB1
  have HR := hid (HB0.out.kept HK6.out (fun h => h))
  have HM := hid (HB1.out.kept HK6.out (fun h => h))
  have HK := hid (HK1.out.trans HK6.out (fun _ _ h => h))
  have g2 : ¬ (9223372036854775807 < (st (eightOf h)).size + (st (eightOf g)).size) := by rw [st_size, st_size, eightOf_length, eightOf_length]; omega
  have HH : Hid (markVal (markA zs) (markB zs) = markVal h g) := by rw [hh, hg]; rfl
  have HRR := hid hR
  have hT : Hid (eightOf h ++ eightOf g = markList h g 8) := rfl
  have HS := hid (st_append (eightOf h) (eightOf g))
  clear hh hg hR HB0 HB1 HK1 HK6
  go_wp2_with fail
  rw [← HS.out]
  obtain ⟨T, HT⟩ : ∃ T, T = eightOf h ++ eightOf g := ⟨_, rfl⟩
  have hTl : Hid (T.length = 16) := by rw [HT]; unfold Hid; rw [List.length_append, eightOf_length, eightOf_length]
  have hTb : Hid (IsBytes T) := by rw [HT]; exact (eightOf_bytes h).append (eightOf_bytes g)
  rw [← HT]
  have HTT := hid HT
  clear HT
  go_loopw [5] (TmR T w R) (fun i _ => 16 - (intOf i).toNat)
  case atStart => exact ⟨0, Nat.zero_le _, rfl, HR.out, HM.out, HK.out⟩
  case round =>
    clear HR HM HK
    obtain ⟨k, hk, rfl, hr, hm, hkp⟩ := hrel
    by_cases hlt : k < 16
    · obtain ⟨u, hu⟩ := tCells_get T hTl.out k hlt
      have c1 := (hm.out.cell k).trans hu
      have hf := hm.out.frozen k
      have hix := idx_any T wr hTb.out k (by rw [hTl.out]; exact hlt)
      have HRel := hid (show TmR T w R (.int .i64 ((k : Int) + 1)) (wr.setCell ⟨R + 1, k, none⟩ (.int .u8 (T[k]?.getD 0))) from
        ⟨k + 1, by omega, by go_num, hr.out.other ⟨R + 1, k, none⟩ (by simp) _, by rw [← tCells_succ T hTl.out k hlt]; exact hm.out.set k _, hkp.out.new (by have := HRR.out; omega) _ _⟩)
      clear hu
      obtain ⟨X, hX⟩ : ∃ X, X = T[k]?.getD 0 := ⟨_, rfl⟩
      rw [← hX] at hix HRel
      clear hX
      go_wp2
      exact ⟨HRel.out, by simp [intOf]; omega⟩
    · obtain rfl : k = 16 := by omega
      have HT' := HTT.out
      subst HT'
      have f0 : wr.cell? ⟨R + 1, 0, none⟩ = some (.int .u8 (byteOf h 0)) := hm.out.cell 0
      have f1 : wr.cell? ⟨R + 1, 1, none⟩ = some (.int .u8 (byteOf h 1)) := hm.out.cell 1
      have f2 : wr.cell? ⟨R + 1, 2, none⟩ = some (.int .u8 (byteOf h 2)) := hm.out.cell 2
      have f3 : wr.cell? ⟨R + 1, 3, none⟩ = some (.int .u8 (byteOf h 3)) := hm.out.cell 3
      have f4 : wr.cell? ⟨R + 1, 4, none⟩ = some (.int .u8 (byteOf h 4)) := hm.out.cell 4
      have f5 : wr.cell? ⟨R + 1, 5, none⟩ = some (.int .u8 (byteOf h 5)) := hm.out.cell 5
      have f6 : wr.cell? ⟨R + 1, 6, none⟩ = some (.int .u8 (byteOf h 6)) := hm.out.cell 6
      have f7 : wr.cell? ⟨R + 1, 7, none⟩ = some (.int .u8 (byteOf h 7)) := hm.out.cell 7
      have f8 : wr.cell? ⟨R + 1, 8, none⟩ = some (.int .u8 (byteOf g 0)) := hm.out.cell 8
      have f9 : wr.cell? ⟨R + 1, 9, none⟩ = some (.int .u8 (byteOf g 1)) := hm.out.cell 9
      have f10 : wr.cell? ⟨R + 1, 10, none⟩ = some (.int .u8 (byteOf g 2)) := hm.out.cell 10
      have f11 : wr.cell? ⟨R + 1, 11, none⟩ = some (.int .u8 (byteOf g 3)) := hm.out.cell 11
      have f12 : wr.cell? ⟨R + 1, 12, none⟩ = some (.int .u8 (byteOf g 4)) := hm.out.cell 12
      have f13 : wr.cell? ⟨R + 1, 13, none⟩ = some (.int .u8 (byteOf g 5)) := hm.out.cell 13
      have f14 : wr.cell? ⟨R + 1, 14, none⟩ = some (.int .u8 (byteOf g 6)) := hm.out.cell 14
      have f15 : wr.cell? ⟨R + 1, 15, none⟩ = some (.int .u8 (byteOf g 7)) := hm.out.cell 15
      have z0 : wr.cell? ⟨R, 0, none⟩ = some (.int .u8 0) := hr.out.cell 0
      have z1 : wr.cell? ⟨R, 1, none⟩ = some (.int .u8 0) := hr.out.cell 1
      have z2 : wr.cell? ⟨R, 2, none⟩ = some (.int .u8 0) := hr.out.cell 2
      have z3 : wr.cell? ⟨R, 3, none⟩ = some (.int .u8 0) := hr.out.cell 3
      have z4 : wr.cell? ⟨R, 4, none⟩ = some (.int .u8 0) := hr.out.cell 4
      have z5 : wr.cell? ⟨R, 5, none⟩ = some (.int .u8 0) := hr.out.cell 5
      have z6 : wr.cell? ⟨R, 6, none⟩ = some (.int .u8 0) := hr.out.cell 6
      have z7 : wr.cell? ⟨R, 7, none⟩ = some (.int .u8 0) := hr.out.cell 7
      have z8 : wr.cell? ⟨R, 8, none⟩ = some (.int .u8 0) := hr.out.cell 8
      have z9 : wr.cell? ⟨R, 9, none⟩ = some (.int .u8 0) := hr.out.cell 9
      have z10 : wr.cell? ⟨R, 10, none⟩ = some (.int .u8 0) := hr.out.cell 10
      have z11 : wr.cell? ⟨R, 11, none⟩ = some (.int .u8 0) := hr.out.cell 11
      have z12 : wr.cell? ⟨R, 12, none⟩ = some (.int .u8 0) := hr.out.cell 12
      have z13 : wr.cell? ⟨R, 13, none⟩ = some (.int .u8 0) := hr.out.cell 13
      have z14 : wr.cell? ⟨R, 14, none⟩ = some (.int .u8 0) := hr.out.cell 14
      have z15 : wr.cell? ⟨R, 15, none⟩ = some (.int .u8 0) := hr.out.cell 15
      have hf := hr.out.frozen
      have HRw := hid (Nat.le_of_eq HRR.out.symm)
      go_wp2
      have hRw := HRw.out
      generalize hW : World.setCell _ ⟨R, 15, none⟩ _ = Wf
      have HF : Hid (Blk Wf R 30 (markCells h g 8)) := by rw [← hW]; exact ((((((((((((((((hr.out.set 0 _).set 1 _).set 2 _).set 3 _).set 4 _).set 5 _).set 6 _).set 7 _).set 8 _).set 9 _).set 10 _).set 11 _).set 12 _).set 13 _).set 14 _).set 15 _)
      have HKF : Hid (Kp Nb w Wf) := by rw [← hW]; exact ((((((((((((((((hkp.out.new hRw 0 _).new hRw 1 _).new hRw 2 _).new hRw 3 _).new hRw 4 _).new hRw 5 _).new hRw 6 _).new hRw 7 _).new hRw 8 _).new hRw 9 _).new hRw 10 _).new hRw 11 _).new hRw 12 _).new hRw 13 _).new hRw 14 _).new hRw 15 _)
      clear hW
      have y0 : Wf.cell? ⟨R, 0, none⟩ = some (.int .u8 (byteOf h 0)) := HF.out.cell 0
      have y1 : Wf.cell? ⟨R, 1, none⟩ = some (.int .u8 (byteOf h 1)) := HF.out.cell 1
      have y2 : Wf.cell? ⟨R, 2, none⟩ = some (.int .u8 (byteOf h 2)) := HF.out.cell 2
      have y3 : Wf.cell? ⟨R, 3, none⟩ = some (.int .u8 (byteOf h 3)) := HF.out.cell 3
      have y4 : Wf.cell? ⟨R, 4, none⟩ = some (.int .u8 (byteOf h 4)) := HF.out.cell 4
      have y5 : Wf.cell? ⟨R, 5, none⟩ = some (.int .u8 (byteOf h 5)) := HF.out.cell 5
      have y6 : Wf.cell? ⟨R, 6, none⟩ = some (.int .u8 (byteOf h 6)) := HF.out.cell 6
      have y7 : Wf.cell? ⟨R, 7, none⟩ = some (.int .u8 (byteOf h 7)) := HF.out.cell 7
      have y8 : Wf.cell? ⟨R, 8, none⟩ = some (.int .u8 (byteOf g 0)) := HF.out.cell 8
      have y9 : Wf.cell? ⟨R, 9, none⟩ = some (.int .u8 (byteOf g 1)) := HF.out.cell 9
      have y10 : Wf.cell? ⟨R, 10, none⟩ = some (.int .u8 (byteOf g 2)) := HF.out.cell 10
      have y11 : Wf.cell? ⟨R, 11, none⟩ = some (.int .u8 (byteOf g 3)) := HF.out.cell 11
      have y12 : Wf.cell? ⟨R, 12, none⟩ = some (.int .u8 (byteOf g 4)) := HF.out.cell 12
      have y13 : Wf.cell? ⟨R, 13, none⟩ = some (.int .u8 (byteOf g 5)) := HF.out.cell 13
      have y14 : Wf.cell? ⟨R, 14, none⟩ = some (.int .u8 (byteOf g 6)) := HF.out.cell 14
      have y15 : Wf.cell? ⟨R, 15, none⟩ = some (.int .u8 (byteOf g 7)) := HF.out.cell 15
      refine bodyPost_ret (v := markVal h g) (by simp [results, Tryz.results55, go_sem, y0, y1, y2, y3, y4, y5, y6, y7, y8, y9, y10, y11, y12, y13, y14, y15]; rfl) rfl ⟨?_, HKF.out⟩
      rw [HH.out]
end
end

end Go.Proofs.YtogoophofgkboaaGreatDoor
