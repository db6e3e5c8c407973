/-
  Of the texts VeG, VeH what is used. No condition but what each says.
-/
import Derived.Test.YtogoophofgkboaaGreatDoorRm
import Derived.Test.YtogoophofgkboaaGreatDoorRf
import Derived.Test.YtogoophofgkboaaGreatDoorProg
import Derived.Deep.DeepCutAuto
import Derived.Deep.RegionHeld3
import Derived.Laws.IdiomStrings
namespace Go.Proofs.YtogoophofgkboaaGreatDoor
section
open Go.RowKit
set_option maxRecDepth 100000 in
set_option maxHeartbeats 4000000 in
theorem dget_on (B : Nat) (zs : List Int) (e : Int) (w : World) {S : Nat → Prop} (hS : ∀ i, i = B ∨ w.heap.size ≤ i → S i) (h : EyeOn S w B zs e) :
    Calls Tryz.prog 65 #[.pointer (some ⟨B, 0, none⟩)] w fun r w' => ∃ v', r = .returned v' ∧ ClSl w' v' (getC zs e).1 ∧ OwnV w v' w' ∧ EyeOn S w' B (getC zs e).2.1 (getC zs e).2.2 ∧ Kp (Jb B) w w' := by
  have HSB : Hid (∀ i, Jb B i → S i) := hid (fun i h => hS i (.inl h))
  have HSN : Hid (∀ i, w.heap.size ≤ i → S i) := hid (fun i h => hS i (.inr h))
  have HB := hid h.lt
  have CN := hid (number_on B zs e 1024 w HSB.out h)
  have hrn := readN_topD zs e 1024 (eyeOn_bytes h) (by decide)
  obtain ⟨⟨n0, z0, e0⟩, hr⟩ : ∃ r, readN zs e 1024 = r := ⟨_, rfl⟩
  rw [hr] at CN hrn
  dsimp only at CN hrn
  obtain ⟨n, rfl⟩ : ∃ n : Nat, n0 = (n : Int) := ⟨n0.toNat, by omega⟩
  obtain ⟨R, hR⟩ : ∃ R, getLC n z0 e0 [] = R := ⟨_, rfl⟩
  have HGM : Hid (getC zs e = finC R) := hid (by unfold getC; rw [hr]; dsimp only; rw [Int.toNat_natCast, hR])
  have HN : Hid (n ≤ 1024) := hid (by omega)
  have HR0 := hid hR
  obtain ⟨G, hG⟩ : ∃ G, getC zs e = G := ⟨_, rfl⟩
  rw [hG] at HGM ⊢
  have hwi : IntKind.i64.wrap (n : Int) = (n : Int) := IntWalk.i64_in _ (by omega)
  clear h hr hrn hR hG hS
  go_enter Tryz.func65, Tryz.ntmps65
  go_wp2_with (go_at_call 64; refine CN.out.mono ?_; rintro r w1 ⟨rfl, h1, k1⟩; have HE1 := hid h1; have K1 := hid k1; clear h1 k1)
  have T0 : Hid (w1.ownsRow w.heap.size 38 3 (.slice none 0 0) ([] : List RunQ).length (flatR runL [])) := hid (World.ownsRow_nil _ _ _ _)
  have T1 : Hid (∀ q ∈ ([] : List RunQ), RunOk q) := hid (fun q hq => by cases hq)
  have T2 : Hid (getLC (n - 0) z0 e0 [] = R) := HR0
  go_loopw [10, 3] (fun a u wr => GtR w S B n R a u wr) (fun a _ _ => n - (intOf a).toNat)
  case atStart => exact ⟨0, [], z0, e0, Nat.zero_le _, rfl, HE1, T0, T1, T2, hid (Nat.le_refl _), K1⟩
  case round =>
    clear T0 T1 T2 HE1 K1 HR0
    obtain ⟨k, out, z, e, hk, rfl, HE, HO, HOK, HG, HLN, HK⟩ := hrel
    by_cases hlt : k < n
    · have HLT := hid hlt
      have hzb := eyeOn_bytes HE.out
      have ba := readN_topD z e 7 hzb (by decide)
      have za := readN_okD z e 7 hzb
      have hga : rdA z e = readN z e 7 := rfl
      have hgb : rdB z e = readN (rdA z e).2.1 (rdA z e).2.2 1099511627776 := rfl
      have hgc : rdC z e = readN (rdB z e).2.1 (rdB z e).2.2 1099511627776 := rfl
      have HGS : Hid (R = if (rdC z e).2.2 ≠ 0 then (none, (rdC z e).2.1, (rdC z e).2.2) else getLC (n - (k + 1)) (rdC z e).2.1 (rdC z e).2.2 (out ++ [((rdA z e).1, (rdB z e).1, (rdB z e).1 + (rdC z e).1)])) := hid (by
        rw [← HG.out, show n - k = (n - (k + 1)) + 1 from by omega, getLC])
      obtain ⟨⟨a, z1, e1⟩, ha⟩ : ∃ r, readN z e 7 = r := ⟨_, rfl⟩
      rw [ha] at hga ba za
      rw [hga] at hgb HGS
      dsimp only at hgb ba za HGS
      have bb := readN_topD z1 e1 1099511627776 za (by decide)
      have zb := readN_okD z1 e1 1099511627776 za
      obtain ⟨⟨b, z2, e2⟩, hb⟩ : ∃ r, readN z1 e1 1099511627776 = r := ⟨_, rfl⟩
      rw [hb] at hgb bb zb
      rw [hgb] at hgc HGS
      dsimp only at hgc bb zb HGS
      have bc := readN_topD z2 e2 1099511627776 zb (by decide)
      obtain ⟨⟨m, z3, e3⟩, hc⟩ : ∃ r, readN z2 e2 1099511627776 = r := ⟨_, rfl⟩
      rw [hc] at hgc bc
      rw [hgc] at HGS
      dsimp only at bc HGS
      have CA : Hid (∀ w, EyeOn S w B z e → Calls Tryz.prog 64 #[.pointer (some ⟨B, 0, none⟩), .int .u64 7] w fun r w' => r = .returned (.int .u64 a) ∧ EyeOn S w' B z1 e1 ∧ Kp (Jb B) w w') := hid (fun w h => by have := number_on B z e 7 w HSB.out h; rwa [ha] at this)
      have CB : Hid (∀ w, EyeOn S w B z1 e1 → Calls Tryz.prog 64 #[.pointer (some ⟨B, 0, none⟩), .int .u64 1099511627776] w fun r w' => r = .returned (.int .u64 b) ∧ EyeOn S w' B z2 e2 ∧ Kp (Jb B) w w') := hid (fun w h => by have := number_on B z1 e1 1099511627776 w HSB.out h; rwa [hb] at this)
      have CC : Hid (∀ w, EyeOn S w B z2 e2 → Calls Tryz.prog 64 #[.pointer (some ⟨B, 0, none⟩), .int .u64 1099511627776] w fun r w' => r = .returned (.int .u64 m) ∧ EyeOn S w' B z3 e3 ∧ Kp (Jb B) w w') := hid (fun w h => by have := number_on B z2 e2 1099511627776 w HSB.out h; rwa [hc] at this)
      have HBD : Hid ((0 ≤ a ∧ a ≤ 7) ∧ (0 ≤ b ∧ b ≤ 1099511627776) ∧ 0 ≤ m ∧ m ≤ 1099511627776) := hid ⟨ba, bb, bc⟩
      have hw1 : IntKind.i64.wrap a = a := IntWalk.i64_in _ (by omega)
      have hw2 : IntKind.i64.wrap b = b := IntWalk.i64_in _ (by omega)
      have hw3 : IntKind.i64.wrap m = m := IntWalk.i64_in _ (by omega)
      have hw4 : IntKind.i64.wrap (b + m) = b + m := IntWalk.i64_in _ (by omega)
      clear hzb ba za hga hgb hgc bb zb bc ha hb hc HG
      obtain ⟨a0, c0, rfl⟩ := own_shape HO.out
      go_wp2_with fail
      refine (CA.out wr HE.out).mono ?_
      rintro r w2 ⟨rfl, h2, k2⟩
      have HE2 := hid h2
      have HK2 := hid (HK.out.trans k2 (fun _ _ h => h))
      have HO2 := hid (ownsRow_kpJ HO.out k2 HB.out)
      clear h2 k2
      go_wp2_with fail
      refine (CB.out w2 HE2.out).mono ?_
      rintro r w3 ⟨rfl, h3, k3⟩
      have HE3 := hid h3
      have HK3 := hid (HK2.out.trans k3 (fun _ _ h => h))
      have HO3 := hid (ownsRow_kpJ HO2.out k3 HB.out)
      clear h3 k3
      go_wp2_with fail
      refine (CC.out w3 HE3.out).mono ?_
      rintro r w4 ⟨rfl, h4, k4⟩
      have HE4 := hid h4
      have HK4 := hid (HK3.out.trans k4 (fun _ _ h => h))
      have HO4 := hid (ownsRow_kpJ HO3.out k4 HB.out)
      clear h4 k4
      have CE := hid (err_on B z3 e3 w4 HSB.out HE4.out)
      by_cases he : e3 = 0
      · subst he
        have HGS2 : Hid (R = getLC (n - (k + 1)) z3 0 (out ++ [(a, b, b + m)])) := hid (by rw [HGS.out]; rfl)
        have MK := hid (make_run1 w4 a b (b + m))
        obtain ⟨i0, zz, hi, hz0, hz1, hz2, hz3⟩ := run_info3
        have B2 : Hid (out.length + [(a, b, b + m)].length ≤ maxLen ∧ (out.length + [(a, b, b + m)].length) * 24 ≤ 140737488355328 ∧ w.heap.size ≤ (w4.alloc (.cells #[.int .i64 a, .int .i64 b, .int .i64 (b + m)] 38 (0, 0))).heap.size) := hid (by
          have h1 := HK4.out.size
          have h2 := ((Kp.refl Nb w4).alloc (.cells #[.int .i64 a, .int .i64 b, .int .i64 (b + m)] 38 (0, 0))).size
          refine ⟨?_, ?_, Nat.le_trans h1 h2⟩ <;> rw [List.length_singleton]
          · unfold maxLen; have := HLN.out; have := HN.out; omega
          · have := HLN.out; have := HN.out; omega)
        clear HGS
        go_wp2_with (first
          | (go_at_call 31; refine CE.out.mono ?_; rintro r w5 ⟨rfl, rfl⟩)
          | (refine wpList_val (by rfl) _ _ (exec_buildSliceD rfl (qs := #[(0, .agg #[.int .i64 a, .int .i64 b, .int .i64 (b + m)])]) (by simp [Act.eval, Act.put]) MK.out) ?_)
          | (at_builtin; refine wpList_append_rows (f := runL) (z := (0, 0, 0)) (c := 3) rfl _ _ 25 rfl w.heap.size 38 i0 zz 24 under_clock hi hz0 hz1 hz2 hz3 (by decide) _ _ _ rfl (ownsRow_kpD HO4.out ((Kp.refl Nb _).alloc _)) _ [(a, b, b + m)] rfl (rows_oneR (Blk.new _ _ _)) (fun x hx => rfl) (fun x _ => run_one' x) B2.out.1 B2.out.2.1 B2.out.2.2 ?_))
        intro v10 w10 hown hgrow
        have HK10 : Hid (Kp (Jb B) w w10) := hid ((HK4.out.trans ((Kp.refl Nb w4).alloc (.cells #[.int .i64 a, .int .i64 b, .int .i64 (b + m)] 38 (0, 0))) (fun _ _ h => h.elim)).grown hgrow (fun g hg h => by have := (row_cells HO4.out hg).1; omega))
        have HE10 : Hid (EyeOn S w10 B z3 0) := hid (by
          have hkn : Kp (fun i => w.heap.size ≤ i) w4 w10 := ((Kp.refl (fun i => w.heap.size ≤ i) w4).alloc (.cells #[.int .i64 a, .int .i64 b, .int .i64 (b + m)] 38 (0, 0))).grown hgrow (fun g hg h => (row_cells HO4.out hg).1)
          exact HE4.out.kept hkn (fun h => by have := HB.out; omega) (fun i h => HSN.out i h))
        have HO10 : Hid (w10.ownsRow w.heap.size 38 3 v10 (out ++ [(a, b, b + m)]).length (flatR runL (out ++ [(a, b, b + m)]))) := hid (by rw [List.length_append, flatR_append]; exact hown)
        have hy := own_shape hown
        obtain ⟨a10, c10, rfl⟩ := hy
        have RE : Hid (GtR w S B n R (.int .i64 ((k : Int) + 1)) (.slice a10 (out.length + [(a, b, b + m)].length) c10) w10) := hid ⟨k + 1, out ++ [(a, b, b + m)], z3, 0, HLT.out, by go_num, HE10, HO10, hid (fun x hx => by
          rcases List.mem_append.1 hx with hx | hx
          · exact HOK.out x hx
          · rw [List.mem_singleton.1 hx]; have := HBD.out; unfold RunOk I64; dsimp only; omega), hid HGS2.out.symm, hid (by rw [List.length_append, List.length_singleton]; have := HLN.out; omega), HK10⟩
        clear hown hgrow HK10 HE10 HO10
        have hn4 := HN.out
        clear hw1 hw2 hw3 hw4
        go_wp2
        go_roundw
        case rel => exact RE.out
        case measure => have := HLT.out; simp [intOf]; omega
      · have HGE : Hid (G = ([], z3, e3)) := hid (by rw [HGM.out, HGS.out, if_pos he]; rfl)
        clear HGS
        go_wp2_with (go_at_call 31; refine CE.out.mono ?_; rintro r w5 ⟨rfl, rfl⟩)
        go_ret
        rw [HGE.out]
        exact ⟨_, rfl, cl_nil _, own_nil _ _, HE4.out, HK4.out⟩
    · obtain rfl : k = n := by omega
      have HRS : Hid (R = (some out, z, e)) := hid (by have := HG.out; rw [Nat.sub_self] at this; exact this.symm)
      have HM : Hid (ClSl wr u3 out) := hid (cl_owned HO.out HOK.out)
      have CR := hid (dright_any _ out wr HM.out (by have := HLN.out; have := HN.out; omega))
      obtain ⟨a0, c0, rfl⟩ := own_shape HO.out
      obtain ⟨b, hb⟩ : ∃ b, rightC out = b := ⟨_, rfl⟩
      rw [hb] at CR
      have HBB := hid hb
      clear HG hb
      cases b with
      | true =>
        have HGE : Hid (G = (out, z, e)) := hid (by rw [HGM.out, HRS.out]; show (if rightC out = true then _ else _) = _; rw [HBB.out]; rfl)
        go_wp2_with (go_at_call 45; refine CR.out.mono ?_; rintro r w5 ⟨rfl, k5⟩; have K5 := hid k5; clear k5)
        go_ret
        rw [HGE.out]
        refine ⟨_, rfl, HM.out.kept K5.out, ?_, HE.out.kept K5.out (fun h => h) (fun _ h => h.elim), HK.out.trans K5.out (fun _ _ h => h.elim)⟩
        intro g hg
        obtain ⟨h1, o, ho, -⟩ := row_cells HO.out hg
        exact ⟨h1, Nat.lt_of_lt_of_le (Array.getElem?_eq_some_iff.1 ho).1 K5.out.size⟩
      | false =>
        have HGE : Hid (G = ([], failS z e 11, failE e 11)) := hid (by rw [HGM.out, HRS.out]; show (if rightC out = true then _ else _) = _; rw [HBB.out]; rfl)
        have CF := fun wx (hx : EyeOn S wx B z e) => fail_on B z e 11 wx HSB.out hx
        have CF := hid CF
        go_wp2_with (first
          | (go_at_call 45; refine CR.out.mono ?_; rintro r w5 ⟨rfl, k5⟩; have HE5 := hid (HE.out.kept k5 (fun h => h) (fun _ h => h.elim)); have K5 := hid (HK.out.trans k5 (fun _ _ h => h.elim)); clear k5)
          | (go_at_call 66; refine (CF.out _ HE5.out).mono ?_; rintro r w6 ⟨rfl, he6, k6⟩; have HE6 := hid he6; have K6 := hid (K5.out.trans k6 (fun _ _ h => h)); clear he6 k6))
        go_ret
        rw [HGE.out]
        exact ⟨_, rfl, cl_nil _, own_nil _ _, HE6.out, K6.out⟩
theorem by_apart {S : Nat → Prop} {w w' : World} {v : Value} {zs : List Int} (h : BySl Nb w v zs) (k : Kp S w w') (hS : ∀ g, v.ownBlock = some g → ¬ S g) : BySl Nb w' v zs := by
  obtain ⟨hz, hv⟩ := h
  refine ⟨hz, ?_⟩
  rcases hv with hv | ⟨blk, off, cap, rfl, hc, hm, hcell, hn⟩
  · exact .inl hv
  · exact .inr ⟨blk, off, cap, rfl, hc, hm, fun i hi => k.cell (hcell i hi) (hS blk rfl), fun _ h => h⟩
theorem results_cellI {P : Program} {w : World} {fn : Func} {s : Tmp} {T : TypeId} (h : fn.results = #[.cell s T]) (tmps : Array Value) (B : Nat) (ht : tmps.getD s undef = .pointer (some ⟨B, 0, none⟩)) (v : Value) (hl : (loadVar T ⟨B, 0, none⟩).run P w = .ok v w) :
    (results fn tmps).run P w = .ok v w := by
  simp only [Array.getD_eq_getD_getElem?] at ht
  simp [results, h, ht, hl, asAddr]
theorem fixN_okI (zs : List Int) (e n : Int) (h : IsBytes zs) : IsBytes (fixN zs e n).1 ∧ (fixN zs e n).2.1.length ≤ zs.length := by
  have hn : IsBytes [] := fun i => by simp
  unfold fixN
  split
  · exact ⟨hn, Nat.le_refl _⟩
  · split
    · exact ⟨hn, Nat.zero_le _⟩
    · split
      · exact ⟨hn, Nat.zero_le _⟩
      · exact ⟨h.take _, by rw [List.length_drop]; omega⟩
theorem readN_leftI (zs : List Int) (e most : Int) : (readN zs e most).2.1.length ≤ zs.length := readN_left zs e most
theorem text_okI (zs : List Int) (e most : Int) (h : IsBytes zs) : IsBytes (textN zs e most).1 := by
  have hn : IsBytes [] := fun i => by simp
  unfold textN
  split
  · exact hn
  · split
    · exact hn
    · exact (fixN_okI _ _ _ (readN_okD zs e _ h)).1
theorem fixN_left (zs : List Int) (e n : Int) : (fixN zs e n).2.1.length ≤ zs.length := by
  unfold fixN
  split
  · exact Nat.le_refl _
  · split
    · exact Nat.zero_le _
    · split
      · exact Nat.zero_le _
      · rw [List.length_drop]; omega
theorem text_leftI (zs : List Int) (e most : Int) : (textN zs e most).2.1.length ≤ zs.length := by
  unfold textN
  split
  · exact readN_leftI _ _ _
  · split
    · exact Nat.zero_le _
    · exact Nat.le_trans (fixN_left _ _ _) (readN_leftI _ _ _)
theorem failS_left (zs : List Int) (e f : Int) : (failS zs e f).length ≤ zs.length := by unfold failS; split <;> simp
theorem getLC_leftI : ∀ (k : Nat) (z : List Int) (e : Int) (acc : List RunQ), (getLC k z e acc).2.1.length ≤ z.length
  | 0, z, e, acc => Nat.le_refl _
  | k + 1, z, e, acc => by
    have h3 : (rdC z e).2.1.length ≤ z.length := by
      unfold rdC rdB rdA
      exact Nat.le_trans (readN_leftI _ _ _) (Nat.le_trans (readN_leftI _ _ _) (readN_leftI _ _ _))
    unfold getLC
    split
    · exact h3
    · exact Nat.le_trans (getLC_leftI k _ _ _) h3
theorem getC_leftI (zs : List Int) (e : Int) : (getC zs e).2.1.length ≤ zs.length := by
  unfold getC
  obtain ⟨⟨o, z, e'⟩, h⟩ : ∃ r, getLC (readN zs e 1024).1.toNat (readN zs e 1024).2.1 (readN zs e 1024).2.2 [] = r := ⟨_, rfl⟩
  have h2 := getLC_leftI (readN zs e 1024).1.toNat (readN zs e 1024).2.1 (readN zs e 1024).2.2 []
  rw [h] at h2 ⊢
  have h3 := readN_leftI zs e 1024
  cases o with
  | none => exact Nat.le_trans h2 h3
  | some l =>
    show (if rightC l then (l, z, e') else ([], failS z e' 11, failE e' 11)).2.1.length ≤ _
    split
    · exact Nat.le_trans h2 h3
    · exact Nat.le_trans (failS_left _ _ _) (Nat.le_trans h2 h3)
def itZ : ItQ := ⟨[], 0, 0, [], false, []⟩
def gK (zs : List Int) (e : Int) : List Int × List Int × Int := textN zs e 24
def gA (zs : List Int) (e : Int) : Int × List Int × Int := readN (gK zs e).2.1 (gK zs e).2.2 7
def gB (zs : List Int) (e : Int) : Int × List Int × Int := readN (gA zs e).2.1 (gA zs e).2.2 1099511627776
def gP (zs : List Int) (e : Int) : List RunQ × List Int × Int := getC (gB zs e).2.1 (gB zs e).2.2
def gG (zs : List Int) (e : Int) : Int × List Int × Int := readN (gP zs e).2.1 (gP zs e).2.2 1
def gV1 (zs : List Int) (e : Int) : List Int × List Int × Int := if (gG zs e).1 = 1 then ([], (gG zs e).2.1, (gG zs e).2.2) else textN (gG zs e).2.1 (gG zs e).2.2 64
def gX (zs : List Int) (e : Int) : ItQ := ⟨(gK zs e).1, (gA zs e).1, (gB zs e).1, (gP zs e).1, decide ((gG zs e).1 = 1), (gV1 zs e).1⟩
/-- An item read: what came, what is left, the error. -/
def getI (zs : List Int) (e : Int) : ItQ × List Int × Int :=
  if rightI (gX zs e) then (if (gV1 zs e).2.2 ≠ 0 then (itZ, (gV1 zs e).2.1, (gV1 zs e).2.2) else (gX zs e, (gV1 zs e).2.1, (gV1 zs e).2.2))
  else (itZ, failS (gV1 zs e).2.1 (gV1 zs e).2.2 11, failE (gV1 zs e).2.2 11)
theorem fail11 (e : Int) : failE e 11 ≠ 0 := by unfold failE; split <;> first | decide | (rename_i h; simp at h; omega) | (rename_i h; intro h2; exact h ⟨h2, by decide⟩) | simp_all
theorem itz_ok (w : World) : ItOk w itZ (.slice none 0 0) (.slice none 0 0) := ⟨fun i => by simp [itZ], by unfold I64 itZ; decide, by unfold I64 itZ; decide, cl_nil w, ⟨fun i => by simp [itZ], .inl ⟨⟨_, _, rfl⟩, rfl⟩⟩⟩
theorem item_one (ks : ByteArray) (dn dd : Int) (y : Option Addr) (n c : Nat) (g : Bool) (y' : Option Addr) (n' c' : Nat) : (itL ks dn dd (.slice y n c) g (.slice y' n' c')).toArray.all (·.oneCell') = true := by simp [Value.oneCell']
theorem item_infoL (ks : ByteArray) (dn dd : Int) (vp : Value) (g : Bool) (vv : Value) : (Tryz.prog.info? 28).map (·.size) = some (itL ks dn dd vp g vv).length := item_info
theorem item_infoA (ks : ByteArray) (dn dd : Int) (vp : Value) (g : Bool) (vv : Value) : (Tryz.prog.info? 28).map (·.size) = some (itL ks dn dd vp g vv).toArray.size := item_info
theorem item_there {w : World} {B t : Nat} {vs : List Value} {ks : ByteArray} {dn dd : Int} {vp vv : Value} {g : Bool} (h : Blk w B t vs) (hl : vs.length = 6) : w.there B 0 (itL ks dn dd vp g vv).toArray.size := h.there 0 6 (by omega)
set_option maxRecDepth 100000 in
set_option maxHeartbeats 16000000 in
theorem iget_any (B : Nat) (zs : List Int) (e : Int) (w : World) {S : Nat → Prop} (hS : ∀ i, i = B ∨ w.heap.size ≤ i → S i) (h : EyeOn S w B zs e) (hbig : zs.length ≤ 1000000) :
    Calls Tryz.prog 25 #[.pointer (some ⟨B, 0, none⟩)] w fun r w' => ∃ vp vv, r = .returned (itVq (getI zs e).1 vp vv) ∧ ItOk w' (getI zs e).1 vp vv ∧ OwnV w vp w' ∧ OwnV w vv w' ∧ EyeOn S w' B (getI zs e).2.1 (getI zs e).2.2 ∧ Kp (Jb B) w w' := by
  have HSB : Hid (∀ i, Jb B i → S i) := hid (fun i h => hS i (.inl h))
  have HSN : Hid (∀ i, w.heap.size ≤ i → S i) := hid (fun i h => hS i (.inr h))
  have HBL := hid h.lt
  have HGI : Hid (getI zs e = if rightI (gX zs e) then (if (gV1 zs e).2.2 ≠ 0 then (itZ, (gV1 zs e).2.1, (gV1 zs e).2.2) else (gX zs e, (gV1 zs e).2.1, (gV1 zs e).2.2)) else (itZ, failS (gV1 zs e).2.1 (gV1 zs e).2.2 11, failE (gV1 zs e).2.2 11)) := hid rfl
  obtain ⟨GI, hGI⟩ : ∃ x, getI zs e = x := ⟨_, rfl⟩
  rw [hGI] at HGI ⊢
  have HGX : Hid (gX zs e = ⟨(gK zs e).1, (gA zs e).1, (gB zs e).1, (gP zs e).1, decide ((gG zs e).1 = 1), (gV1 zs e).1⟩) := hid rfl
  have HV1 : Hid (gV1 zs e = if (gG zs e).1 = 1 then ([], (gG zs e).2.1, (gG zs e).2.2) else textN (gG zs e).2.1 (gG zs e).2.2 64) := hid rfl
  obtain ⟨N, hN⟩ : ∃ N, w.heap.size = N := ⟨_, rfl⟩
  obtain ⟨W, hW⟩ : ∃ W, W = (w.alloc (.cells #[.string ⟨#[]⟩, .int .i64 0, .int .i64 0, .slice none 0 0, .bool false, .slice none 0 0] 28)).alloc (.cells #[.string ⟨#[]⟩, .int .i64 0, .int .i64 0, .slice none 0 0, .bool false, .slice none 0 0] 28) := ⟨_, rfl⟩
  have BN0 : Hid (Blk W N 28 (itL ⟨#[]⟩ 0 0 (.slice none 0 0) false (.slice none 0 0))) := hid (by rw [hW, ← hN]; exact (Blk.new w _ (itL ⟨#[]⟩ 0 0 (.slice none 0 0) false (.slice none 0 0))).alloc _)
  have BX0 : Hid (Blk W (N + 1) 28 (itL ⟨#[]⟩ 0 0 (.slice none 0 0) false (.slice none 0 0))) := hid (by
    have h := Blk.new (w.alloc (.cells #[.string ⟨#[]⟩, .int .i64 0, .int .i64 0, .slice none 0 0, .bool false, .slice none 0 0] 28)) 28 (itL ⟨#[]⟩ 0 0 (.slice none 0 0) false (.slice none 0 0))
    simp only [World.size_alloc] at h
    rw [hW, ← hN]
    exact h)
  have k0 : Kp Nb w W := by rw [hW]; exact ((Kp.refl Nb w).alloc _).alloc _
  have K0 : Hid (Kp (Jb B) w W) := hid (k0.mono (fun _ _ h => h.elim))
  have E0 : Hid (EyeOn S W B zs e) := hid (h.kept k0 (fun h => h) (fun _ h => h.elim))
  have HSZ : Hid (w.heap.size = N ∧ N + 1 < W.heap.size ∧ B < N) := hid ⟨hN, BX0.out.lt, by have := HBL.out; omega⟩
  have HZ : Hid (IsBytes zs) := hid (eyeOn_bytes E0.out)
  have HBG := hid hbig
  clear h hS hbig hGI k0
  go_enter Tryz.func25, Tryz.ntmps25
  go_upto_region 2 with fail
  try rw [hN]
  try simp only [World.size_alloc, hN]
  rw [← hW]
  clear hW hN
  go_wp2_with fail
  refine (textw_on B zs e 24 W HSB.out E0.out (by have := HBG.out; omega) (by decide) (by decide)).mono ?_
  rintro r w1 ⟨⟨vk, rfl, ok⟩, he, ka⟩
  have HKB := hid (show IsBytes (textN zs e 24).1 from text_okI zs e 24 HZ.out)
  have cv := conv_any (BySl.ofOwn (S := Nb) ok HKB.out (fun _ _ _ h => h))
  obtain ⟨ak, ck0, rfl⟩ := own_shape ok
  obtain ⟨zK, hzK⟩ : ∃ x, textN zs e 24 = x := ⟨_, rfl⟩
  have HK1 : Hid (gK zs e = zK) := hid hzK
  rw [hzK] at he cv HKB ⊢
  have HLK : Hid (zK.2.1.length ≤ 1000000) := hid (by rw [← hzK]; exact Nat.le_trans (text_leftI zs e 24) HBG.out)
  obtain ⟨kk, zk, ek⟩ := zK
  dsimp only at he cv HKB HLK ⊢
  obtain ⟨sk, hsk⟩ : ∃ s, st kk = s := ⟨_, rfl⟩
  have HSK := hid hsk
  rw [hsk] at cv
  clear hsk hzK ok
  have E1 := hid he
  have BX1 := hid (BX0.out.kept ka (fun h => by have h' : N + 1 = B := h; have := HSZ.out; omega))
  have BN1 := hid (BN0.out.kept ka (fun h => by have h' : N = B := h; have := HSZ.out; omega))
  have K1 := hid (K0.out.trans ka (fun _ _ h => h))
  have fz := BX1.out.frozen 0
  have ck : w1.cell? ⟨N + 1, 0, none⟩ = some (.string ⟨#[]⟩) := BX1.out.cell 0
  obtain ⟨V1, hV1⟩ : ∃ W, W = w1.setCell ⟨N + 1, 0, none⟩ (.string sk) := ⟨_, rfl⟩
  have ks : Kp (Jb (N + 1)) w1 V1 := by rw [hV1]; exact (Kp.refl (Jb (N + 1)) w1).set 0 _
  have BX1s : Hid (Blk V1 (N + 1) 28 [.string sk, .int .i64 0, .int .i64 0, .slice none 0 0, .bool false, .slice none 0 0]) := hid (by rw [hV1]; exact BX1.out.set 0 _)
  have BN1s := hid (BN1.out.kept ks (fun h => by have h' : N = N + 1 := h; omega))
  have E1s := hid (E1.out.kept ks (fun h => by have h' : B = N + 1 := h; have := HSZ.out; omega) (fun i hi => by have h' : i = N + 1 := hi; exact HSN.out i (by have := HSZ.out; omega)))
  have K1s : Hid (Kp (Jb B) w V1) := hid (K1.out.trans ks (fun i hi h => by have h' : i = N + 1 := h; have := HSZ.out; omega))
  clear he ka
  go_upto_region 3 with fail
  rw [← hV1]
  clear hV1 fz ck ks
  clear cv
  go_wp2_with fail
  refine (number_on B zk ek 7 V1 HSB.out E1s.out).mono ?_
  rintro r w2 ⟨rfl, he, ka⟩
  have HT1 := hid (readN_topD zk ek 7 (eyeOn_bytes E1s.out) (by decide))
  have HL1 := hid (readN_leftI zk ek 7)
  obtain ⟨⟨aN, za, ea⟩, hz⟩ : ∃ x, readN zk ek 7 = x := ⟨_, rfl⟩
  have HgA : Hid (gA zs e = (aN, za, ea)) := hid (by unfold gA; rw [HK1.out]; exact hz)
  rw [hz] at he HT1 HL1 ⊢
  dsimp only at he HT1 HL1 ⊢
  clear hz
  have E2 := hid he
  have BX2 := hid (BX1s.out.kept ka (fun h => by have h' : N + 1 = B := h; have := HSZ.out; omega))
  have BN2 := hid (BN1s.out.kept ka (fun h => by have h' : N = B := h; have := HSZ.out; omega))
  have K2 := hid (K1s.out.trans ka (fun _ _ h => h))
  have hw : IntKind.i64.wrap aN = aN := IntWalk.i64_in _ (by have := HT1.out; omega)
  have hw2 : wrap64 aN = aN := by unfold wrap64; have := HT1.out; omega
  have fz := BX2.out.frozen 1
  have ck : w2.cell? ⟨N + 1, 1, none⟩ = some (.int .i64 0) := BX2.out.cell 1
  obtain ⟨V2, hV2⟩ : ∃ W, W = w2.setCell ⟨N + 1, 1, none⟩ (.int .i64 aN) := ⟨_, rfl⟩
  have ks : Kp (Jb (N + 1)) w2 V2 := by rw [hV2]; exact (Kp.refl (Jb (N + 1)) w2).set 1 _
  have BX2s : Hid (Blk V2 (N + 1) 28 [.string sk, .int .i64 aN, .int .i64 0, .slice none 0 0, .bool false, .slice none 0 0]) := hid (by rw [hV2]; exact BX2.out.set 1 _)
  have BN2s := hid (BN2.out.kept ks (fun h => by have h' : N = N + 1 := h; omega))
  have E2s := hid (E2.out.kept ks (fun h => by have h' : B = N + 1 := h; have := HSZ.out; omega) (fun i hi => by have h' : i = N + 1 := hi; exact HSN.out i (by have := HSZ.out; omega)))
  have K2s : Hid (Kp (Jb B) w V2) := hid (K2.out.trans ks (fun i hi h => by have h' : i = N + 1 := h; have := HSZ.out; omega))
  clear he ka
  go_upto_region 4 with fail
  rw [← hV2]
  clear hV2 fz ck ks
  clear hw hw2
  go_wp2_with fail
  refine (number_on B za ea 1099511627776 V2 HSB.out E2s.out).mono ?_
  rintro r w3 ⟨rfl, he, ka⟩
  have HT2 := hid (readN_topD za ea 1099511627776 (eyeOn_bytes E2s.out) (by decide))
  have HL2 := hid (readN_leftI za ea 1099511627776)
  obtain ⟨⟨bN, zb, eb⟩, hz⟩ : ∃ x, readN za ea 1099511627776 = x := ⟨_, rfl⟩
  have HgB : Hid (gB zs e = (bN, zb, eb)) := hid (by unfold gB; rw [HgA.out]; exact hz)
  rw [hz] at he HT2 HL2 ⊢
  dsimp only at he HT2 HL2 ⊢
  clear hz
  have E3 := hid he
  have BX3 := hid (BX2s.out.kept ka (fun h => by have h' : N + 1 = B := h; have := HSZ.out; omega))
  have BN3 := hid (BN2s.out.kept ka (fun h => by have h' : N = B := h; have := HSZ.out; omega))
  have K3 := hid (K2s.out.trans ka (fun _ _ h => h))
  have hw : IntKind.i64.wrap bN = bN := IntWalk.i64_in _ (by have := HT2.out; omega)
  have hw2 : wrap64 bN = bN := by unfold wrap64; have := HT2.out; omega
  have fz := BX3.out.frozen 2
  have ck : w3.cell? ⟨N + 1, 2, none⟩ = some (.int .i64 0) := BX3.out.cell 2
  obtain ⟨V3, hV3⟩ : ∃ W, W = w3.setCell ⟨N + 1, 2, none⟩ (.int .i64 bN) := ⟨_, rfl⟩
  have ks : Kp (Jb (N + 1)) w3 V3 := by rw [hV3]; exact (Kp.refl (Jb (N + 1)) w3).set 2 _
  have BX3s : Hid (Blk V3 (N + 1) 28 [.string sk, .int .i64 aN, .int .i64 bN, .slice none 0 0, .bool false, .slice none 0 0]) := hid (by rw [hV3]; exact BX3.out.set 2 _)
  have BN3s := hid (BN3.out.kept ks (fun h => by have h' : N = N + 1 := h; omega))
  have E3s := hid (E3.out.kept ks (fun h => by have h' : B = N + 1 := h; have := HSZ.out; omega) (fun i hi => by have h' : i = N + 1 := hi; exact HSN.out i (by have := HSZ.out; omega)))
  have K3s : Hid (Kp (Jb B) w V3) := hid (K3.out.trans ks (fun i hi h => by have h' : i = N + 1 := h; have := HSZ.out; omega))
  clear he ka
  go_upto_region 5 with fail
  rw [← hV3]
  clear hV3 fz ck ks
  clear hw hw2
  go_wp2_with fail
  refine (dget_on B zb eb V3 (fun i hi => hi.elim (fun h => HSB.out i h) (fun h => HSN.out i (by have := K3s.out.size; omega))) E3s.out).mono ?_
  rintro r w4 ⟨vp, rfl, hm, ho, he, ka⟩
  have HLP := hid (getC_leftI zb eb)
  obtain ⟨⟨pc, zp, ep⟩, hz⟩ : ∃ x, getC zb eb = x := ⟨_, rfl⟩
  have HgP : Hid (gP zs e = (pc, zp, ep)) := hid (by unfold gP; rw [HgB.out]; exact hz)
  rw [hz] at he hm HLP
  dsimp only at he hm HLP
  have HM1 := hid hm
  have HOV : Hid (OwnV w vp w4) := hid (fun g hg => ⟨by have := (ho g hg).1; have := K3s.out.size; omega, (ho g hg).2⟩)
  have HNX : Hid (∀ g, vp.ownBlock = some g → g ≠ N + 1 ∧ g ≠ N ∧ g ≠ B) := hid (fun g hg => by have := (ho g hg).1; have := BX3s.out.lt; have := HSZ.out; omega)
  obtain ⟨yp, dp, rfl⟩ := hm.shape
  clear hz hm ho
  have E4 := hid he
  have BX4 := hid (BX3s.out.kept ka (fun h => by have h' : N + 1 = B := h; have := HSZ.out; omega))
  have BN4 := hid (BN3s.out.kept ka (fun h => by have h' : N = B := h; have := HSZ.out; omega))
  have K4 := hid (K3s.out.trans ka (fun _ _ h => h))
  have fz := BX4.out.frozen 3
  have ck : w4.cell? ⟨N + 1, 3, none⟩ = some (.slice none 0 0) := BX4.out.cell 3
  obtain ⟨V4, hV4⟩ : ∃ W, W = w4.setCell ⟨N + 1, 3, none⟩ (.slice yp pc.length dp) := ⟨_, rfl⟩
  have ks : Kp (Jb (N + 1)) w4 V4 := by rw [hV4]; exact (Kp.refl (Jb (N + 1)) w4).set 3 _
  have BX4s : Hid (Blk V4 (N + 1) 28 [.string sk, .int .i64 aN, .int .i64 bN, .slice yp pc.length dp, .bool false, .slice none 0 0]) := hid (by rw [hV4]; exact BX4.out.set 3 _)
  have BN4s := hid (BN4.out.kept ks (fun h => by have h' : N = N + 1 := h; omega))
  have E4s := hid (E4.out.kept ks (fun h => by have h' : B = N + 1 := h; have := HSZ.out; omega) (fun i hi => by have h' : i = N + 1 := hi; exact HSN.out i (by have := HSZ.out; omega)))
  have K4s : Hid (Kp (Jb B) w V4) := hid (K4.out.trans ks (fun i hi h => by have h' : i = N + 1 := h; have := HSZ.out; omega))
  have HM2 := hid (HM1.out.keptV ks (fun g hg h => (HNX.out g hg).1 h))
  have HOV2 : Hid (OwnV w (.slice yp pc.length dp) V4) := hid (fun g hg => ⟨(HOV.out g hg).1, Nat.lt_of_lt_of_le (HOV.out g hg).2 ks.size⟩)
  clear he ka HM1 HOV
  go_upto_region 6 with fail
  rw [← hV4]
  clear hV4 fz ck ks
  go_wp2_with fail
  refine (number_on B zp ep 1 V4 HSB.out E4s.out).mono ?_
  rintro r w5 ⟨rfl, he, ka⟩
  have HT4 := hid (readN_topD zp ep 1 (eyeOn_bytes E4s.out) (by decide))
  have HL4 := hid (readN_leftI zp ep 1)
  obtain ⟨⟨gg, zg, eg⟩, hz⟩ : ∃ x, readN zp ep 1 = x := ⟨_, rfl⟩
  have HgG : Hid (gG zs e = (gg, zg, eg)) := hid (by unfold gG; rw [HgP.out]; exact hz)
  rw [hz] at he HT4 HL4 ⊢
  dsimp only at he HT4 HL4 ⊢
  clear hz
  have E5 := hid he
  have BX5 := hid (BX4s.out.kept ka (fun h => by have h' : N + 1 = B := h; have := HSZ.out; omega))
  have BN5 := hid (BN4s.out.kept ka (fun h => by have h' : N = B := h; have := HSZ.out; omega))
  have K5 := hid (K4s.out.trans ka (fun _ _ h => h))
  have HM3 := hid (HM2.out.keptV ka (fun g hg h => (HNX.out g hg).2.2 h))
  have HOV3 : Hid (OwnV w (.slice yp pc.length dp) w5) := hid (fun g hg => ⟨(HOV2.out g hg).1, Nat.lt_of_lt_of_le (HOV2.out g hg).2 ka.size⟩)
  obtain ⟨gn, hgn⟩ : ∃ b, decide (gg = 1) = b := ⟨_, rfl⟩
  have HGN := hid hgn
  have hge : (gg == 1) = gn := by rw [← hgn]; exact (Bool.beq_eq_decide_eq gg 1)
  clear hgn HM2 HOV2
  have fz := BX5.out.frozen 4
  have ck : w5.cell? ⟨N + 1, 4, none⟩ = some (.bool false) := BX5.out.cell 4
  obtain ⟨V5, hV5⟩ : ∃ W, W = w5.setCell ⟨N + 1, 4, none⟩ (.bool gn) := ⟨_, rfl⟩
  have ks : Kp (Jb (N + 1)) w5 V5 := by rw [hV5]; exact (Kp.refl (Jb (N + 1)) w5).set 4 _
  have BX5s : Hid (Blk V5 (N + 1) 28 [.string sk, .int .i64 aN, .int .i64 bN, .slice yp pc.length dp, .bool gn, .slice none 0 0]) := hid (by rw [hV5]; exact BX5.out.set 4 _)
  have BN5s := hid (BN5.out.kept ks (fun h => by have h' : N = N + 1 := h; omega))
  have E5s := hid (E5.out.kept ks (fun h => by have h' : B = N + 1 := h; have := HSZ.out; omega) (fun i hi => by have h' : i = N + 1 := hi; exact HSN.out i (by have := HSZ.out; omega)))
  have K5s : Hid (Kp (Jb B) w V5) := hid (K5.out.trans ks (fun i hi h => by have h' : i = N + 1 := h; have := HSZ.out; omega))
  have HM4 := hid (HM3.out.keptV ks (fun g hg h => (HNX.out g hg).1 h))
  have HOV4 : Hid (OwnV w (.slice yp pc.length dp) V5) := hid (fun g hg => ⟨(HOV3.out g hg).1, Nat.lt_of_lt_of_le (HOV3.out g hg).2 ks.size⟩)
  clear he ka HM3 HOV3
  go_upto_region 7 with fail
  rw [← hV5]
  clear hV5 fz ck ks
  clear hge
  have c4 : V5.cell? ⟨N + 1, 4, none⟩ = some (.bool gn) := BX5s.out.cell 4
  cases gn with
  | true =>
    go_upto_region 9 with fail
    clear c4
    have BXF : Hid (Blk V5 (N + 1) 28 (itL sk aN bN (.slice yp pc.length dp) true (.slice none 0 0))) := hid BX5s.out
    have HIT : Hid (ItOk V5 (⟨kk, aN, bN, pc, true, []⟩ : ItQ) (.slice yp pc.length dp) (.slice none 0 0)) := hid ⟨HKB.out, by unfold I64; dsimp only; have := HT1.out; omega, by unfold I64; dsimp only; have := HT2.out; omega, HM4.out, ⟨fun i => by simp, .inl ⟨⟨_, _, rfl⟩, rfl⟩⟩⟩
    obtain ⟨R, hR⟩ : ∃ b, rightI (⟨kk, aN, bN, pc, true, []⟩ : ItQ) = b := ⟨_, rfl⟩
    have CR : Hid (∀ wx, Kp Nb V5 wx → Calls Tryz.prog 13 #[itV sk aN bN (.slice yp pc.length dp) true (.slice none 0 0)] wx fun e w' => e = .returned (.bool R) ∧ Kp Nb wx w') := hid (fun wx k => by rw [← hR, ← HSK.out]; exact iright_any (⟨kk, aN, bN, pc, true, []⟩ : ItQ) _ _ wx (HIT.out.kept k))
    have HGF : Hid (GI = if R then (if eg ≠ 0 then (itZ, zg, eg) else ((⟨kk, aN, bN, pc, true, []⟩ : ItQ), zg, eg)) else (itZ, failS zg eg 11, failE eg 11)) := hid (by
      rw [HGI.out, HGX.out, HV1.out, HK1.out, HgA.out, HgB.out, HgP.out, HgG.out]
      dsimp only
      rw [HGN.out]
      rw [if_pos (of_decide_eq_true HGN.out)]
      dsimp only
      rw [hR])
    clear hR
    go_wp2_with (first
      | (refine wpList_load_mid (by rfl) 28 (.tmp 3) (by rfl) (N + 1) 0 (by rfl) (itL sk aN bN (.slice yp pc.length dp) true (.slice none 0 0)) _ (range_ofR BXF.out) under_item.choose_spec rfl item_info ?_))
    refine (CR.out V5 (Kp.refl _ _)).mono ?_
    rintro r wr ⟨rfl, kr⟩
    have BXR := hid (BXF.out.kept kr (fun h => h))
    have BNR := hid (BN5s.out.kept kr (fun h => h))
    have ER := hid (E5s.out.kept kr (fun h => h) (fun _ h => h.elim))
    have KR := hid (K5s.out.trans kr (fun _ _ h => h.elim))
    have ITR := hid (HIT.out.kept kr)
    have OVR : Hid (OwnV w (.slice yp pc.length dp) wr ∧ OwnV w (.slice none 0 0) wr) := hid ⟨fun g hg => ⟨(HOV4.out g hg).1, Nat.lt_of_lt_of_le (HOV4.out g hg).2 kr.size⟩, fun g hg => ⟨((fun g hg => absurd hg (by simp [Value.ownBlock]) : OwnV w (.slice none 0 0) V5) g hg).1, Nat.lt_of_lt_of_le ((fun g hg => absurd hg (by simp [Value.ownBlock]) : OwnV w (.slice none 0 0) V5) g hg).2 kr.size⟩⟩
    clear kr CR HIT BXF
    cases R with
    | false =>
      go_wp2_with fail
      refine (fail_on B zg eg 11 wr HSB.out ER.out).mono ?_
      rintro r wf ⟨rfl, hf, kf⟩
      have EF := hid hf
      have BNF := hid (BNR.out.kept kf (fun h => by have h' : N = B := h; have := HSZ.out; omega))
      have KF := hid (KR.out.trans kf (fun _ _ h => h))
      clear hf kf
      go_wp2_with fail
      refine (err_on B _ _ wf HSB.out EF.out).mono ?_
      rintro r we ⟨rfl, rfl⟩
      have hne := fail11 eg
      obtain ⟨fe, hfe⟩ : ∃ x, failE eg 11 = x := ⟨_, rfl⟩
      rw [hfe] at hne EF HGF ⊢
      clear hfe
      have hGI : GI = (itZ, failS zg eg 11, fe) := by rw [HGF.out]; rfl
      have HGZ := hid hGI
      have g1 : (fe != 0) = true := by rw [bne_iff_ne]; exact hne
      clear hGI hne
      have TH := hid (item_there (ks := ⟨#[]⟩) (dn := 0) (dd := 0) (vp := .slice none 0 0) (vv := .slice none 0 0) (g := false) BNF.out rfl)
      have HW := hid (row_set (vs := itL ⟨#[]⟩ 0 0 (.slice none 0 0) false (.slice none 0 0)) (cs := itL ⟨#[]⟩ 0 0 (.slice none 0 0) false (.slice none 0 0)) BNF.out rfl)
      have ks : Kp (Jb N) wf (wf.setCells N 0 (itL ⟨#[]⟩ 0 0 (.slice none 0 0) false (.slice none 0 0))) := Kp.setCells (S := Jb N) (B := N) (fun _ => show N = N from rfl) _ 0 _ (Kp.refl _ _)
      have HKW : Hid (Kp (Jb B) w (wf.setCells N 0 (itL ⟨#[]⟩ 0 0 (.slice none 0 0) false (.slice none 0 0)))) := hid (KF.out.trans ks (fun i hi h => by have h' : i = N := h; have := HSZ.out; omega))
      have EW := hid (EF.out.kept ks (fun h => by have h' : B = N := h; have := HSZ.out; omega) (fun i hi => by have h' : i = N := hi; exact HSN.out i (by have := HSZ.out; omega)))
      clear ks
      go_wp2_with (first
        | (refine wpList_store_mid (by rfl) 28 (.tmp 2) (.tmp 39) (by rfl) N 0 (itL ⟨#[]⟩ 0 0 (.slice none 0 0) false (.slice none 0 0)).toArray (by rfl) (by rfl) TH.out item_info (item_one _ _ _ _ _ _ _ _ _ _) ?_))
      refine bodyPost_ret (results_cellI rfl _ N (by rfl) _ (row_loadVar Tryz.underlying28 rfl (item_infoL _ _ _ _ _ _) HW.out 0 (fun j _ => by rw [Nat.zero_add]))) rfl ?_
      rw [HGZ.out]
      exact ⟨.slice none 0 0, .slice none 0 0, rfl, itz_ok _, (fun g hg => by simp [Value.ownBlock] at hg), (fun g hg => by simp [Value.ownBlock] at hg), EW.out, HKW.out⟩
    | true =>
      go_wp2_with fail
      refine (err_on B _ _ wr HSB.out ER.out).mono ?_
      rintro r we ⟨rfl, rfl⟩
      by_cases hee : eg = 0
      · have HGZ : Hid (GI = ((⟨kk, aN, bN, pc, true, []⟩ : ItQ), zg, eg)) := hid (by rw [HGF.out, if_pos trivial, if_neg (by rw [hee]; decide)])
        have g1 : (eg != 0) = false := by rw [hee]; rfl
        clear hee
        have TH := hid (item_there (ks := sk) (dn := aN) (dd := bN) (vp := .slice yp pc.length dp) (vv := .slice none 0 0) (g := true) BNR.out rfl)
        have HW := hid (row_set (vs := itL ⟨#[]⟩ 0 0 (.slice none 0 0) false (.slice none 0 0)) (cs := itL sk aN bN (.slice yp pc.length dp) true (.slice none 0 0)) BNR.out rfl)
        have ks : Kp (Jb N) wr (wr.setCells N 0 (itL sk aN bN (.slice yp pc.length dp) true (.slice none 0 0))) := Kp.setCells (S := Jb N) (B := N) (fun _ => show N = N from rfl) _ 0 _ (Kp.refl _ _)
        have HKW : Hid (Kp (Jb B) w (wr.setCells N 0 (itL sk aN bN (.slice yp pc.length dp) true (.slice none 0 0)))) := hid (KR.out.trans ks (fun i hi h => by have h' : i = N := h; have := HSZ.out; omega))
        have EW := hid (ER.out.kept ks (fun h => by have h' : B = N := h; have := HSZ.out; omega) (fun i hi => by have h' : i = N := hi; exact HSN.out i (by have := HSZ.out; omega)))
        have ITW : Hid (ItOk (wr.setCells N 0 (itL sk aN bN (.slice yp pc.length dp) true (.slice none 0 0))) (⟨kk, aN, bN, pc, true, []⟩ : ItQ) (.slice yp pc.length dp) (.slice none 0 0)) := hid ⟨ITR.out.key, ITR.out.dn, ITR.out.dd, ITR.out.past.keptV ks (fun g hg h => (HNX.out g hg).2.1 h), ⟨fun i => by simp, .inl ⟨⟨_, _, rfl⟩, rfl⟩⟩⟩
        have OVW : Hid (OwnV w (.slice yp pc.length dp) (wr.setCells N 0 (itL sk aN bN (.slice yp pc.length dp) true (.slice none 0 0))) ∧ OwnV w (.slice none 0 0) (wr.setCells N 0 (itL sk aN bN (.slice yp pc.length dp) true (.slice none 0 0)))) := hid ⟨fun g hg => ⟨(OVR.out.1 g hg).1, Nat.lt_of_lt_of_le (OVR.out.1 g hg).2 ks.size⟩, fun g hg => ⟨(OVR.out.2 g hg).1, Nat.lt_of_lt_of_le (OVR.out.2 g hg).2 ks.size⟩⟩
        clear ks
        go_wp2_with (first
          | (refine wpList_load_mid (by rfl) 28 (.tmp 3) (by rfl) (N + 1) 0 (by rfl) (itL sk aN bN (.slice yp pc.length dp) true (.slice none 0 0)) _ (range_ofR BXR.out) under_item.choose_spec rfl item_info ?_)
          | (refine wpList_store_mid (by rfl) 28 (.tmp 2) (.tmp 40) (by rfl) N 0 (itL sk aN bN (.slice yp pc.length dp) true (.slice none 0 0)).toArray (by rfl) (by rfl) TH.out item_info (item_one _ _ _ _ _ _ _ _ _ _) ?_))
        refine bodyPost_ret (results_cellI rfl _ N (by rfl) _ (row_loadVar Tryz.underlying28 rfl (item_infoL _ _ _ _ _ _) HW.out 0 (fun j _ => by rw [Nat.zero_add]))) rfl ?_
        rw [HGZ.out]
        exact ⟨_, _, by unfold itVq; rw [HSK.out], ITW.out, OVW.out.1, OVW.out.2, EW.out, HKW.out⟩
      · have HGZ : Hid (GI = (itZ, zg, eg)) := hid (by rw [HGF.out, if_pos trivial, if_pos hee])
        have g1 : (eg != 0) = true := by rw [bne_iff_ne]; exact hee
        clear hee
        have TH := hid (item_there (ks := ⟨#[]⟩) (dn := 0) (dd := 0) (vp := .slice none 0 0) (vv := .slice none 0 0) (g := false) BNR.out rfl)
        have HW := hid (row_set (vs := itL ⟨#[]⟩ 0 0 (.slice none 0 0) false (.slice none 0 0)) (cs := itL ⟨#[]⟩ 0 0 (.slice none 0 0) false (.slice none 0 0)) BNR.out rfl)
        have ks : Kp (Jb N) wr (wr.setCells N 0 (itL ⟨#[]⟩ 0 0 (.slice none 0 0) false (.slice none 0 0))) := Kp.setCells (S := Jb N) (B := N) (fun _ => show N = N from rfl) _ 0 _ (Kp.refl _ _)
        have HKW : Hid (Kp (Jb B) w (wr.setCells N 0 (itL ⟨#[]⟩ 0 0 (.slice none 0 0) false (.slice none 0 0)))) := hid (KR.out.trans ks (fun i hi h => by have h' : i = N := h; have := HSZ.out; omega))
        have EW := hid (ER.out.kept ks (fun h => by have h' : B = N := h; have := HSZ.out; omega) (fun i hi => by have h' : i = N := hi; exact HSN.out i (by have := HSZ.out; omega)))
        clear ks
        go_wp2_with (first
          | (refine wpList_store_mid (by rfl) 28 (.tmp 2) (.tmp 39) (by rfl) N 0 (itL ⟨#[]⟩ 0 0 (.slice none 0 0) false (.slice none 0 0)).toArray (by rfl) (by rfl) TH.out item_info (item_one _ _ _ _ _ _ _ _ _ _) ?_))
        refine bodyPost_ret (results_cellI rfl _ N (by rfl) _ (row_loadVar Tryz.underlying28 rfl (item_infoL _ _ _ _ _ _) HW.out 0 (fun j _ => by rw [Nat.zero_add]))) rfl ?_
        rw [HGZ.out]
        exact ⟨.slice none 0 0, .slice none 0 0, rfl, itz_ok _, (fun g hg => by simp [Value.ownBlock] at hg), (fun g hg => by simp [Value.ownBlock] at hg), EW.out, HKW.out⟩
  | false =>
    go_wp2_with fail
    refine (textw_on B zg eg 64 V5 HSB.out E5s.out (by have := HL4.out; have := HLP.out; have := HL1.out; have := HL2.out; have := HLK.out; omega) (by decide) (by decide)).mono ?_
    rintro r w6 ⟨⟨vw, rfl, ow⟩, he, ka⟩
    have HVB := hid (show IsBytes (textN zg eg 64).1 from text_okI zg eg 64 (eyeOn_bytes E5s.out))
    obtain ⟨zT, hzT⟩ : ∃ x, textN zg eg 64 = x := ⟨_, rfl⟩
    have HzT := hid hzT
    rw [hzT] at he HVB ow
    obtain ⟨tv, zv, ev⟩ := zT
    dsimp only at he HVB ow
    have HBV := hid (show BySl Nb w6 vw tv from BySl.ofOwn ow HVB.out (fun _ _ _ h => h))
    have HVN : Hid (∀ g, vw.ownBlock = some g → w.heap.size ≤ g ∧ g < w6.heap.size ∧ g ≠ N + 1 ∧ g ≠ N) := hid (fun g hg => by
      obtain ⟨h1, o, ho, -⟩ := row_cells ow hg
      have h2 := (Array.getElem?_eq_some_iff.1 ho).1
      have := HSZ.out; have := BX5s.out.lt; have := K5s.out.size
      omega)
    have HM5 := hid (HM4.out.keptV ka (fun g hg h => (HNX.out g hg).2.2 h))
    have HOV5 : Hid (OwnV w (.slice yp pc.length dp) w6) := hid (fun g hg => ⟨(HOV4.out g hg).1, Nat.lt_of_lt_of_le (HOV4.out g hg).2 ka.size⟩)
    obtain ⟨yv, dv, rfl⟩ := own_shape ow
    have OWV := hid ow
    clear hzT ow
    have E6 := hid he
    have BX6 := hid (BX5s.out.kept ka (fun h => by have h' : N + 1 = B := h; have := HSZ.out; omega))
    have BN6 := hid (BN5s.out.kept ka (fun h => by have h' : N = B := h; have := HSZ.out; omega))
    have K6 := hid (K5s.out.trans ka (fun _ _ h => h))
    have fz := BX6.out.frozen 5
    have ck : w6.cell? ⟨N + 1, 5, none⟩ = some (.slice none 0 0) := BX6.out.cell 5
    obtain ⟨V6, hV6⟩ : ∃ W, W = w6.setCell ⟨N + 1, 5, none⟩ (.slice yv tv.length dv) := ⟨_, rfl⟩
    have ks : Kp (Jb (N + 1)) w6 V6 := by rw [hV6]; exact (Kp.refl (Jb (N + 1)) w6).set 5 _
    have BX6s : Hid (Blk V6 (N + 1) 28 [.string sk, .int .i64 aN, .int .i64 bN, .slice yp pc.length dp, .bool false, .slice yv tv.length dv]) := hid (by rw [hV6]; exact BX6.out.set 5 _)
    have BN6s := hid (BN6.out.kept ks (fun h => by have h' : N = N + 1 := h; omega))
    have E6s := hid (E6.out.kept ks (fun h => by have h' : B = N + 1 := h; have := HSZ.out; omega) (fun i hi => by have h' : i = N + 1 := hi; exact HSN.out i (by have := HSZ.out; omega)))
    have K6s : Hid (Kp (Jb B) w V6) := hid (K6.out.trans ks (fun i hi h => by have h' : i = N + 1 := h; have := HSZ.out; omega))
    have HM6 := hid (HM5.out.keptV ks (fun g hg h => (HNX.out g hg).1 h))
    have HOV6 : Hid (OwnV w (.slice yp pc.length dp) V6) := hid (fun g hg => ⟨(HOV5.out g hg).1, Nat.lt_of_lt_of_le (HOV5.out g hg).2 ks.size⟩)
    have OWV2 : Hid (V6.ownsRow (N + 2) 5 1 (.slice yv tv.length dv) tv.length (tv.map (Value.int .u8))) := hid (ownsRow_same (ownsRow_le OWV.out (by have := K5s.out.size; have := HSZ.out; have := BX5s.out.lt; omega)) (fun g hg => ks.heap (HVN.out g hg).2.1 (fun h => (HVN.out g hg).2.2.1 h)))
    have HVN2 : Hid (OwnV w (.slice yv tv.length dv) V6) := hid (fun g hg => ⟨(HVN.out g hg).1, Nat.lt_of_lt_of_le (HVN.out g hg).2.1 ks.size⟩)
    clear he ka HM5 HOV5
    go_upto_region 9 with fail
    rw [← hV6]
    clear hV6 fz ck ks
    clear c4
    have BXF : Hid (Blk V6 (N + 1) 28 (itL sk aN bN (.slice yp pc.length dp) false (.slice yv tv.length dv))) := hid BX6s.out
    have HIT : Hid (ItOk V6 (⟨kk, aN, bN, pc, false, tv⟩ : ItQ) (.slice yp pc.length dp) (.slice yv tv.length dv)) := hid ⟨HKB.out, by unfold I64; dsimp only; have := HT1.out; omega, by unfold I64; dsimp only; have := HT2.out; omega, HM6.out, BySl.ofOwn OWV2.out HVB.out (fun _ _ _ h => h)⟩
    obtain ⟨R, hR⟩ : ∃ b, rightI (⟨kk, aN, bN, pc, false, tv⟩ : ItQ) = b := ⟨_, rfl⟩
    have CR : Hid (∀ wx, Kp Nb V6 wx → Calls Tryz.prog 13 #[itV sk aN bN (.slice yp pc.length dp) false (.slice yv tv.length dv)] wx fun e w' => e = .returned (.bool R) ∧ Kp Nb wx w') := hid (fun wx k => by rw [← hR, ← HSK.out]; exact iright_any (⟨kk, aN, bN, pc, false, tv⟩ : ItQ) _ _ wx (HIT.out.kept k))
    have HGF : Hid (GI = if R then (if ev ≠ 0 then (itZ, zv, ev) else ((⟨kk, aN, bN, pc, false, tv⟩ : ItQ), zv, ev)) else (itZ, failS zv ev 11, failE ev 11)) := hid (by
      rw [HGI.out, HGX.out, HV1.out, HK1.out, HgA.out, HgB.out, HgP.out, HgG.out]
      dsimp only
      rw [HGN.out]
      rw [if_neg (of_decide_eq_false HGN.out), HzT.out]
      dsimp only
      rw [hR])
    clear hR
    go_wp2_with (first
      | (refine wpList_load_mid (by rfl) 28 (.tmp 3) (by rfl) (N + 1) 0 (by rfl) (itL sk aN bN (.slice yp pc.length dp) false (.slice yv tv.length dv)) _ (range_ofR BXF.out) under_item.choose_spec rfl item_info ?_))
    refine (CR.out V6 (Kp.refl _ _)).mono ?_
    rintro r wr ⟨rfl, kr⟩
    have BXR := hid (BXF.out.kept kr (fun h => h))
    have BNR := hid (BN6s.out.kept kr (fun h => h))
    have ER := hid (E6s.out.kept kr (fun h => h) (fun _ h => h.elim))
    have KR := hid (K6s.out.trans kr (fun _ _ h => h.elim))
    have ITR := hid (HIT.out.kept kr)
    have OVR : Hid (OwnV w (.slice yp pc.length dp) wr ∧ OwnV w (.slice yv tv.length dv) wr) := hid ⟨fun g hg => ⟨(HOV6.out g hg).1, Nat.lt_of_lt_of_le (HOV6.out g hg).2 kr.size⟩, fun g hg => ⟨(HVN2.out g hg).1, Nat.lt_of_lt_of_le (HVN2.out g hg).2 kr.size⟩⟩
    clear kr CR HIT BXF
    cases R with
    | false =>
      go_wp2_with fail
      refine (fail_on B zv ev 11 wr HSB.out ER.out).mono ?_
      rintro r wf ⟨rfl, hf, kf⟩
      have EF := hid hf
      have BNF := hid (BNR.out.kept kf (fun h => by have h' : N = B := h; have := HSZ.out; omega))
      have KF := hid (KR.out.trans kf (fun _ _ h => h))
      clear hf kf
      go_wp2_with fail
      refine (err_on B _ _ wf HSB.out EF.out).mono ?_
      rintro r we ⟨rfl, rfl⟩
      have hne := fail11 ev
      obtain ⟨fe, hfe⟩ : ∃ x, failE ev 11 = x := ⟨_, rfl⟩
      rw [hfe] at hne EF HGF ⊢
      clear hfe
      have hGI : GI = (itZ, failS zv ev 11, fe) := by rw [HGF.out]; rfl
      have HGZ := hid hGI
      have g1 : (fe != 0) = true := by rw [bne_iff_ne]; exact hne
      clear hGI hne
      have TH := hid (item_there (ks := ⟨#[]⟩) (dn := 0) (dd := 0) (vp := .slice none 0 0) (vv := .slice none 0 0) (g := false) BNF.out rfl)
      have HW := hid (row_set (vs := itL ⟨#[]⟩ 0 0 (.slice none 0 0) false (.slice none 0 0)) (cs := itL ⟨#[]⟩ 0 0 (.slice none 0 0) false (.slice none 0 0)) BNF.out rfl)
      have ks : Kp (Jb N) wf (wf.setCells N 0 (itL ⟨#[]⟩ 0 0 (.slice none 0 0) false (.slice none 0 0))) := Kp.setCells (S := Jb N) (B := N) (fun _ => show N = N from rfl) _ 0 _ (Kp.refl _ _)
      have HKW : Hid (Kp (Jb B) w (wf.setCells N 0 (itL ⟨#[]⟩ 0 0 (.slice none 0 0) false (.slice none 0 0)))) := hid (KF.out.trans ks (fun i hi h => by have h' : i = N := h; have := HSZ.out; omega))
      have EW := hid (EF.out.kept ks (fun h => by have h' : B = N := h; have := HSZ.out; omega) (fun i hi => by have h' : i = N := hi; exact HSN.out i (by have := HSZ.out; omega)))
      clear ks
      go_wp2_with (first
        | (refine wpList_store_mid (by rfl) 28 (.tmp 2) (.tmp 39) (by rfl) N 0 (itL ⟨#[]⟩ 0 0 (.slice none 0 0) false (.slice none 0 0)).toArray (by rfl) (by rfl) TH.out item_info (item_one _ _ _ _ _ _ _ _ _ _) ?_))
      refine bodyPost_ret (results_cellI rfl _ N (by rfl) _ (row_loadVar Tryz.underlying28 rfl (item_infoL _ _ _ _ _ _) HW.out 0 (fun j _ => by rw [Nat.zero_add]))) rfl ?_
      rw [HGZ.out]
      exact ⟨.slice none 0 0, .slice none 0 0, rfl, itz_ok _, (fun g hg => by simp [Value.ownBlock] at hg), (fun g hg => by simp [Value.ownBlock] at hg), EW.out, HKW.out⟩
    | true =>
      go_wp2_with fail
      refine (err_on B _ _ wr HSB.out ER.out).mono ?_
      rintro r we ⟨rfl, rfl⟩
      by_cases hee : ev = 0
      · have HGZ : Hid (GI = ((⟨kk, aN, bN, pc, false, tv⟩ : ItQ), zv, ev)) := hid (by rw [HGF.out, if_pos trivial, if_neg (by rw [hee]; decide)])
        have g1 : (ev != 0) = false := by rw [hee]; rfl
        clear hee
        have TH := hid (item_there (ks := sk) (dn := aN) (dd := bN) (vp := .slice yp pc.length dp) (vv := .slice yv tv.length dv) (g := false) BNR.out rfl)
        have HW := hid (row_set (vs := itL ⟨#[]⟩ 0 0 (.slice none 0 0) false (.slice none 0 0)) (cs := itL sk aN bN (.slice yp pc.length dp) false (.slice yv tv.length dv)) BNR.out rfl)
        have ks : Kp (Jb N) wr (wr.setCells N 0 (itL sk aN bN (.slice yp pc.length dp) false (.slice yv tv.length dv))) := Kp.setCells (S := Jb N) (B := N) (fun _ => show N = N from rfl) _ 0 _ (Kp.refl _ _)
        have HKW : Hid (Kp (Jb B) w (wr.setCells N 0 (itL sk aN bN (.slice yp pc.length dp) false (.slice yv tv.length dv)))) := hid (KR.out.trans ks (fun i hi h => by have h' : i = N := h; have := HSZ.out; omega))
        have EW := hid (ER.out.kept ks (fun h => by have h' : B = N := h; have := HSZ.out; omega) (fun i hi => by have h' : i = N := hi; exact HSN.out i (by have := HSZ.out; omega)))
        have ITW : Hid (ItOk (wr.setCells N 0 (itL sk aN bN (.slice yp pc.length dp) false (.slice yv tv.length dv))) (⟨kk, aN, bN, pc, false, tv⟩ : ItQ) (.slice yp pc.length dp) (.slice yv tv.length dv)) := hid ⟨ITR.out.key, ITR.out.dn, ITR.out.dd, ITR.out.past.keptV ks (fun g hg h => (HNX.out g hg).2.1 h), by_apart ITR.out.val ks (fun g hg h => (HVN.out g hg).2.2.2 h)⟩
        have OVW : Hid (OwnV w (.slice yp pc.length dp) (wr.setCells N 0 (itL sk aN bN (.slice yp pc.length dp) false (.slice yv tv.length dv))) ∧ OwnV w (.slice yv tv.length dv) (wr.setCells N 0 (itL sk aN bN (.slice yp pc.length dp) false (.slice yv tv.length dv)))) := hid ⟨fun g hg => ⟨(OVR.out.1 g hg).1, Nat.lt_of_lt_of_le (OVR.out.1 g hg).2 ks.size⟩, fun g hg => ⟨(OVR.out.2 g hg).1, Nat.lt_of_lt_of_le (OVR.out.2 g hg).2 ks.size⟩⟩
        clear ks
        go_wp2_with (first
          | (refine wpList_load_mid (by rfl) 28 (.tmp 3) (by rfl) (N + 1) 0 (by rfl) (itL sk aN bN (.slice yp pc.length dp) false (.slice yv tv.length dv)) _ (range_ofR BXR.out) under_item.choose_spec rfl item_info ?_)
          | (refine wpList_store_mid (by rfl) 28 (.tmp 2) (.tmp 40) (by rfl) N 0 (itL sk aN bN (.slice yp pc.length dp) false (.slice yv tv.length dv)).toArray (by rfl) (by rfl) TH.out item_info (item_one _ _ _ _ _ _ _ _ _ _) ?_))
        refine bodyPost_ret (results_cellI rfl _ N (by rfl) _ (row_loadVar Tryz.underlying28 rfl (item_infoL _ _ _ _ _ _) HW.out 0 (fun j _ => by rw [Nat.zero_add]))) rfl ?_
        rw [HGZ.out]
        exact ⟨_, _, by unfold itVq; rw [HSK.out], ITW.out, OVW.out.1, OVW.out.2, EW.out, HKW.out⟩
      · have HGZ : Hid (GI = (itZ, zv, ev)) := hid (by rw [HGF.out, if_pos trivial, if_pos hee])
        have g1 : (ev != 0) = true := by rw [bne_iff_ne]; exact hee
        clear hee
        have TH := hid (item_there (ks := ⟨#[]⟩) (dn := 0) (dd := 0) (vp := .slice none 0 0) (vv := .slice none 0 0) (g := false) BNR.out rfl)
        have HW := hid (row_set (vs := itL ⟨#[]⟩ 0 0 (.slice none 0 0) false (.slice none 0 0)) (cs := itL ⟨#[]⟩ 0 0 (.slice none 0 0) false (.slice none 0 0)) BNR.out rfl)
        have ks : Kp (Jb N) wr (wr.setCells N 0 (itL ⟨#[]⟩ 0 0 (.slice none 0 0) false (.slice none 0 0))) := Kp.setCells (S := Jb N) (B := N) (fun _ => show N = N from rfl) _ 0 _ (Kp.refl _ _)
        have HKW : Hid (Kp (Jb B) w (wr.setCells N 0 (itL ⟨#[]⟩ 0 0 (.slice none 0 0) false (.slice none 0 0)))) := hid (KR.out.trans ks (fun i hi h => by have h' : i = N := h; have := HSZ.out; omega))
        have EW := hid (ER.out.kept ks (fun h => by have h' : B = N := h; have := HSZ.out; omega) (fun i hi => by have h' : i = N := hi; exact HSN.out i (by have := HSZ.out; omega)))
        clear ks
        go_wp2_with (first
          | (refine wpList_store_mid (by rfl) 28 (.tmp 2) (.tmp 39) (by rfl) N 0 (itL ⟨#[]⟩ 0 0 (.slice none 0 0) false (.slice none 0 0)).toArray (by rfl) (by rfl) TH.out item_info (item_one _ _ _ _ _ _ _ _ _ _) ?_))
        refine bodyPost_ret (results_cellI rfl _ N (by rfl) _ (row_loadVar Tryz.underlying28 rfl (item_infoL _ _ _ _ _ _) HW.out 0 (fun j _ => by rw [Nat.zero_add]))) rfl ?_
        rw [HGZ.out]
        exact ⟨.slice none 0 0, .slice none 0 0, rfl, itz_ok _, (fun g hg => by simp [Value.ownBlock] at hg), (fun g hg => by simp [Value.ownBlock] at hg), EW.out, HKW.out⟩
end
section
open Go.RowKit
theorem wpList_valI {P : Program} {ops : Array Oper} {rest : List Oper} {o : Oper} {a : Act} {w : World} {Q : Exit → Act → World → Prop} (hw : Region.wanted o (yielded ops a.tmps) = true) (v : Value) (w' : World) (h1 : (execOp a.eval o).run P w = .ok (.value v) w')
    (h : wpList P ops Q rest (a.put o.dst v) w') : wpList P ops Q (o :: rest) a w :=
  wpList_step fun K hK => by
    rw [if_pos hw]
    unfold Oper.wp
    rw [h1]
    exact hK _ _ h
/-- A clock's runs lie apart from an item's cells: nowhere there are three ints side by side. -/
theorem cl_beside {w w' : World} {X t : Nat} {v : Value} {c : List RunQ} {ks : ByteArray} {dn dd : Int} {y y' : Option Addr} {n d n' d' : Nat} {g : Bool} (h : ClSl w v c) (hx : Blk w X t [.string ks, .int .i64 dn, .int .i64 dd, .slice y n d, .bool g, .slice y' n' d']) (k : Kp (Jb X) w w') : ClSl w' v c := by
  refine ⟨h.1, ?_⟩
  rcases h.2 with h2 | ⟨blk, off, cap, rfl, hc, hm, hr⟩
  · exact .inl h2
  · refine .inr ⟨blk, off, cap, rfl, hc, hm, fun i hi j u hu => k.cell (hr i hi j u hu) (fun hX => ?_)⟩
    have hX' : blk = X := hX
    subst hX'
    have c0 := hr i hi 0 _ rfl
    have c1 := hr i hi 1 _ rfl
    have c2 := hr i hi 2 _ rfl
    rw [hx.cell] at c0 c1 c2
    obtain ⟨m, hm2⟩ : ∃ m, off + i * 3 = m := ⟨_, rfl⟩
    rw [hm2] at c0 c1 c2
    rcases m with _ | _ | _ | _ | _ | _ | m
    · simp at c0
    · simp at c2
    · simp at c1
    · simp at c0
    · simp at c0
    · simp at c0
    · simp at c0
theorem by_besideI {w w' : World} {X t : Nat} {v : Value} {zs : List Int} {ks : ByteArray} {dn dd : Int} {y y' : Option Addr} {n d n' d' : Nat} {g : Bool} (h : BySl Nb w v zs) (hx : Blk w X t [.string ks, .int .i64 dn, .int .i64 dd, .slice y n d, .bool g, .slice y' n' d']) (k : Kp (Jb X) w w') : BySl Nb w' v zs := by
  obtain ⟨hz, hv⟩ := h
  refine ⟨hz, ?_⟩
  rcases hv with hv | ⟨blk, off, cap, rfl, hc, hm, hcell, hn⟩
  · exact .inl hv
  · refine .inr ⟨blk, off, cap, rfl, hc, hm, fun i hi => k.cell (hcell i hi) (fun hX => ?_), fun _ h => h⟩
    have hX' : blk = X := hX
    subst hX'
    have c0 := hcell i hi
    rw [hx.cell] at c0
    obtain ⟨m, hm2⟩ : ∃ m, off + i = m := ⟨_, rfl⟩
    rw [hm2] at c0
    rcases m with _ | _ | _ | _ | _ | _ | m <;> simp at c0
end

end Go.Proofs.YtogoophofgkboaaGreatDoor
