/-
  Layer 9: MarksReads' law. Conditions: a list of marks and bytes in memory.
-/
import Derived.Test.YtijlmfmpfjjlpaaMbK
import Derived.Test.YtijlmfmpfjjlpaaMbA
import Derived.Test.YtijlmfmpfjjlpaaMaP
namespace Go.Proofs.Ytijlmfmpfjjlpaa
open Go.RowKit

theorem BySl.sizeB {S : Nat → Prop} {w : World} {v : Value} {zs : List Int} (h : BySl S w v zs) : ∃ y d, v = .slice y zs.length d := by
  rcases h.2 with ⟨⟨a, c, rfl⟩, rfl⟩ | ⟨blk, off, cap, rfl, _⟩
  · exact ⟨a, c, rfl⟩
  · exact ⟨_, _, rfl⟩
theorem BySl.besideB {S : Nat → Prop} {w w' : World} {X : Nat} {v : Value} {zs ys : List Int} {f : Int} (h : BySl S w v zs) (g : RefAt w X ys f) (k : Kp (Jb X) w w') : BySl S w' v zs := by
  obtain ⟨hz, hv⟩ := h
  refine ⟨hz, ?_⟩
  rcases hv with hv | ⟨blk, off, cap, rfl, hc, hm, hcell, hn⟩
  · exact .inl hv
  · by_cases h0 : zs.length = 0
    · obtain rfl := List.eq_nil_of_length_eq_zero h0
      exact .inl ⟨⟨_, _, rfl⟩, rfl⟩
    · have hX : blk ≠ X := by
        intro hX
        subst hX
        have c := hcell 0 (by omega)
        rw [Blk.cell g] at c
        rcases Nat.lt_trichotomy (off + 0) 1 with h | h | h
        · rw [show off + 0 = 0 by omega] at c; simp at c
        · rw [h] at c; simp at c
        · rw [List.getElem?_eq_none (by simp; omega)] at c; cases c
      exact .inr ⟨blk, off, cap, rfl, hc, hm, fun i hi => k.cell (hcell i hi) hX, hn⟩
theorem EyeAt.besideB {w w' : World} {E X : Nat} {zs ys : List Int} {e f : Int} (h : EyeAt w E zs e) (g : RefAt w X ys f) (hne : E ≠ X) (k : Kp (Jb X) w w') : EyeAt w' E zs e := by
  obtain ⟨v, hb, hv⟩ := h
  exact ⟨v, hb.kept k hne, hv.besideB g k⟩
theorem getL_len (k : Nat) : ∀ (z : List Int) (e : Int) (acc l : List (List Int)) (z' : List Int) (e' : Int), getL k z e acc = (some l, z', e') → l.length ≤ acc.length + k := by
  induction k with
  | zero => intro z e acc l z' e' h; unfold getL at h; injection h with h; injection h with h; subst h; exact Nat.le_refl _
  | succ k ih =>
    intro z e acc l z' e' h
    unfold getL at h
    split at h
    · injection h with h; cases h
    · have := ih _ _ _ _ _ _ h
      rw [List.length_append, List.length_singleton] at this
      omega
theorem getM_len (zs : List Int) (hz : IsBytes zs) : (getM zs 0).1.length ≤ 4096 := by
  have ht := readN_topM zs hz
  unfold getM
  obtain ⟨⟨o, z, e⟩, h⟩ : ∃ r, getL (readN zs 0 4096).1.toNat (readN zs 0 4096).2.1 (readN zs 0 4096).2.2 [] = r := ⟨_, rfl⟩
  rw [h]
  cases o with
  | none => exact Nat.zero_le _
  | some l =>
    have hl := getL_len _ _ _ _ _ _ _ h
    rw [List.length_nil] at hl
    show (if rightB l then (l, z, e) else ([], failS z e 11, failE e 11)).1.length ≤ 4096
    split
    · show l.length ≤ 4096; omega
    · exact Nat.zero_le _
/-- The region that makes the two eyes. -/
structure RdB (W : World) (zs : List Int) (bs : List Bool) (g : Nat × Nat) (w : World) : Prop where
  kp : Kp Nb W w
  eye : bs[0]?.getD false = true → EyeAt w g.1 zs 0 ∧ W.heap.size ≤ g.1
  ref : bs[1]?.getD false = true → RefAt w g.2 zs 0 ∧ W.heap.size ≤ g.2
  ne : bs[0]?.getD false = true → bs[1]?.getD false = true → g.1 ≠ g.2
/-- The last region: the pen's bytes as a new slice. -/
structure RpB (W : World) (zs : List Int) (bs : List Bool) (g : Value) (w : World) : Prop where
  kp : Kp Nb W w
  by' : bs[0]?.getD false = true → BySl Nb w g zs
theorem RpB.step {W : World} {zs : List Int} {bs : List Bool} {g : Value} {w w' : World} (h : RpB W zs bs g w) (k : Kp Nb w w') : RpB W zs bs g w' := ⟨h.kp.trans k (fun _ _ h => h), fun e => (h.by' e).kept k (fun _ h => h)⟩
theorem old_set1B {L : Nat → Bool} {i : Nat} {l l' : List Value} (u : Value) (hL : L i = false) (h : l' = l.set i u) : ∀ j, L j = true → l'.getD j undef = l.getD j undef := by
  intro j hj
  subst h
  have hn : i ≠ j := by rintro rfl; rw [hL] at hj; cases hj
  rw [List.getD_eq_getElem?_getD, List.getD_eq_getElem?_getD, List.getElem?_set_ne hn]
theorem old_set2B {L : Nat → Bool} {i i2 : Nat} {l l' : List Value} (u u2 : Value) (hL : L i = false) (hL2 : L i2 = false) (h : l' = (l.set i u).set i2 u2) : ∀ j, L j = true → l'.getD j undef = l.getD j undef := by
  intro j hj
  subst h
  have hn : i ≠ j := by rintro rfl; rw [hL] at hj; cases hj
  have hn2 : i2 ≠ j := by rintro rfl; rw [hL2] at hj; cases hj
  rw [List.getD_eq_getElem?_getD, List.getD_eq_getElem?_getD, List.getElem?_set_ne hn2, List.getElem?_set_ne hn]

set_option maxRecDepth 100000 in
set_option maxHeartbeats 8000000 in
theorem mreads_any (vl v : Value) (ms : List (List Int)) (zs : List Int) (w : World) (hl : MkSl w vl ms) (hlo : ∀ g, vl.ownBlock = some g → g < w.heap.size) (hv : BySl Nb w v zs) :
    Calls Try.prog 5 #[vl, v] w fun e w' => e = .returned (.bool true) ∧ Kp Nb w w' := by
  obtain ⟨y, d, rfl⟩ := hv.sizeB
  obtain ⟨yl, dl, rfl⟩ := hl.shape
  have HZB := hid hv.1
  obtain ⟨nB, hnB⟩ : ∃ n, zs.length = n := ⟨_, rfl⟩
  obtain ⟨nL, hnL⟩ : ∃ n, ms.length = n := ⟨_, rfl⟩
  rw [hnB] at hv ⊢
  rw [hnL] at hl hlo ⊢
  have HV := hid hv
  have HL := hid hl
  have HLO := hid hlo
  have HNB := hid hnB
  have HNL := hid hnL
  obtain ⟨sz, hsz⟩ : ∃ s, st zs = s := ⟨_, rfl⟩
  have HSZ := hid hsz
  clear hv hl hlo hnB hnL hsz
  go_enter Try.func5, Try.ntmps5
  go_wp2_with fail
  refine (mfirst_any _).mono ?_
  rintro e w1 ⟨rfl, k1⟩
  have K1 := hid k1
  clear k1
  by_cases h1 : 300 < nL
  · go_wp2
    go_ret
    exact ⟨rfl, K1.out⟩
  by_cases h2 : 3000 < nB
  · go_wp2
    go_ret
    exact ⟨rfl, K1.out⟩
  have hL3 : nL ≤ 300 := by omega
  have hB3 : nB ≤ 3000 := by omega
  have HBD := hid (show nL ≤ 300 ∧ nB ≤ 3000 from ⟨hL3, hB3⟩)
  obtain ⟨P, hP⟩ : ∃ P, w1.heap.size = P := ⟨_, rfl⟩
  obtain ⟨W3, hW3⟩ : ∃ W, W = w1.alloc (.cells #[.slice none 0 0] 48) := ⟨_, rfl⟩
  have PN : Hid (PenAt W3 P (.slice none 0 0) []) := hid (by rw [hW3, ← hP]; exact pen_new w1)
  have K3 : Hid (Kp Nb w W3) := hid (by rw [hW3]; exact K1.out.alloc _)
  have HPP : Hid (w1.heap.size = P) := hid hP
  obtain ⟨rb, hrb⟩ : ∃ b, rightB ms = b := ⟨_, rfl⟩
  have HRB := hid hrb
  have CP := mput_any P _ ms W3 (HL.out.kept K3.out) PN.out (fun g hg => by have := HLO.out g hg; have := K1.out.size; omega) (by have := HNL.out; omega)
  rw [hrb] at CP
  have CP := hid CP
  clear hrb
  go_upto_region 6 with fail
  rw [← hW3]
  try simp only [hP]
  clear hW3 hP
  go_wp2_with fail
  refine CP.out.mono ?_
  rintro r w4 ⟨rfl, vP, p4, t4⟩
  have HP4 := hid p4
  have K4 : Hid (Kp Nb w w4) := hid (K3.out.trans t4.kp (fun i hi h => by
    rcases h with h | h
    · have := HPP.out; have := K1.out.size; omega
    · simp [Value.ownBlock] at h))
  clear p4 t4 CP PN K3 h1 h2
  go_wp2_with fail
  have CR0 := rset_any _ ms w4 (HL.out.kept K4.out) (by have := HNL.out; omega)
  rw [HRB.out] at CR0
  refine CR0.mono ?_
  rintro r w5 ⟨rfl, k5⟩
  have HP5 := hid (HP4.out.kept k5 (fun h => h) (fun _ _ h => h))
  have K5 := hid (K4.out.trans k5 (fun _ _ h => h))
  clear k5 CR0 HP4 K4
  cases rb with
  | true =>
    have HP5 : Hid (PenAt w5 P vP (bytesM ms)) := HP5
    go_wp2_with fail
    refine (rbm_any _ ms w5 (HL.out.kept K5.out) (by have := HNL.out; have := HBD.out; omega)).mono ?_
    rintro r w5b ⟨rfl, k5⟩
    have HP5 := hid (HP5.out.kept k5 (fun h => h) (fun _ _ h => h))
    have K5 := hid (K5.out.trans k5 (fun _ _ h => h))
    clear k5
    have HPL : Hid ((bytesM ms).length ≤ 140737488355328) := hid (by
      unfold bytesM
      rw [List.length_append, flat_len HL.out.ok]
      have := HNL.out
      have := HBD.out
      have := numBytes_length (ms.length : Int) (by omega)
      omega)
    obtain ⟨zsP, hzP⟩ : ∃ z, bytesM ms = z := ⟨_, rfl⟩
    rw [hzP] at HP5 HPL ⊢
    obtain ⟨sW, hsW⟩ : ∃ s, st zsP = s := ⟨_, rfl⟩
    have HSW := hid hsW
    rw [hsW]
    clear hzP hsW
    have HV5 := hid (HV.out.kept K5.out (fun _ h => h))
    have CV : Hid (∀ W, Kp Nb w5b W → (convert 45 9 (.slice y nB d)).run Try.prog W = .ok (.string sz) W) := hid (fun W k => by rw [← HSZ.out]; exact conv_any (HV5.out.kept k (fun _ h => h)))
    have RD : Hid (∀ W, Kp Nb w5b W → Calls Try.prog 29 #[.slice y nB d] W fun e w' => ∃ B, W.heap.size ≤ B ∧ e = .returned (.pointer (some ⟨B, 0, none⟩)) ∧ EyeAt w' B zs 0 ∧ Kp Nb W w') := hid (fun W k => read_any (S := Nb) _ zs W (HV5.out.kept k (fun _ h => h)) (by have := HNB.out; have := HBD.out; omega))
    go_upto_region 9 with fail
    refine region_ghost (g0 := ((0, 0) : Nat × Nat)) [none, none, none, none, none, none, none, none, some 6, some 7, none, none, none, none, none, none, none, none, none, none, none, none, none, none, none, none, none, none, none, none, none, some 0, some 1, some 2, some 3, some 4, some 5, none, none, none, none, none, none, none, none, none, none, none, none, none, none, none, none, none, none, none, none, none, none, none, none, none, none, none, none, none, none, none, none, none, none, none, none, none, none, none] [[(1, none)], [(31, some 0)], [(1, none)], [(33, some 2)], [(34, some 3)], [(35, some 4)], [(32, some 1)], [(36, some 5)]] [some 31, some 32, some 33, some 34, some 35, some 36, some 8, some 9] (fun g => [.slice y nB d, .pointer (some ⟨g.1, 0, none⟩), .slice y nB d, .string sz, .agg #[.string sz, .int .i64 0], .pointer (some ⟨g.2, 0, none⟩), .pointer (some ⟨g.1, 0, none⟩), .pointer (some ⟨g.2, 0, none⟩)]) [1, 5] (RdB w5b zs) (by kernel_rfl) (by kernel_rfl) (fun g => by kernel_rfl) (by kernel_rfl) ?hS (GFrom.all (n := 8) (by kernel_rfl) ?hstep) ?hend
    case hstep =>
      refine GFrom.cons (GStep.val _ rfl rfl _ rfl (fun g => .slice y nB d) (fun _ => rfl) (fun _ => trivial) (fun bs g ev wq hS he hr => ?_)) ?_
      · have r0 : ev (.tmp 1) = .slice y nB d := hr (1, none) (by simp); have hk := he.1; clear hr he
        go_simp
      refine GFrom.cons (GStep.callm _ rfl _ rfl (fun _ => trivial) 29 (fun g => #[.slice y nB d]) (fun bs g ev wq hS he hr => ?_) (fun L g wq hL hd hcl hS => ?_)) ?_
      · have r0 : ev (.tmp 31) = .slice y nB d := hr (31, some 0) (by simp); have hk := he.1; have hf := he.2; clear hr he
        go_simp
      · refine (RD.out wq hS.kp).mono ?_
        rintro e w' ⟨Bq, hB, rfl, hey, kn⟩
        have l6 : L 6 = false := by
          cases h : L 6 with
          | false => rfl
          | true => have := hcl 6 _ rfl h 1 (by kernel_rfl); rw [hL] at this; cases this
        refine ⟨_, (Bq, g.2), rfl, rfl, old_set2B (.pointer (some ⟨Bq, 0, none⟩)) (.pointer (some ⟨Bq, 0, none⟩)) hL l6 rfl, ?_⟩
        refine ⟨hS.kp.trans kn (fun _ _ h => h), fun _ => ⟨hey, Nat.le_trans hS.kp.size hB⟩, fun e1 => ?_, fun _ e2 => ?_⟩
        · have a := hS.ref (by simpa [bitsAt, upd] using e1)
          exact ⟨a.1.kept kn (fun h => h), a.2⟩
        · have a := hS.ref (by simpa [bitsAt, upd] using e2)
          have := Blk.lt a.1
          show Bq ≠ g.2
          omega
      refine GFrom.cons (GStep.val _ rfl rfl _ rfl (fun g => .slice y nB d) (fun _ => rfl) (fun _ => trivial) (fun bs g ev wq hS he hr => ?_)) ?_
      · have r0 : ev (.tmp 1) = .slice y nB d := hr (1, none) (by simp); have hk := he.1; clear hr he
        go_simp
      refine GFrom.cons (GStep.val _ rfl rfl _ rfl (fun g => .string sz) (fun _ => rfl) (fun _ => trivial) (fun bs g ev wq hS he hr => ?_)) ?_
      · have r0 : ev (.tmp 33) = .slice y nB d := hr (33, some 2) (by simp); have hk := he.1; clear hr he
        have e1 := CV.out wq hS.kp
        go_simp
      refine GFrom.cons (GStep.val _ rfl rfl _ rfl (fun g => .agg #[.string sz, .int .i64 0]) (fun _ => rfl) (fun _ => trivial) (fun bs g ev wq hS he hr => ?_)) ?_
      · have r0 : ev (.tmp 34) = .string sz := hr (34, some 3) (by simp); have hk := he.1; clear hr he
        go_simp
      refine GFrom.cons (GStep.make _ rfl _ rfl (fun _ => trivial) (fun L g ev wq hL hd hcl hS he hr => ?_)) ?_
      · have r0 : ev (.tmp 35) = .agg #[.string sz, .int .i64 0] := hr (35, some 4) (by simp); clear hr he
        have l7 : L 7 = false := by
          cases h : L 7 with
          | false => rfl
          | true => have := hcl 7 _ rfl h 5 (by kernel_rfl); rw [hL] at this; cases this
        refine ⟨.pointer (some ⟨wq.heap.size, 0, none⟩), (g.1, wq.heap.size), wq.alloc (.cells #[.string sz, .int .i64 0] 55), by go_simp, rfl, old_set2B (.pointer (some ⟨wq.heap.size, 0, none⟩)) (.pointer (some ⟨wq.heap.size, 0, none⟩)) hL l7 rfl, ?_⟩
        have kn := (Kp.refl Nb wq).alloc (.cells #[.string sz, .int .i64 0] 55)
        refine ⟨hS.kp.trans kn (fun _ _ h => h), fun e1 => ?_, fun _ => ⟨?_, hS.kp.size⟩, fun e1 _ => ?_⟩
        · have a := hS.eye (by simpa [bitsAt, upd] using e1)
          exact ⟨a.1.kept kn (fun _ _ h => h), a.2⟩
        · have hb := Blk.new wq 55 [.string sz, .int .i64 0]
          show Blk _ _ _ [.string (st zs), .int .i64 0]
          rw [HSZ.out]
          exact hb
        · have a := hS.eye (by simpa [bitsAt, upd] using e1)
          have := a.1.lt
          show g.1 ≠ wq.heap.size
          omega
      refine GFrom.cons (GStep.val _ rfl rfl _ rfl (fun g => .pointer (some ⟨g.1, 0, none⟩)) (fun _ => rfl) (fun _ => trivial) (fun bs g ev wq hS he hr => ?_)) ?_
      · have r0 : ev (.tmp 32) = .pointer (some ⟨g.1, 0, none⟩) := hr (32, some 1) (by simp); have hk := he.1; clear hr he
        go_simp
      refine GFrom.cons (GStep.val _ rfl rfl _ rfl (fun g => .pointer (some ⟨g.2, 0, none⟩)) (fun _ => rfl) (fun _ => trivial) (fun bs g ev wq hS he hr => ?_)) ?_
      · have r0 : ev (.tmp 36) = .pointer (some ⟨g.2, 0, none⟩) := hr (36, some 5) (by simp); have hk := he.1; clear hr he
        go_simp
      exact GFrom.nil
    case hS => exact ⟨(Kp.refl Nb w5b).drew, fun h => by simp at h, fun h => by simp at h, fun h => by simp at h⟩
    case hend =>
    intro g w6 h6
    obtain ⟨E, X⟩ := g
    have a1 := h6.eye (by simp)
    have a2 := h6.ref (by simp)
    have NE := hid (h6.ne (by simp) (by simp))
    dsimp only at a1 a2 NE
    have k6 := h6.kp
    have HEY := hid (EyeOn.of a1.1 w6.heap.size (Nat.le_refl _))
    have HX6 := hid a2.1
    have HEX : Hid (w5b.heap.size ≤ E ∧ w5b.heap.size ≤ X ∧ X < w6.heap.size) := hid ⟨a1.2, a2.2, Blk.lt a2.1⟩
    have HP6 := hid (HP5.out.kept k6 (fun h => h) (fun _ _ h => h))
    have HPT6 : Hid (P < w5b.heap.size ∧ ∀ g, vP.ownBlock = some g → g < w5b.heap.size) := hid ⟨HP5.out.lt, fun g hg => (HP5.out.own.lt g hg).2⟩
    have K6 := hid (K5.out.trans k6 (fun _ _ h => h))
    clear a1 a2 k6 h6 CV RD HV5 HP5
    simp only [putAll, List.zip_cons_cons, List.zip_nil_right, List.foldl_cons, List.foldl_nil, Act.put, List.setIfInBounds_toArray, List.set_cons_zero, List.set_cons_succ]
    go_wp2_with fail
    have C := mget_any E zs 0 w6 (S := fun i => i = E ∨ w6.heap.size ≤ i) (fun i => Iff.rfl) HEY.out (by have := HNB.out; have := HBD.out; omega) ⟨(readN_topM zs HZB.out).1, (readN_topM zs HZB.out).2.1⟩
    have hgl := getM_len zs HZB.out
    have CG := hid (fun W h => rgm_any X zs W h HZB.out)
    obtain ⟨⟨L3, z3, e3⟩, hG⟩ : ∃ g, getM zs 0 = g := ⟨_, rfl⟩
    rw [hG] at C hgl CG
    dsimp only at C hgl CG
    refine C.mono ?_
    rintro r w7 ⟨vg, rfl, hm, ho, he, k7⟩
    have HX7 := hid (HX6.out.kept k7 (fun h => NE.out h.symm))
    have HM7 := hid hm
    have HO7 := hid ho
    have HE7 : Hid (EyeAt w7 E z3 e3) := hid (EyeOn.at he (fun i h => .inl h))
    have HP7 := hid (HP6.out.kept k7 (fun h => by have : P = E := h; have := HPT6.out.1; have := HEX.out.1; omega) (fun g hg h => by have : g = E := h; have := HPT6.out.2 g hg; have := HEX.out.1; omega))
    have K7 : Hid (Kp Nb w w7) := hid (K6.out.trans k7 (fun i hi h => by have : i = E := h; have := HEX.out.1; have := K5.out.size; omega))
    have HGL := hid hgl
    obtain ⟨nG, hnG⟩ : ∃ n, L3.length = n := ⟨_, rfl⟩
    have HNG := hid hnG
    obtain ⟨pg, dg, e⟩ := hm.shape
    rw [hnG] at e
    subst e
    clear C hm ho he k7 hgl hnG hG HEY HX6 HP6 K6
    go_wp2_with fail
    refine (CG.out w7 HX7.out).mono ?_
    rintro r w8 ⟨vi, rfl, hm2, r2, k8⟩
    have HM8 : Hid (MkSl w8 (.slice pg nG dg) L3) := hid (HM7.out.keptV k8 (fun g hg h => by have : g = X := h; have := (HO7.out g hg).1; have := HEX.out.2.2; omega))
    have HI8 := hid hm2
    have X8' := hid r2
    have E8 := hid (HE7.out.besideB HX7.out NE.out k8)
    have HP8 := hid (HP7.out.kept k8 (fun h => by have : P = X := h; have := HPT6.out.1; have := HEX.out.2.1; omega) (fun g hg h => by have : g = X := h; have := HPT6.out.2 g hg; have := HEX.out.2.1; omega))
    have K8 : Hid (Kp Nb w w8) := hid (K7.out.trans k8 (fun i hi h => by have : i = X := h; have := HEX.out.2.1; have := K5.out.size; omega))
    obtain ⟨pi, di, e⟩ := hm2.shape
    rw [HNG.out] at e
    subst e
    have HL8 := hid (HL.out.kept K8.out)
    clear hm2 r2 k8 HE7 HP7 K7 HX7 HM7 CG
    have S3 := hid (st_size z3)
    obtain ⟨s3, hs3⟩ : ∃ s, st z3 = s := ⟨_, rfl⟩
    have X8 : Hid (Blk w8 X 55 [.string s3, .int .i64 e3]) := hid (by rw [← hs3]; exact X8'.out)
    rw [hs3] at S3
    clear hs3 X8'
    have CR : Hid (∀ wq, Kp Nb w8 wq → Calls Try.prog 12 #[.slice yl nL dl] wq fun e w' => e = .returned (.bool true) ∧ Kp Nb wq w') := hid (fun wq k => by rw [← HRB.out]; exact rset_any _ ms wq (HL8.out.kept k) (by have := HNL.out; have := HBD.out; omega))
    have CS : Hid (∀ wq, Kp Nb w8 wq → Calls Try.prog 13 #[.slice pg nG dg, .slice pi nG di] wq fun e w' => e = .returned (.bool true) ∧ Kp Nb wq w') := hid (fun wq k => by
      have h := rsm_any _ _ L3 L3 wq (HM8.out.kept k) (HI8.out.kept k) (by have := HGL.out; omega)
      rwa [decide_eq_true rfl] at h)
    have EQX : Hid (((sW).toList == (sW).toList) = true) := hid (beq_self_eq_true _)
    go_upto_region 11 with fail
    refine region_ghost (g0 := (undef : Value)) [none, none, none, none, some 35, none, none, none, none, none, none, none, none, none, none, none, none, none, none, none, none, none, none, none, none, none, none, none, none, none, none, none, none, none, none, none, none, none, none, none, none, some 0, some 1, some 2, some 3, some 4, some 5, some 6, some 7, some 8, some 9, some 10, some 11, some 12, some 13, some 14, some 15, some 16, some 17, some 18, some 19, some 20, some 21, some 22, some 23, some 24, some 25, some 26, some 27, some 28, some 29, some 30, some 31, some 32, some 33, some 34] [[(6, none)], [(0, none)], [(42, some 1)], [(41, some 0), (43, some 2)], [(44, some 3)], [(5, none)], [(46, some 5)], [(47, some 6)], [(7, none)], [(48, some 7), (49, some 8)], [(45, some 4), (50, some 9)], [(51, some 10)], [(10, none)], [(11, none)], [(53, some 12), (54, some 13)], [(52, some 11), (55, some 14)], [(56, some 15)], [(8, none)], [(58, some 17)], [(9, none)], [(60, some 19)], [(61, some 20)], [(62, some 21)], [(59, some 18), (63, some 22)], [(57, some 16), (64, some 23)], [(65, some 24)], [(8, none)], [(67, some 26)], [(9, none)], [(69, some 28)], [(70, some 29)], [(71, some 30)], [(72, some 31)], [(68, some 27), (73, some 32)], [(66, some 25), (74, some 33)], [(75, some 34)]] [some 41, some 42, some 43, some 44, some 45, some 46, some 47, some 48, some 49, some 50, some 51, some 52, some 53, some 54, some 55, some 56, some 57, some 58, some 59, some 60, some 61, some 62, some 63, some 64, some 65, some 66, some 67, some 68, some 69, some 70, some 71, some 72, some 73, some 74, some 75, some 4] (fun g => [.bool true, .slice yl nL dl, .bool true, .bool true, .bool true, .pointer (some ⟨P, 0, none⟩), g, .string sW, .string sW, .bool true, .bool true, .bool true, .slice pg nG dg, .slice pi nG di, .bool true, .bool true, .bool true, .pointer (some ⟨E, 0, none⟩), .int .i64 e3, .pointer (some ⟨X, 0, none⟩), .pointer (some ⟨X, 0, none⟩), .pointer (some ⟨X, 1, none⟩), .int .i64 e3, .bool true, .bool true, .bool true, .pointer (some ⟨E, 0, none⟩), .int .i64 (z3.length : Int), .pointer (some ⟨X, 0, none⟩), .pointer (some ⟨X, 0, none⟩), .pointer (some ⟨X, 0, none⟩), .string s3, .int .i64 (z3.length : Int), .bool true, .bool true, .bool true]) [6] (RpB w8 zsP) (by kernel_rfl) (by kernel_rfl) (fun g => by kernel_rfl) (by kernel_rfl) ?hS (GFrom.all (n := 36) (by kernel_rfl) ?hstep) ?hend
    case hstep =>
      refine GFrom.cons (GStep.val _ rfl rfl _ rfl (fun g => .bool true) (fun _ => rfl) (fun _ => trivial) (fun bs g ev wq hS he hr => ?_)) ?_
      · have r0 : ev (.tmp 6) = .bool true := hr (6, none) (by simp); have hk := he.1; clear hr he
        go_simp
      refine GFrom.cons (GStep.val _ rfl rfl _ rfl (fun g => .slice yl nL dl) (fun _ => rfl) (fun _ => trivial) (fun bs g ev wq hS he hr => ?_)) ?_
      · have r0 : ev (.tmp 0) = .slice yl nL dl := hr (0, none) (by simp); have hk := he.1; clear hr he
        go_simp
      refine GFrom.cons (GStep.call _ rfl rfl _ rfl (fun g => .bool true) (fun _ => rfl) (fun _ => trivial) 12 (fun g => #[.slice yl nL dl]) (fun bs g ev wq hS he hr => ?_) (fun L g wq hd hL hS => ?_)) ?_
      · have r0 : ev (.tmp 42) = .slice yl nL dl := hr (42, some 1) (by simp); have hk := he.1; have hf := he.2; clear hr he
        go_simp
      · exact (CR.out wq hS.kp).mono fun e w' ⟨h1, h2⟩ => ⟨h1, hS.step h2⟩
      refine GFrom.cons (GStep.val _ rfl rfl _ rfl (fun g => .bool true) (fun _ => rfl) (fun _ => trivial) (fun bs g ev wq hS he hr => ?_)) ?_
      · have r0 : ev (.tmp 41) = .bool true := hr (41, some 0) (by simp); have r1 : ev (.tmp 43) = .bool true := hr (43, some 2) (by simp); have hk := he.1; clear hr he
        go_simp
      refine GFrom.cons (GStep.val _ rfl rfl _ rfl (fun g => .bool true) (fun _ => rfl) (fun _ => trivial) (fun bs g ev wq hS he hr => ?_)) ?_
      · have r0 : ev (.tmp 44) = .bool true := hr (44, some 3) (by simp); have hk := he.1; clear hr he
        go_simp
      refine GFrom.cons (GStep.val _ rfl rfl _ rfl (fun g => .pointer (some ⟨P, 0, none⟩)) (fun _ => rfl) (fun _ => rfl) (fun bs g ev wq hS he hr => ?_)) ?_
      · have r0 : ev (.tmp 5) = .pointer (some ⟨P, 0, none⟩) := hr (5, none) (by simp); have hk := he.1; clear hr he
        go_simp
      refine GFrom.cons (GStep.callm _ rfl _ rfl (fun _ => rfl) 32 (fun g => #[.pointer (some ⟨P, 0, none⟩)]) (fun bs g ev wq hS he hr => ?_) (fun L g wq hL hd hcl hS => ?_)) ?_
      · have r0 : ev (.tmp 46) = .pointer (some ⟨P, 0, none⟩) := hr (46, some 5) (by simp); have hk := he.1; have hf := he.2; clear hr he
        go_simp
      · refine (pen_bytes P vP _ wq (HP8.out.kept hS.kp (fun h => h) (fun _ _ h => h)) HPL.out).mono ?_
        rintro e w' ⟨r, rfl, ow, kn⟩
        refine ⟨r, r, rfl, rfl, old_set1B r hL rfl, ?_⟩
        exact ⟨hS.kp.trans kn (fun _ _ h => h), fun _ => BySl.ofOwn ow HP8.out.bytes (fun _ _ _ h => h)⟩
      refine GFrom.cons (GStep.make _ rfl _ rfl (fun _ => rfl) (fun L g ev wq hL hd hcl hS he hr => ?_)) ?_
      · have r0 : ev (.tmp 47) = g := hr (47, some 6) (by simp); clear hr he
        have l6 : L 6 = true := hd 6 (by kernel_rfl)
        have hb := hS.by' (by simpa [bitsAt] using l6)
        obtain ⟨yg, cg, eg⟩ := BySl.sizeB hb
        have e1 := (conv_any hb).trans (by rw [HSW.out])
        rw [eg] at r0 e1
        exact ⟨.string sW, g, wq, by go_simp, rfl, fun _ _ => rfl, by rw [bitsAt_upd rfl]; exact hS⟩
      refine GFrom.cons (GStep.val _ rfl rfl _ rfl (fun g => .string sW) (fun _ => rfl) (fun _ => rfl) (fun bs g ev wq hS he hr => ?_)) ?_
      · have r0 : ev (.tmp 7) = .string sW := hr (7, none) (by simp); have hk := he.1; clear hr he
        go_simp
      refine GFrom.cons (GStep.val _ rfl rfl _ rfl (fun g => .bool true) (fun _ => rfl) (fun _ => rfl) (fun bs g ev wq hS he hr => ?_)) ?_
      · have r0 : ev (.tmp 48) = .string sW := hr (48, some 7) (by simp); have r1 : ev (.tmp 49) = .string sW := hr (49, some 8) (by simp); have hk := he.1; clear hr he
        have e1 := EQX.out
        go_simp
      refine GFrom.cons (GStep.val _ rfl rfl _ rfl (fun g => .bool true) (fun _ => rfl) (fun _ => trivial) (fun bs g ev wq hS he hr => ?_)) ?_
      · have r0 : ev (.tmp 45) = .bool true := hr (45, some 4) (by simp); have r1 : ev (.tmp 50) = .bool true := hr (50, some 9) (by simp); have hk := he.1; clear hr he
        go_simp
      refine GFrom.cons (GStep.val _ rfl rfl _ rfl (fun g => .bool true) (fun _ => rfl) (fun _ => trivial) (fun bs g ev wq hS he hr => ?_)) ?_
      · have r0 : ev (.tmp 51) = .bool true := hr (51, some 10) (by simp); have hk := he.1; clear hr he
        go_simp
      refine GFrom.cons (GStep.val _ rfl rfl _ rfl (fun g => .slice pg nG dg) (fun _ => rfl) (fun _ => rfl) (fun bs g ev wq hS he hr => ?_)) ?_
      · have r0 : ev (.tmp 10) = .slice pg nG dg := hr (10, none) (by simp); have hk := he.1; clear hr he
        go_simp
      refine GFrom.cons (GStep.val _ rfl rfl _ rfl (fun g => .slice pi nG di) (fun _ => rfl) (fun _ => rfl) (fun bs g ev wq hS he hr => ?_)) ?_
      · have r0 : ev (.tmp 11) = .slice pi nG di := hr (11, none) (by simp); have hk := he.1; clear hr he
        go_simp
      refine GFrom.cons (GStep.call _ rfl rfl _ rfl (fun g => .bool true) (fun _ => rfl) (fun _ => rfl) 13 (fun g => #[.slice pg nG dg, .slice pi nG di]) (fun bs g ev wq hS he hr => ?_) (fun L g wq hd hL hS => ?_)) ?_
      · have r0 : ev (.tmp 53) = .slice pg nG dg := hr (53, some 12) (by simp); have r1 : ev (.tmp 54) = .slice pi nG di := hr (54, some 13) (by simp); have hk := he.1; have hf := he.2; clear hr he
        go_simp
      · exact (CS.out wq hS.kp).mono fun e w' ⟨h1, h2⟩ => ⟨h1, hS.step h2⟩
      refine GFrom.cons (GStep.val _ rfl rfl _ rfl (fun g => .bool true) (fun _ => rfl) (fun _ => trivial) (fun bs g ev wq hS he hr => ?_)) ?_
      · have r0 : ev (.tmp 52) = .bool true := hr (52, some 11) (by simp); have r1 : ev (.tmp 55) = .bool true := hr (55, some 14) (by simp); have hk := he.1; clear hr he
        go_simp
      refine GFrom.cons (GStep.val _ rfl rfl _ rfl (fun g => .bool true) (fun _ => rfl) (fun _ => trivial) (fun bs g ev wq hS he hr => ?_)) ?_
      · have r0 : ev (.tmp 56) = .bool true := hr (56, some 15) (by simp); have hk := he.1; clear hr he
        go_simp
      refine GFrom.cons (GStep.val _ rfl rfl _ rfl (fun g => .pointer (some ⟨E, 0, none⟩)) (fun _ => rfl) (fun _ => rfl) (fun bs g ev wq hS he hr => ?_)) ?_
      · have r0 : ev (.tmp 8) = .pointer (some ⟨E, 0, none⟩) := hr (8, none) (by simp); have hk := he.1; clear hr he
        go_simp
      refine GFrom.cons (GStep.call _ rfl rfl _ rfl (fun g => .int .i64 e3) (fun _ => rfl) (fun _ => rfl) 33 (fun g => #[.pointer (some ⟨E, 0, none⟩)]) (fun bs g ev wq hS he hr => ?_) (fun L g wq hd hL hS => ?_)) ?_
      · have r0 : ev (.tmp 58) = .pointer (some ⟨E, 0, none⟩) := hr (58, some 17) (by simp); have hk := he.1; have hf := he.2; clear hr he
        go_simp
      · exact (err_any E z3 e3 wq (E8.out.kept hS.kp (fun _ _ h => h))).mono fun e w' ⟨h1, h2⟩ => ⟨h1, by rw [← h2]; exact hS⟩
      refine GFrom.cons (GStep.val _ rfl rfl _ rfl (fun g => .pointer (some ⟨X, 0, none⟩)) (fun _ => rfl) (fun _ => rfl) (fun bs g ev wq hS he hr => ?_)) ?_
      · have r0 : ev (.tmp 9) = .pointer (some ⟨X, 0, none⟩) := hr (9, none) (by simp); have hk := he.1; clear hr he
        go_simp
      refine GFrom.cons (GStep.val _ rfl rfl _ rfl (fun g => .pointer (some ⟨X, 0, none⟩)) (fun _ => rfl) (fun _ => rfl) (fun bs g ev wq hS he hr => ?_)) ?_
      · have r0 : ev (.tmp 60) = .pointer (some ⟨X, 0, none⟩) := hr (60, some 19) (by simp); have hk := he.1; clear hr he
        go_simp
      refine GFrom.cons (GStep.val _ rfl rfl _ rfl (fun g => .pointer (some ⟨X, 1, none⟩)) (fun _ => rfl) (fun _ => rfl) (fun bs g ev wq hS he hr => ?_)) ?_
      · have r0 : ev (.tmp 61) = .pointer (some ⟨X, 0, none⟩) := hr (61, some 20) (by simp); have hk := he.1; clear hr he
        go_simp
      refine GFrom.cons (GStep.val _ rfl rfl _ rfl (fun g => .int .i64 e3) (fun _ => rfl) (fun _ => rfl) (fun bs g ev wq hS he hr => ?_)) ?_
      · have r0 : ev (.tmp 62) = .pointer (some ⟨X, 1, none⟩) := hr (62, some 21) (by simp); have hk := he.1; clear hr he
        have c0 := (X8.out.kept hS.kp (fun h => h)).cell 1
        go_simp
      refine GFrom.cons (GStep.val _ rfl rfl _ rfl (fun g => .bool true) (fun _ => rfl) (fun _ => rfl) (fun bs g ev wq hS he hr => ?_)) ?_
      · have r0 : ev (.tmp 59) = .int .i64 e3 := hr (59, some 18) (by simp); have r1 : ev (.tmp 63) = .int .i64 e3 := hr (63, some 22) (by simp); have hk := he.1; clear hr he
        go_simp
      refine GFrom.cons (GStep.val _ rfl rfl _ rfl (fun g => .bool true) (fun _ => rfl) (fun _ => trivial) (fun bs g ev wq hS he hr => ?_)) ?_
      · have r0 : ev (.tmp 57) = .bool true := hr (57, some 16) (by simp); have r1 : ev (.tmp 64) = .bool true := hr (64, some 23) (by simp); have hk := he.1; clear hr he
        go_simp
      refine GFrom.cons (GStep.val _ rfl rfl _ rfl (fun g => .bool true) (fun _ => rfl) (fun _ => trivial) (fun bs g ev wq hS he hr => ?_)) ?_
      · have r0 : ev (.tmp 65) = .bool true := hr (65, some 24) (by simp); have hk := he.1; clear hr he
        go_simp
      refine GFrom.cons (GStep.val _ rfl rfl _ rfl (fun g => .pointer (some ⟨E, 0, none⟩)) (fun _ => rfl) (fun _ => rfl) (fun bs g ev wq hS he hr => ?_)) ?_
      · have r0 : ev (.tmp 8) = .pointer (some ⟨E, 0, none⟩) := hr (8, none) (by simp); have hk := he.1; clear hr he
        go_simp
      refine GFrom.cons (GStep.call _ rfl rfl _ rfl (fun g => .int .i64 (z3.length : Int)) (fun _ => rfl) (fun _ => rfl) 34 (fun g => #[.pointer (some ⟨E, 0, none⟩)]) (fun bs g ev wq hS he hr => ?_) (fun L g wq hd hL hS => ?_)) ?_
      · have r0 : ev (.tmp 67) = .pointer (some ⟨E, 0, none⟩) := hr (67, some 26) (by simp); have hk := he.1; have hf := he.2; clear hr he
        go_simp
      · exact (left_any E z3 e3 wq (E8.out.kept hS.kp (fun _ _ h => h))).mono fun e w' ⟨h1, h2⟩ => ⟨h1, by rw [← h2]; exact hS⟩
      refine GFrom.cons (GStep.val _ rfl rfl _ rfl (fun g => .pointer (some ⟨X, 0, none⟩)) (fun _ => rfl) (fun _ => rfl) (fun bs g ev wq hS he hr => ?_)) ?_
      · have r0 : ev (.tmp 9) = .pointer (some ⟨X, 0, none⟩) := hr (9, none) (by simp); have hk := he.1; clear hr he
        go_simp
      refine GFrom.cons (GStep.val _ rfl rfl _ rfl (fun g => .pointer (some ⟨X, 0, none⟩)) (fun _ => rfl) (fun _ => rfl) (fun bs g ev wq hS he hr => ?_)) ?_
      · have r0 : ev (.tmp 69) = .pointer (some ⟨X, 0, none⟩) := hr (69, some 28) (by simp); have hk := he.1; clear hr he
        go_simp
      refine GFrom.cons (GStep.val _ rfl rfl _ rfl (fun g => .pointer (some ⟨X, 0, none⟩)) (fun _ => rfl) (fun _ => rfl) (fun bs g ev wq hS he hr => ?_)) ?_
      · have r0 : ev (.tmp 70) = .pointer (some ⟨X, 0, none⟩) := hr (70, some 29) (by simp); have hk := he.1; clear hr he
        go_simp
      refine GFrom.cons (GStep.val _ rfl rfl _ rfl (fun g => .string s3) (fun _ => rfl) (fun _ => rfl) (fun bs g ev wq hS he hr => ?_)) ?_
      · have r0 : ev (.tmp 71) = .pointer (some ⟨X, 0, none⟩) := hr (71, some 30) (by simp); have hk := he.1; clear hr he
        have c0 := (X8.out.kept hS.kp (fun h => h)).cell 0
        go_simp
      refine GFrom.cons (GStep.val _ rfl rfl _ rfl (fun g => .int .i64 (z3.length : Int)) (fun _ => rfl) (fun _ => rfl) (fun bs g ev wq hS he hr => ?_)) ?_
      · have r0 : ev (.tmp 72) = .string s3 := hr (72, some 31) (by simp); have hk := he.1; clear hr he
        have e1 := S3.out
        go_simp
      refine GFrom.cons (GStep.val _ rfl rfl _ rfl (fun g => .bool true) (fun _ => rfl) (fun _ => rfl) (fun bs g ev wq hS he hr => ?_)) ?_
      · have r0 : ev (.tmp 68) = .int .i64 (z3.length : Int) := hr (68, some 27) (by simp); have r1 : ev (.tmp 73) = .int .i64 (z3.length : Int) := hr (73, some 32) (by simp); have hk := he.1; clear hr he
        go_simp
      refine GFrom.cons (GStep.val _ rfl rfl _ rfl (fun g => .bool true) (fun _ => rfl) (fun _ => trivial) (fun bs g ev wq hS he hr => ?_)) ?_
      · have r0 : ev (.tmp 66) = .bool true := hr (66, some 25) (by simp); have r1 : ev (.tmp 74) = .bool true := hr (74, some 33) (by simp); have hk := he.1; clear hr he
        go_simp
      refine GFrom.cons (GStep.val _ rfl rfl _ rfl (fun g => .bool true) (fun _ => rfl) (fun _ => trivial) (fun bs g ev wq hS he hr => ?_)) ?_
      · have r0 : ev (.tmp 75) = .bool true := hr (75, some 34) (by simp); have hk := he.1; clear hr he
        go_simp
      exact GFrom.nil
    case hS => exact ⟨(Kp.refl Nb w8).drew, fun h => by simp at h⟩
    case hend =>
    intro g w9 h9
    have K9 := hid (K8.out.trans h9.kp (fun _ _ h => h))
    clear h9
    simp only [putAll, List.zip_cons_cons, List.zip_nil_right, List.foldl_cons, List.foldl_nil, Act.put, List.setIfInBounds_toArray, List.set_cons_zero, List.set_cons_succ]
    go_wp2
    go_ret
    exact ⟨rfl, K9.out⟩
  | false =>
    obtain ⟨zsP, hzP⟩ : ∃ z : List Int, [] = z := ⟨_, rfl⟩
    have HP5 : Hid (PenAt w5 P vP zsP) := by rw [← hzP]; exact HP5
    have HPL : Hid (zsP.length ≤ 140737488355328) := hid (by rw [← hzP]; exact Nat.zero_le _)
    have HSW : Hid (st zsP = st []) := hid (by rw [← hzP])
    clear hzP
    have HV5 := hid (HV.out.kept K5.out (fun _ h => h))
    have CV : Hid (∀ W, Kp Nb w5 W → (convert 45 9 (.slice y nB d)).run Try.prog W = .ok (.string sz) W) := hid (fun W k => by rw [← HSZ.out]; exact conv_any (HV5.out.kept k (fun _ h => h)))
    have RD : Hid (∀ W, Kp Nb w5 W → Calls Try.prog 29 #[.slice y nB d] W fun e w' => ∃ B, W.heap.size ≤ B ∧ e = .returned (.pointer (some ⟨B, 0, none⟩)) ∧ EyeAt w' B zs 0 ∧ Kp Nb W w') := hid (fun W k => read_any (S := Nb) _ zs W (HV5.out.kept k (fun _ h => h)) (by have := HNB.out; have := HBD.out; omega))
    go_upto_region 9 with fail
    refine region_ghost (g0 := ((0, 0) : Nat × Nat)) [none, none, none, none, none, none, none, none, some 6, some 7, none, none, none, none, none, none, none, none, none, none, none, none, none, none, none, none, none, none, none, none, none, some 0, some 1, some 2, some 3, some 4, some 5, none, none, none, none, none, none, none, none, none, none, none, none, none, none, none, none, none, none, none, none, none, none, none, none, none, none, none, none, none, none, none, none, none, none, none, none, none, none, none] [[(1, none)], [(31, some 0)], [(1, none)], [(33, some 2)], [(34, some 3)], [(35, some 4)], [(32, some 1)], [(36, some 5)]] [some 31, some 32, some 33, some 34, some 35, some 36, some 8, some 9] (fun g => [.slice y nB d, .pointer (some ⟨g.1, 0, none⟩), .slice y nB d, .string sz, .agg #[.string sz, .int .i64 0], .pointer (some ⟨g.2, 0, none⟩), .pointer (some ⟨g.1, 0, none⟩), .pointer (some ⟨g.2, 0, none⟩)]) [1, 5] (RdB w5 zs) (by kernel_rfl) (by kernel_rfl) (fun g => by kernel_rfl) (by kernel_rfl) ?hS (GFrom.all (n := 8) (by kernel_rfl) ?hstep) ?hend
    case hstep =>
      refine GFrom.cons (GStep.val _ rfl rfl _ rfl (fun g => .slice y nB d) (fun _ => rfl) (fun _ => trivial) (fun bs g ev wq hS he hr => ?_)) ?_
      · have r0 : ev (.tmp 1) = .slice y nB d := hr (1, none) (by simp); have hk := he.1; clear hr he
        go_simp
      refine GFrom.cons (GStep.callm _ rfl _ rfl (fun _ => trivial) 29 (fun g => #[.slice y nB d]) (fun bs g ev wq hS he hr => ?_) (fun L g wq hL hd hcl hS => ?_)) ?_
      · have r0 : ev (.tmp 31) = .slice y nB d := hr (31, some 0) (by simp); have hk := he.1; have hf := he.2; clear hr he
        go_simp
      · refine (RD.out wq hS.kp).mono ?_
        rintro e w' ⟨Bq, hB, rfl, hey, kn⟩
        have l6 : L 6 = false := by
          cases h : L 6 with
          | false => rfl
          | true => have := hcl 6 _ rfl h 1 (by kernel_rfl); rw [hL] at this; cases this
        refine ⟨_, (Bq, g.2), rfl, rfl, old_set2B (.pointer (some ⟨Bq, 0, none⟩)) (.pointer (some ⟨Bq, 0, none⟩)) hL l6 rfl, ?_⟩
        refine ⟨hS.kp.trans kn (fun _ _ h => h), fun _ => ⟨hey, Nat.le_trans hS.kp.size hB⟩, fun e1 => ?_, fun _ e2 => ?_⟩
        · have a := hS.ref (by simpa [bitsAt, upd] using e1)
          exact ⟨a.1.kept kn (fun h => h), a.2⟩
        · have a := hS.ref (by simpa [bitsAt, upd] using e2)
          have := Blk.lt a.1
          show Bq ≠ g.2
          omega
      refine GFrom.cons (GStep.val _ rfl rfl _ rfl (fun g => .slice y nB d) (fun _ => rfl) (fun _ => trivial) (fun bs g ev wq hS he hr => ?_)) ?_
      · have r0 : ev (.tmp 1) = .slice y nB d := hr (1, none) (by simp); have hk := he.1; clear hr he
        go_simp
      refine GFrom.cons (GStep.val _ rfl rfl _ rfl (fun g => .string sz) (fun _ => rfl) (fun _ => trivial) (fun bs g ev wq hS he hr => ?_)) ?_
      · have r0 : ev (.tmp 33) = .slice y nB d := hr (33, some 2) (by simp); have hk := he.1; clear hr he
        have e1 := CV.out wq hS.kp
        go_simp
      refine GFrom.cons (GStep.val _ rfl rfl _ rfl (fun g => .agg #[.string sz, .int .i64 0]) (fun _ => rfl) (fun _ => trivial) (fun bs g ev wq hS he hr => ?_)) ?_
      · have r0 : ev (.tmp 34) = .string sz := hr (34, some 3) (by simp); have hk := he.1; clear hr he
        go_simp
      refine GFrom.cons (GStep.make _ rfl _ rfl (fun _ => trivial) (fun L g ev wq hL hd hcl hS he hr => ?_)) ?_
      · have r0 : ev (.tmp 35) = .agg #[.string sz, .int .i64 0] := hr (35, some 4) (by simp); clear hr he
        have l7 : L 7 = false := by
          cases h : L 7 with
          | false => rfl
          | true => have := hcl 7 _ rfl h 5 (by kernel_rfl); rw [hL] at this; cases this
        refine ⟨.pointer (some ⟨wq.heap.size, 0, none⟩), (g.1, wq.heap.size), wq.alloc (.cells #[.string sz, .int .i64 0] 55), by go_simp, rfl, old_set2B (.pointer (some ⟨wq.heap.size, 0, none⟩)) (.pointer (some ⟨wq.heap.size, 0, none⟩)) hL l7 rfl, ?_⟩
        have kn := (Kp.refl Nb wq).alloc (.cells #[.string sz, .int .i64 0] 55)
        refine ⟨hS.kp.trans kn (fun _ _ h => h), fun e1 => ?_, fun _ => ⟨?_, hS.kp.size⟩, fun e1 _ => ?_⟩
        · have a := hS.eye (by simpa [bitsAt, upd] using e1)
          exact ⟨a.1.kept kn (fun _ _ h => h), a.2⟩
        · have hb := Blk.new wq 55 [.string sz, .int .i64 0]
          show Blk _ _ _ [.string (st zs), .int .i64 0]
          rw [HSZ.out]
          exact hb
        · have a := hS.eye (by simpa [bitsAt, upd] using e1)
          have := a.1.lt
          show g.1 ≠ wq.heap.size
          omega
      refine GFrom.cons (GStep.val _ rfl rfl _ rfl (fun g => .pointer (some ⟨g.1, 0, none⟩)) (fun _ => rfl) (fun _ => trivial) (fun bs g ev wq hS he hr => ?_)) ?_
      · have r0 : ev (.tmp 32) = .pointer (some ⟨g.1, 0, none⟩) := hr (32, some 1) (by simp); have hk := he.1; clear hr he
        go_simp
      refine GFrom.cons (GStep.val _ rfl rfl _ rfl (fun g => .pointer (some ⟨g.2, 0, none⟩)) (fun _ => rfl) (fun _ => trivial) (fun bs g ev wq hS he hr => ?_)) ?_
      · have r0 : ev (.tmp 36) = .pointer (some ⟨g.2, 0, none⟩) := hr (36, some 5) (by simp); have hk := he.1; clear hr he
        go_simp
      exact GFrom.nil
    case hS => exact ⟨(Kp.refl Nb w5).drew, fun h => by simp at h, fun h => by simp at h, fun h => by simp at h⟩
    case hend =>
    intro g w6 h6
    obtain ⟨E, X⟩ := g
    have a1 := h6.eye (by simp)
    have a2 := h6.ref (by simp)
    have NE := hid (h6.ne (by simp) (by simp))
    dsimp only at a1 a2 NE
    have k6 := h6.kp
    have HEY := hid (EyeOn.of a1.1 w6.heap.size (Nat.le_refl _))
    have HX6 := hid a2.1
    have HEX : Hid (w5.heap.size ≤ E ∧ w5.heap.size ≤ X ∧ X < w6.heap.size) := hid ⟨a1.2, a2.2, Blk.lt a2.1⟩
    have HP6 := hid (HP5.out.kept k6 (fun h => h) (fun _ _ h => h))
    have HPT6 : Hid (P < w5.heap.size ∧ ∀ g, vP.ownBlock = some g → g < w5.heap.size) := hid ⟨HP5.out.lt, fun g hg => (HP5.out.own.lt g hg).2⟩
    have K6 := hid (K5.out.trans k6 (fun _ _ h => h))
    clear a1 a2 k6 h6 CV RD HV5 HP5
    simp only [putAll, List.zip_cons_cons, List.zip_nil_right, List.foldl_cons, List.foldl_nil, Act.put, List.setIfInBounds_toArray, List.set_cons_zero, List.set_cons_succ]
    go_wp2_with fail
    have C := mget_any E zs 0 w6 (S := fun i => i = E ∨ w6.heap.size ≤ i) (fun i => Iff.rfl) HEY.out (by have := HNB.out; have := HBD.out; omega) ⟨(readN_topM zs HZB.out).1, (readN_topM zs HZB.out).2.1⟩
    have hgl := getM_len zs HZB.out
    have CG := hid (fun W h => rgm_any X zs W h HZB.out)
    obtain ⟨⟨L3, z3, e3⟩, hG⟩ : ∃ g, getM zs 0 = g := ⟨_, rfl⟩
    rw [hG] at C hgl CG
    dsimp only at C hgl CG
    refine C.mono ?_
    rintro r w7 ⟨vg, rfl, hm, ho, he, k7⟩
    have HX7 := hid (HX6.out.kept k7 (fun h => NE.out h.symm))
    have HM7 := hid hm
    have HO7 := hid ho
    have HE7 : Hid (EyeAt w7 E z3 e3) := hid (EyeOn.at he (fun i h => .inl h))
    have HP7 := hid (HP6.out.kept k7 (fun h => by have : P = E := h; have := HPT6.out.1; have := HEX.out.1; omega) (fun g hg h => by have : g = E := h; have := HPT6.out.2 g hg; have := HEX.out.1; omega))
    have K7 : Hid (Kp Nb w w7) := hid (K6.out.trans k7 (fun i hi h => by have : i = E := h; have := HEX.out.1; have := K5.out.size; omega))
    have HGL := hid hgl
    obtain ⟨nG, hnG⟩ : ∃ n, L3.length = n := ⟨_, rfl⟩
    have HNG := hid hnG
    obtain ⟨pg, dg, e⟩ := hm.shape
    rw [hnG] at e
    subst e
    clear C hm ho he k7 hgl hnG hG HEY HX6 HP6 K6
    go_wp2_with fail
    refine (CG.out w7 HX7.out).mono ?_
    rintro r w8 ⟨vi, rfl, hm2, r2, k8⟩
    have HM8 : Hid (MkSl w8 (.slice pg nG dg) L3) := hid (HM7.out.keptV k8 (fun g hg h => by have : g = X := h; have := (HO7.out g hg).1; have := HEX.out.2.2; omega))
    have HI8 := hid hm2
    have X8' := hid r2
    have E8 := hid (HE7.out.besideB HX7.out NE.out k8)
    have HP8 := hid (HP7.out.kept k8 (fun h => by have : P = X := h; have := HPT6.out.1; have := HEX.out.2.1; omega) (fun g hg h => by have : g = X := h; have := HPT6.out.2 g hg; have := HEX.out.2.1; omega))
    have K8 : Hid (Kp Nb w w8) := hid (K7.out.trans k8 (fun i hi h => by have : i = X := h; have := HEX.out.2.1; have := K5.out.size; omega))
    obtain ⟨pi, di, e⟩ := hm2.shape
    rw [HNG.out] at e
    subst e
    have HL8 := hid (HL.out.kept K8.out)
    clear hm2 r2 k8 HE7 HP7 K7 HX7 HM7 CG
    have S3 := hid (st_size z3)
    obtain ⟨s3, hs3⟩ : ∃ s, st z3 = s := ⟨_, rfl⟩
    have X8 : Hid (Blk w8 X 55 [.string s3, .int .i64 e3]) := hid (by rw [← hs3]; exact X8'.out)
    rw [hs3] at S3
    clear hs3 X8'
    have CR : Hid (∀ wq, Kp Nb w8 wq → Calls Try.prog 12 #[.slice yl nL dl] wq fun e w' => e = .returned (.bool false) ∧ Kp Nb wq w') := hid (fun wq k => by rw [← HRB.out]; exact rset_any _ ms wq (HL8.out.kept k) (by have := HNL.out; have := HBD.out; omega))
    have CS : Hid (∀ wq, Kp Nb w8 wq → Calls Try.prog 13 #[.slice pg nG dg, .slice pi nG di] wq fun e w' => e = .returned (.bool true) ∧ Kp Nb wq w') := hid (fun wq k => by
      have h := rsm_any _ _ L3 L3 wq (HM8.out.kept k) (HI8.out.kept k) (by have := HGL.out; omega)
      rwa [decide_eq_true rfl] at h)
    have EQX : Hid ((((st [])).toList == ((st [])).toList) = true) := hid (beq_self_eq_true _)
    go_upto_region 11 with fail
    refine region_ghost (g0 := (undef : Value)) [none, none, none, none, some 35, none, none, none, none, none, none, none, none, none, none, none, none, none, none, none, none, none, none, none, none, none, none, none, none, none, none, none, none, none, none, none, none, none, none, none, none, some 0, some 1, some 2, some 3, some 4, some 5, some 6, some 7, some 8, some 9, some 10, some 11, some 12, some 13, some 14, some 15, some 16, some 17, some 18, some 19, some 20, some 21, some 22, some 23, some 24, some 25, some 26, some 27, some 28, some 29, some 30, some 31, some 32, some 33, some 34] [[(6, none)], [(0, none)], [(42, some 1)], [(41, some 0), (43, some 2)], [(44, some 3)], [(5, none)], [(46, some 5)], [(47, some 6)], [(7, none)], [(48, some 7), (49, some 8)], [(45, some 4), (50, some 9)], [(51, some 10)], [(10, none)], [(11, none)], [(53, some 12), (54, some 13)], [(52, some 11), (55, some 14)], [(56, some 15)], [(8, none)], [(58, some 17)], [(9, none)], [(60, some 19)], [(61, some 20)], [(62, some 21)], [(59, some 18), (63, some 22)], [(57, some 16), (64, some 23)], [(65, some 24)], [(8, none)], [(67, some 26)], [(9, none)], [(69, some 28)], [(70, some 29)], [(71, some 30)], [(72, some 31)], [(68, some 27), (73, some 32)], [(66, some 25), (74, some 33)], [(75, some 34)]] [some 41, some 42, some 43, some 44, some 45, some 46, some 47, some 48, some 49, some 50, some 51, some 52, some 53, some 54, some 55, some 56, some 57, some 58, some 59, some 60, some 61, some 62, some 63, some 64, some 65, some 66, some 67, some 68, some 69, some 70, some 71, some 72, some 73, some 74, some 75, some 4] (fun g => [.bool false, .slice yl nL dl, .bool false, .bool true, .bool true, .pointer (some ⟨P, 0, none⟩), g, .string (st []), .string (st []), .bool true, .bool true, .bool true, .slice pg nG dg, .slice pi nG di, .bool true, .bool true, .bool true, .pointer (some ⟨E, 0, none⟩), .int .i64 e3, .pointer (some ⟨X, 0, none⟩), .pointer (some ⟨X, 0, none⟩), .pointer (some ⟨X, 1, none⟩), .int .i64 e3, .bool true, .bool true, .bool true, .pointer (some ⟨E, 0, none⟩), .int .i64 (z3.length : Int), .pointer (some ⟨X, 0, none⟩), .pointer (some ⟨X, 0, none⟩), .pointer (some ⟨X, 0, none⟩), .string s3, .int .i64 (z3.length : Int), .bool true, .bool true, .bool true]) [6] (RpB w8 zsP) (by kernel_rfl) (by kernel_rfl) (fun g => by kernel_rfl) (by kernel_rfl) ?hS (GFrom.all (n := 36) (by kernel_rfl) ?hstep) ?hend
    case hstep =>
      refine GFrom.cons (GStep.val _ rfl rfl _ rfl (fun g => .bool false) (fun _ => rfl) (fun _ => trivial) (fun bs g ev wq hS he hr => ?_)) ?_
      · have r0 : ev (.tmp 6) = .bool false := hr (6, none) (by simp); have hk := he.1; clear hr he
        go_simp
      refine GFrom.cons (GStep.val _ rfl rfl _ rfl (fun g => .slice yl nL dl) (fun _ => rfl) (fun _ => trivial) (fun bs g ev wq hS he hr => ?_)) ?_
      · have r0 : ev (.tmp 0) = .slice yl nL dl := hr (0, none) (by simp); have hk := he.1; clear hr he
        go_simp
      refine GFrom.cons (GStep.call _ rfl rfl _ rfl (fun g => .bool false) (fun _ => rfl) (fun _ => trivial) 12 (fun g => #[.slice yl nL dl]) (fun bs g ev wq hS he hr => ?_) (fun L g wq hd hL hS => ?_)) ?_
      · have r0 : ev (.tmp 42) = .slice yl nL dl := hr (42, some 1) (by simp); have hk := he.1; have hf := he.2; clear hr he
        go_simp
      · exact (CR.out wq hS.kp).mono fun e w' ⟨h1, h2⟩ => ⟨h1, hS.step h2⟩
      refine GFrom.cons (GStep.val _ rfl rfl _ rfl (fun g => .bool true) (fun _ => rfl) (fun _ => trivial) (fun bs g ev wq hS he hr => ?_)) ?_
      · have r0 : ev (.tmp 41) = .bool false := hr (41, some 0) (by simp); have r1 : ev (.tmp 43) = .bool false := hr (43, some 2) (by simp); have hk := he.1; clear hr he
        go_simp
      refine GFrom.cons (GStep.val _ rfl rfl _ rfl (fun g => .bool true) (fun _ => rfl) (fun _ => trivial) (fun bs g ev wq hS he hr => ?_)) ?_
      · have r0 : ev (.tmp 44) = .bool true := hr (44, some 3) (by simp); have hk := he.1; clear hr he
        go_simp
      refine GFrom.cons (GStep.val _ rfl rfl _ rfl (fun g => .pointer (some ⟨P, 0, none⟩)) (fun _ => rfl) (fun _ => rfl) (fun bs g ev wq hS he hr => ?_)) ?_
      · have r0 : ev (.tmp 5) = .pointer (some ⟨P, 0, none⟩) := hr (5, none) (by simp); have hk := he.1; clear hr he
        go_simp
      refine GFrom.cons (GStep.callm _ rfl _ rfl (fun _ => rfl) 32 (fun g => #[.pointer (some ⟨P, 0, none⟩)]) (fun bs g ev wq hS he hr => ?_) (fun L g wq hL hd hcl hS => ?_)) ?_
      · have r0 : ev (.tmp 46) = .pointer (some ⟨P, 0, none⟩) := hr (46, some 5) (by simp); have hk := he.1; have hf := he.2; clear hr he
        go_simp
      · refine (pen_bytes P vP _ wq (HP8.out.kept hS.kp (fun h => h) (fun _ _ h => h)) HPL.out).mono ?_
        rintro e w' ⟨r, rfl, ow, kn⟩
        refine ⟨r, r, rfl, rfl, old_set1B r hL rfl, ?_⟩
        exact ⟨hS.kp.trans kn (fun _ _ h => h), fun _ => BySl.ofOwn ow HP8.out.bytes (fun _ _ _ h => h)⟩
      refine GFrom.cons (GStep.make _ rfl _ rfl (fun _ => rfl) (fun L g ev wq hL hd hcl hS he hr => ?_)) ?_
      · have r0 : ev (.tmp 47) = g := hr (47, some 6) (by simp); clear hr he
        have l6 : L 6 = true := hd 6 (by kernel_rfl)
        have hb := hS.by' (by simpa [bitsAt] using l6)
        obtain ⟨yg, cg, eg⟩ := BySl.sizeB hb
        have e1 := (conv_any hb).trans (by rw [HSW.out])
        rw [eg] at r0 e1
        exact ⟨.string (st []), g, wq, by go_simp, rfl, fun _ _ => rfl, by rw [bitsAt_upd rfl]; exact hS⟩
      refine GFrom.cons (GStep.val _ rfl rfl _ rfl (fun g => .string (st [])) (fun _ => rfl) (fun _ => rfl) (fun bs g ev wq hS he hr => ?_)) ?_
      · have r0 : ev (.tmp 7) = .string (st []) := hr (7, none) (by simp); have hk := he.1; clear hr he
        go_simp
      refine GFrom.cons (GStep.val _ rfl rfl _ rfl (fun g => .bool true) (fun _ => rfl) (fun _ => rfl) (fun bs g ev wq hS he hr => ?_)) ?_
      · have r0 : ev (.tmp 48) = .string (st []) := hr (48, some 7) (by simp); have r1 : ev (.tmp 49) = .string (st []) := hr (49, some 8) (by simp); have hk := he.1; clear hr he
        have e1 := EQX.out
        go_simp
      refine GFrom.cons (GStep.val _ rfl rfl _ rfl (fun g => .bool true) (fun _ => rfl) (fun _ => trivial) (fun bs g ev wq hS he hr => ?_)) ?_
      · have r0 : ev (.tmp 45) = .bool true := hr (45, some 4) (by simp); have r1 : ev (.tmp 50) = .bool true := hr (50, some 9) (by simp); have hk := he.1; clear hr he
        go_simp
      refine GFrom.cons (GStep.val _ rfl rfl _ rfl (fun g => .bool true) (fun _ => rfl) (fun _ => trivial) (fun bs g ev wq hS he hr => ?_)) ?_
      · have r0 : ev (.tmp 51) = .bool true := hr (51, some 10) (by simp); have hk := he.1; clear hr he
        go_simp
      refine GFrom.cons (GStep.val _ rfl rfl _ rfl (fun g => .slice pg nG dg) (fun _ => rfl) (fun _ => rfl) (fun bs g ev wq hS he hr => ?_)) ?_
      · have r0 : ev (.tmp 10) = .slice pg nG dg := hr (10, none) (by simp); have hk := he.1; clear hr he
        go_simp
      refine GFrom.cons (GStep.val _ rfl rfl _ rfl (fun g => .slice pi nG di) (fun _ => rfl) (fun _ => rfl) (fun bs g ev wq hS he hr => ?_)) ?_
      · have r0 : ev (.tmp 11) = .slice pi nG di := hr (11, none) (by simp); have hk := he.1; clear hr he
        go_simp
      refine GFrom.cons (GStep.call _ rfl rfl _ rfl (fun g => .bool true) (fun _ => rfl) (fun _ => rfl) 13 (fun g => #[.slice pg nG dg, .slice pi nG di]) (fun bs g ev wq hS he hr => ?_) (fun L g wq hd hL hS => ?_)) ?_
      · have r0 : ev (.tmp 53) = .slice pg nG dg := hr (53, some 12) (by simp); have r1 : ev (.tmp 54) = .slice pi nG di := hr (54, some 13) (by simp); have hk := he.1; have hf := he.2; clear hr he
        go_simp
      · exact (CS.out wq hS.kp).mono fun e w' ⟨h1, h2⟩ => ⟨h1, hS.step h2⟩
      refine GFrom.cons (GStep.val _ rfl rfl _ rfl (fun g => .bool true) (fun _ => rfl) (fun _ => trivial) (fun bs g ev wq hS he hr => ?_)) ?_
      · have r0 : ev (.tmp 52) = .bool true := hr (52, some 11) (by simp); have r1 : ev (.tmp 55) = .bool true := hr (55, some 14) (by simp); have hk := he.1; clear hr he
        go_simp
      refine GFrom.cons (GStep.val _ rfl rfl _ rfl (fun g => .bool true) (fun _ => rfl) (fun _ => trivial) (fun bs g ev wq hS he hr => ?_)) ?_
      · have r0 : ev (.tmp 56) = .bool true := hr (56, some 15) (by simp); have hk := he.1; clear hr he
        go_simp
      refine GFrom.cons (GStep.val _ rfl rfl _ rfl (fun g => .pointer (some ⟨E, 0, none⟩)) (fun _ => rfl) (fun _ => rfl) (fun bs g ev wq hS he hr => ?_)) ?_
      · have r0 : ev (.tmp 8) = .pointer (some ⟨E, 0, none⟩) := hr (8, none) (by simp); have hk := he.1; clear hr he
        go_simp
      refine GFrom.cons (GStep.call _ rfl rfl _ rfl (fun g => .int .i64 e3) (fun _ => rfl) (fun _ => rfl) 33 (fun g => #[.pointer (some ⟨E, 0, none⟩)]) (fun bs g ev wq hS he hr => ?_) (fun L g wq hd hL hS => ?_)) ?_
      · have r0 : ev (.tmp 58) = .pointer (some ⟨E, 0, none⟩) := hr (58, some 17) (by simp); have hk := he.1; have hf := he.2; clear hr he
        go_simp
      · exact (err_any E z3 e3 wq (E8.out.kept hS.kp (fun _ _ h => h))).mono fun e w' ⟨h1, h2⟩ => ⟨h1, by rw [← h2]; exact hS⟩
      refine GFrom.cons (GStep.val _ rfl rfl _ rfl (fun g => .pointer (some ⟨X, 0, none⟩)) (fun _ => rfl) (fun _ => rfl) (fun bs g ev wq hS he hr => ?_)) ?_
      · have r0 : ev (.tmp 9) = .pointer (some ⟨X, 0, none⟩) := hr (9, none) (by simp); have hk := he.1; clear hr he
        go_simp
      refine GFrom.cons (GStep.val _ rfl rfl _ rfl (fun g => .pointer (some ⟨X, 0, none⟩)) (fun _ => rfl) (fun _ => rfl) (fun bs g ev wq hS he hr => ?_)) ?_
      · have r0 : ev (.tmp 60) = .pointer (some ⟨X, 0, none⟩) := hr (60, some 19) (by simp); have hk := he.1; clear hr he
        go_simp
      refine GFrom.cons (GStep.val _ rfl rfl _ rfl (fun g => .pointer (some ⟨X, 1, none⟩)) (fun _ => rfl) (fun _ => rfl) (fun bs g ev wq hS he hr => ?_)) ?_
      · have r0 : ev (.tmp 61) = .pointer (some ⟨X, 0, none⟩) := hr (61, some 20) (by simp); have hk := he.1; clear hr he
        go_simp
      refine GFrom.cons (GStep.val _ rfl rfl _ rfl (fun g => .int .i64 e3) (fun _ => rfl) (fun _ => rfl) (fun bs g ev wq hS he hr => ?_)) ?_
      · have r0 : ev (.tmp 62) = .pointer (some ⟨X, 1, none⟩) := hr (62, some 21) (by simp); have hk := he.1; clear hr he
        have c0 := (X8.out.kept hS.kp (fun h => h)).cell 1
        go_simp
      refine GFrom.cons (GStep.val _ rfl rfl _ rfl (fun g => .bool true) (fun _ => rfl) (fun _ => rfl) (fun bs g ev wq hS he hr => ?_)) ?_
      · have r0 : ev (.tmp 59) = .int .i64 e3 := hr (59, some 18) (by simp); have r1 : ev (.tmp 63) = .int .i64 e3 := hr (63, some 22) (by simp); have hk := he.1; clear hr he
        go_simp
      refine GFrom.cons (GStep.val _ rfl rfl _ rfl (fun g => .bool true) (fun _ => rfl) (fun _ => trivial) (fun bs g ev wq hS he hr => ?_)) ?_
      · have r0 : ev (.tmp 57) = .bool true := hr (57, some 16) (by simp); have r1 : ev (.tmp 64) = .bool true := hr (64, some 23) (by simp); have hk := he.1; clear hr he
        go_simp
      refine GFrom.cons (GStep.val _ rfl rfl _ rfl (fun g => .bool true) (fun _ => rfl) (fun _ => trivial) (fun bs g ev wq hS he hr => ?_)) ?_
      · have r0 : ev (.tmp 65) = .bool true := hr (65, some 24) (by simp); have hk := he.1; clear hr he
        go_simp
      refine GFrom.cons (GStep.val _ rfl rfl _ rfl (fun g => .pointer (some ⟨E, 0, none⟩)) (fun _ => rfl) (fun _ => rfl) (fun bs g ev wq hS he hr => ?_)) ?_
      · have r0 : ev (.tmp 8) = .pointer (some ⟨E, 0, none⟩) := hr (8, none) (by simp); have hk := he.1; clear hr he
        go_simp
      refine GFrom.cons (GStep.call _ rfl rfl _ rfl (fun g => .int .i64 (z3.length : Int)) (fun _ => rfl) (fun _ => rfl) 34 (fun g => #[.pointer (some ⟨E, 0, none⟩)]) (fun bs g ev wq hS he hr => ?_) (fun L g wq hd hL hS => ?_)) ?_
      · have r0 : ev (.tmp 67) = .pointer (some ⟨E, 0, none⟩) := hr (67, some 26) (by simp); have hk := he.1; have hf := he.2; clear hr he
        go_simp
      · exact (left_any E z3 e3 wq (E8.out.kept hS.kp (fun _ _ h => h))).mono fun e w' ⟨h1, h2⟩ => ⟨h1, by rw [← h2]; exact hS⟩
      refine GFrom.cons (GStep.val _ rfl rfl _ rfl (fun g => .pointer (some ⟨X, 0, none⟩)) (fun _ => rfl) (fun _ => rfl) (fun bs g ev wq hS he hr => ?_)) ?_
      · have r0 : ev (.tmp 9) = .pointer (some ⟨X, 0, none⟩) := hr (9, none) (by simp); have hk := he.1; clear hr he
        go_simp
      refine GFrom.cons (GStep.val _ rfl rfl _ rfl (fun g => .pointer (some ⟨X, 0, none⟩)) (fun _ => rfl) (fun _ => rfl) (fun bs g ev wq hS he hr => ?_)) ?_
      · have r0 : ev (.tmp 69) = .pointer (some ⟨X, 0, none⟩) := hr (69, some 28) (by simp); have hk := he.1; clear hr he
        go_simp
      refine GFrom.cons (GStep.val _ rfl rfl _ rfl (fun g => .pointer (some ⟨X, 0, none⟩)) (fun _ => rfl) (fun _ => rfl) (fun bs g ev wq hS he hr => ?_)) ?_
      · have r0 : ev (.tmp 70) = .pointer (some ⟨X, 0, none⟩) := hr (70, some 29) (by simp); have hk := he.1; clear hr he
        go_simp
      refine GFrom.cons (GStep.val _ rfl rfl _ rfl (fun g => .string s3) (fun _ => rfl) (fun _ => rfl) (fun bs g ev wq hS he hr => ?_)) ?_
      · have r0 : ev (.tmp 71) = .pointer (some ⟨X, 0, none⟩) := hr (71, some 30) (by simp); have hk := he.1; clear hr he
        have c0 := (X8.out.kept hS.kp (fun h => h)).cell 0
        go_simp
      refine GFrom.cons (GStep.val _ rfl rfl _ rfl (fun g => .int .i64 (z3.length : Int)) (fun _ => rfl) (fun _ => rfl) (fun bs g ev wq hS he hr => ?_)) ?_
      · have r0 : ev (.tmp 72) = .string s3 := hr (72, some 31) (by simp); have hk := he.1; clear hr he
        have e1 := S3.out
        go_simp
      refine GFrom.cons (GStep.val _ rfl rfl _ rfl (fun g => .bool true) (fun _ => rfl) (fun _ => rfl) (fun bs g ev wq hS he hr => ?_)) ?_
      · have r0 : ev (.tmp 68) = .int .i64 (z3.length : Int) := hr (68, some 27) (by simp); have r1 : ev (.tmp 73) = .int .i64 (z3.length : Int) := hr (73, some 32) (by simp); have hk := he.1; clear hr he
        go_simp
      refine GFrom.cons (GStep.val _ rfl rfl _ rfl (fun g => .bool true) (fun _ => rfl) (fun _ => trivial) (fun bs g ev wq hS he hr => ?_)) ?_
      · have r0 : ev (.tmp 66) = .bool true := hr (66, some 25) (by simp); have r1 : ev (.tmp 74) = .bool true := hr (74, some 33) (by simp); have hk := he.1; clear hr he
        go_simp
      refine GFrom.cons (GStep.val _ rfl rfl _ rfl (fun g => .bool true) (fun _ => rfl) (fun _ => trivial) (fun bs g ev wq hS he hr => ?_)) ?_
      · have r0 : ev (.tmp 75) = .bool true := hr (75, some 34) (by simp); have hk := he.1; clear hr he
        go_simp
      exact GFrom.nil
    case hS => exact ⟨(Kp.refl Nb w8).drew, fun h => by simp at h⟩
    case hend =>
    intro g w9 h9
    have K9 := hid (K8.out.trans h9.kp (fun _ _ h => h))
    clear h9
    simp only [putAll, List.zip_cons_cons, List.zip_nil_right, List.foldl_cons, List.foldl_nil, Act.put, List.setIfInBounds_toArray, List.set_cons_zero, List.set_cons_succ]
    go_wp2
    go_ret
    exact ⟨rfl, K9.out⟩

end Go.Proofs.Ytijlmfmpfjjlpaa
